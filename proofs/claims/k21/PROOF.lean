import PyProof.Rows.All
import Wide.All
import OpenK.AllK
import Wide.FinOn
import Lean
import PyProof.EqAt
import PyProof.EqKinds
import PyProof.TupleCall
import PySem.Challenge.RW_tapeproof_k21_leaps_cut
local macro_rules | `(tactic| omega) => `(tactic| lia)
set_option Elab.async false
set_option linter.all false
set_option maxRecDepth 100000
abbrev Ua:=@PySem.wpAny_bind
abbrev Ub:=@PySem.Heap.get?_push_of_some
abbrev Uc:=@if_pos
abbrev Ud:=@if_neg
abbrev Ue:=@Bool.false_ne_true
abbrev Uf:=@List.size_toArray
abbrev Ug:=@List.getElem?_set_ne
abbrev Uh:=@Nat.le_refl
abbrev Ui:=@PySem.wpAny_pure
abbrev Uj:=@List.getElem?_eq_some_iff
abbrev Uk:=@PySem.Heap.lt_size
abbrev Ul:=@decide_eq_false
abbrev Um:=@List.length_map
abbrev Uo:=@PySem.Heap.get?_push_size
abbrev Up:=@List.getElem?_map
abbrev Uq:=@List.mem_cons_of_mem
abbrev Ur:=@List.mem_cons_self
abbrev Us:=@List.mem_append_right
abbrev Ut:=@Nat.lt_of_lt_of_le
abbrev Uu:=@List.mem_singleton
abbrev Uv:=@Nat.le_trans
abbrev Uw:=@List.getElem?_append_left
abbrev Ux:=@List.length_append
abbrev Uy:=@PySem.W.mg_none_of
abbrev Uz:=@decide_eq_true
abbrev UA:=@Nat.ne_of_lt
abbrev UB:=@Int.emod_nonneg
abbrev UC:=@List.getElem?_eq_getElem
abbrev UD:=@List.getElem?_append_right
abbrev UE:=@Int.emod_lt_of_pos
abbrev UG:=@List.map_cons
abbrev UH:=@Bool.and_eq_true
abbrev UI:=@List.all_eq_true
abbrev UJ:=@List.getElem_mem
abbrev UK:=@List.find?_cons
abbrev UL:=@List.mem_cons
abbrev UM:=@PySem.wpAny_field
abbrev UN:=@PySem.W.kia_one
abbrev UO:=@PyProof.Rows.slot_tuple_getitem
abbrev UP:=@List.getElem?_eq_none
abbrev UQ:=@List.replicate_succ
abbrev UR:=@List.length_cons
abbrev US:=@List.getElem?_eq_none_iff
abbrev UT:=@PySem.Heap.get?_update_other
abbrev UU:=@PySem.wpAny_mono
abbrev UV:=@List.length_replicate
abbrev UW:=@List.take_succ_eq_append_getElem
abbrev UX:=@List.mem_append
abbrev UY:=@List.append_nil
abbrev UZ:=@List.getElem?_set_self
abbrev U0:=@beq_eq_false_iff_ne
abbrev U1:=@beq_iff_eq
abbrev U2:=@PySem.wpAny_callSpecial?_slot
abbrev U3:=@PyProof.Rows.callWith_type1
abbrev U4:=@Array.getElem?_eq_some_iff
abbrev U5:=@PySem.wpAny_newObj_type
abbrev U6:=@Nat.lt_irrefl
abbrev U7:=@List.getElem_of_mem
abbrev U8:=@PySem.W.mg_of
abbrev U9:=@PySem.Heap.size_push
abbrev Ta:=@Nat.lt_succ_self
abbrev Tc:=@Option.isSome_iff_exists
abbrev Td:=@List.mem_append_left
abbrev Te:=@PySem.wpAny_seqItems
abbrev Tf:=@List.getElem?_cons_zero
abbrev Tg:=@PySem.wpAny_truthy_bool
abbrev Th:=@of_decide_eq_true
abbrev Ti:=@List.length_set
abbrev Tj:=@PySem.W.kia_tup
abbrev Tk:=@List.filterMap_cons
abbrev Tl:=@PySem.mem_of_lookup
abbrev Tm:=@Int.toNat_of_nonneg
abbrev Tn:=@Nat.le_of_lt
abbrev To:=@PySem.wpAny_holding
abbrev Tp:=@List.any_cons
abbrev Tq:=@List.filter_cons
abbrev Tr:=@PySem.F.slot_tuple_iterator_next
abbrev Ts:=@Nat.zero_le
abbrev Tt:=@PySem.wpAny_setField_rec
abbrev Tu:=@Decidable.byContradiction
abbrev Tv:=@PySem.wpAny_passesOwn
abbrev Tw:=@Bool.eq_iff_iff
abbrev Tx:=@List.reverse_cons
abbrev Tz:=@List.flatten_cons
abbrev TB:=@List.getElem?_replicate
abbrev TC:=@List.getElem?_cons_succ
abbrev TD:=@List.length_take
abbrev TF:=@List.length_drop
abbrev TH:=@PySem.wpAny_call_entry
abbrev TJ:=@List.take_length
abbrev TK:=@Option.map_eq_some_iff
abbrev TL:=@List.pairwise_cons
abbrev TM:=@PySem.Heap.get?_update_self
abbrev TN:=@List.getElem?_toArray
abbrev TQ:=@List.length_filter_le
abbrev TR:=@PySem.W.kitx_list
abbrev TU:=@Bool.and_eq_true_iff
abbrev TV:=@List.mem_range
abbrev TW:=@Int.le_refl
abbrev TX:=@Array.length_toList
abbrev TY:=@congrArg
abbrev TZ:=@PySem.wpAny_handleBy_cons
abbrev T0:=@PySem.F.args_tuple_add_2
abbrev T1:=@List.mem_filter
abbrev T3:=@List.map_append
abbrev T4:=@PySem.wpAny_Call_Name_kw
abbrev T5:=@PySem.Obj.data_mapFields
abbrev T6:=@Bool.false_eq_true
abbrev T7:=@PySem.F.entry_tuple_add
abbrev T8:=@PySem.F.plainAttrs_list
abbrev T9:=@PySem.F.slot_tuple_add
abbrev Rb:=@List.take_of_length_le
abbrev Rc:=@PySem.wpAny_pyIter_list
abbrev Re:=@PySem.wpAny_setField
abbrev Rf:=@List.set_set
abbrev Rg:=@List.length_singleton
abbrev Rh:=@Nat.le_of_not_lt
abbrev Ri:=@beq_self_eq_true
abbrev Rj:=@PySem.W.looks_findIn
abbrev Rk:=@List.mem_of_getElem?
abbrev Rl:=@List.all_cons
abbrev Rm:=@PySem.call_meets
abbrev Rn:=@PySem.wpAny_updateSeq_pair
abbrev Ro:=@PySem.F.args_tuple_iterator_next_1
abbrev Rq:=@PySem.wpAny_execs_nil
abbrev Rr:=@List.nodup_cons
abbrev Rs:=@List.forIn_cons
abbrev Rt:=@PySem.F.slot_zip_next
abbrev Ru:=@PySem.W.plainGet_of
abbrev Rv:=@if_true
abbrev Rw:=@PySem.W.looks_subIn
abbrev Rx:=@Bool.or_eq_true_iff
abbrev Ry:=@PySem.F.entry_tuple_iterator_next
abbrev Rz:=@Nat.ne_of_gt
abbrev RA:=@Nat.zero_add
abbrev RB:=@PySem.Calls.Name_function_global
abbrev RC:=@PySem.AutoSeq1.list_clear_list_0
abbrev RD:=@PySem.F.excBase_ValueError
abbrev RE:=@Array.append_assoc
abbrev RG:=@List.mem_filterMap
abbrev RH:=@PySem.W.kitx_tuple
abbrev RI:=@PySem.SeqAt.EqAt.int_int
abbrev RJ:=@PySem.W.callWith_K
abbrev RK:=@List.forIn_nil
abbrev RL:=@List.pairwise_iff_getElem
abbrev RM:=@Classical.byContradiction
abbrev RN:=@PySem.W.kitx_dict
abbrev RO:=@Int.toNat_natCast
abbrev RP:=@List.getElem?_take_of_lt
abbrev RS:=@PySem.sizeLine_eq
abbrev RT:=@PySem.wpAny_onRaise
abbrev RU:=@PySem.wpAny_attempt
abbrev RV:=@PySem.F.plainAttrs_dict
abbrev RW:=@PySem.F.slot_list_clear
abbrev RX:=@PySem.noFill_tuple_add
abbrev RY:=@List.any_eq_true
abbrev RZ:=@List.cons_append
abbrev Wa:=@PySem.W.cellsFrom_some
abbrev Wd:=@if_false
abbrev We:=@PySem.wpAny_typeOf
abbrev Wf:=@PySem.codeAny_mono
abbrev Wg:=@List.of_mem_zip
abbrev Wh:=@PySem.SeqAt.EqAt.same
abbrev Wj:=@beq_false_of_ne
abbrev Wk:=@Array.getElem?_toList
abbrev Wm:=@PySem.W.methodCall_KW
abbrev Wn:=@List.dropLast_eq_take
abbrev Wp:=@PySem.F.slot_dict_pop
abbrev Wq:=@PySem.F.slot_dict_get
abbrev Wu:=@List.dropLast_concat
abbrev Wv:=@PySem.wpAny_loadPart
abbrev Ww:=@Nat.le_succ
abbrev Wx:=@PySem.wpAny_of_eq
abbrev Wy:=@PySem.wpAny_letGo
abbrev WF:=@Int.add_assoc
abbrev WQ:=@PySem.wpAny_call
abbrev WR:=@PySem.wpAny_rule
abbrev Bd:=@Nat.add_zero
open PySem.W (Frag InitBack KitX Looks any_some bind_fn callWith_K callWith_K0 cellsFrom_some class_get clsIn codeIn codeRec_of emptyDict eq_bytes excIn findIn findObj findObj_own fnOf get_value handedIn hasDictIn hideAll hideAll_get hideAll_none hideAll_size instObj isFn isNs_of_in kdl_call kdl_dict keepIn ki_setAt ki_setBack kia_one kia_tup kitAny kitOne kitx_bool kitx_dict kitx_float kitx_int kitx_list kitx_none kitx_own kitx_str kitx_tuple lookIn looks_clsIn looks_find looks_findIn looks_subIn looks_typeIn make_core makesIn makes_of methodCall_KW methodObj method_fn mg_none_of mg_of mroIn ne_bytes nsIn nsMap_none_of_in of_hideAll osa_open plainGet plainGet_of plainOver set_plain specialIn subIn tail_of_in takerIn takesIn typeIn)
namespace L2
open PySem PySem.Spec PyProof.Rows
section
noncomputable abbrev Key:=Sum Int Str
noncomputable def QeQ:Key->Value->Bool
 |.inl k,v=>Value.isInt k v
 |.inr x,v=>Value.isStrOf x v
noncomputable def keyH(w:World):Key->Int
 |.inl k=>hashInt k
 |.inr x=>hashStr w x
theorem Q4:∀{k:Key}{v:Value},QeQ k v=true->(∃i t,k=Sum.inl i/\v=Value.int i t)\/(∃x t,k=Sum.inr x/\v=Value.str x t)
 |.inl i,v,h=>by
  obtain⟨t,e⟩:=Value.isInt_shape (k:=i) (v:=v) h
  exact .inl ⟨i,t,rfl,e⟩
 |.inr x,v,h=>by
  obtain⟨t,e⟩:=Value.isStrOf_shape (x:=x) (v:=v) h
  exact .inr ⟨x,t,rfl,e⟩
theorem Qhh(i:Int)(t:Tok):QeQ (.inl i) (.int i t)=true:=by simp[QeQ,Value.isInt]
theorem Qhi(x:Str)(t:Tok):QeQ (.inr x) (.str x t)=true:=by simp[QeQ,Value.isStrOf]
theorem Qmm(a b:Int):decide ((Sum.inl a:Key)=Sum.inl b)=(a == b):=by
 by_cases e:a=b
 ·subst e;simp
 ·have h:¬(Sum.inl a:Key)=Sum.inl b:=λq=>e (Sum.inl.inj q)
  rw[Ul h]
  exact(U0.mpr e).symm
theorem Qmn(a b:Str):decide ((Sum.inr a:Key)=Sum.inr b)=decide (a=b):=by
 by_cases e:a=b
 ·subst e;simp
 ·have h:¬(Sum.inr a:Key)=Sum.inr b:=λq=>e (Sum.inr.inj q)
  rw[Ul h,Ul e]
theorem Qmo(a:Int)(b:Str):decide ((Sum.inl a:Key)=Sum.inr b)=false:=Ul (λq=>nomatch q)
theorem Qmp(a:Str)(b:Int):decide ((Sum.inr a:Key)=Sum.inl b)=false:=Ul (λq=>nomatch q)
noncomputable def YF(prog:Program)(w:World):PySem.KeyKind prog w Key where
 is:=QeQ
 hash:=keyH w
 inj:=λv a b ha hb=>by
  rcases Q4 ha with⟨i,t,rfl,rfl⟩|⟨x,t,rfl,rfl⟩
  ·rcases Q4 hb with⟨j,u,rfl,e⟩|⟨y,u,rfl,e⟩
   ·injection e with e1 _;rw[e1]
   ·exact nomatch e
  ·rcases Q4 hb with⟨j,u,rfl,e⟩|⟨y,u,rfl,e⟩
   ·exact nomatch e
   ·injection e with e1 _;rw[e1]
 byValue:=λk v h=>by
  rcases Q4 h with⟨i,t,rfl,rfl⟩|⟨x,t,rfl,rfl⟩ <;> rfl
 pyHash:=λhv h=>by
  rcases Q4 hv with⟨i,t,rfl,rfl⟩|⟨x,t,rfl,rfl⟩
  ·exact wpAny_pyHash_int h
  ·exact wpAny_pyHash_str h
 eqBool:=λhu hv h=>by
  rcases Q4 hu with⟨i,t,rfl,rfl⟩|⟨x,t,rfl,rfl⟩
  ·rcases Q4 hv with⟨j,u,rfl,rfl⟩|⟨y,u,rfl,rfl⟩
   ·rw[Qmm]at h;exact wpAny_eqBool_int h
   ·rw[Qmo]at h;exact SeqAt.EqAt.int_str i t y u _ _ _ _ h
  ·rcases Q4 hv with⟨j,u,rfl,rfl⟩|⟨y,u,rfl,rfl⟩
   ·rw[Qmp]at h;exact SeqAt.EqAt.str_int x t j u _ _ _ _ h
   ·rw[Qmn]at h;exact wpAny_eqBool_str h
 «strs»:=λk x t v h=>by
  rcases Q4 h with⟨i,u,rfl,e⟩|⟨y,u,rfl,e⟩
  ·exact nomatch e
  ·injection e with e1 _
   subst e1
   cases v <;> rfl
theorem QeR(prog:Program)(w:World)(i:Int)(t:Tok):(YF prog w).is (.inl i) (.int i t)=true:=Qhh i t
theorem QeS(prog:Program)(w:World)(x:Str)(t:Tok):(YF prog w).is (.inr x) (.str x t)=true:=Qhi x t
end
section
inductive V where
 |non|bl (b:Bool)|int (i:Int)|str (x:Str)|byt (b:Array UInt8)|flt (b:UInt64)|ref (a:Addr)|ty (n:String)
 deriving DecidableEq
noncomputable def RelV:V->Value->Prop
 |.non,u=>u=Value.none
 |.bl b,u=>u=Value.bool b
 |.int i,u=>∃t,u=Value.int i t
 |.str x,u=>∃t,u=Value.str x t
 |.byt b,u=>∃t,u=Value.bytes b t
 |.flt b,u=>∃t,u=Value.float b t
 |.ref a,u=>u=Value.ref a
 |.ty n,u=>u=Value.type n
noncomputable abbrev Vals:List V->List Value->Prop:=Paired RelV
theorem Vals.length{xs:List V}{us:List Value}(r:Vals xs us):xs.length=us.length:=Paired.length r
theorem Vals.get:∀{xs:List V}{us:List Value}{i:Nat}{x:V},Vals xs us->xs[i]?=some x->∃u,us[i]?=some u/\RelV x u
 |_,_,_,_,.nil,e=>by simp at e
 |_,_,0,_,.cons r _,e=>by simp at e;subst e;exact⟨_,rfl,r⟩
 |_,_,i+1,x,.cons _ t,e=>by
  obtain⟨u,h1,h2⟩:=Vals.get (i:=i) (x:=x) t (by simpa using e)
  exact⟨u,by simpa using h1,h2⟩
theorem Vals.set{x:V}{u:Value}(r:RelV x u):∀{xs:List V}{us:List Value}(i:Nat),Vals xs us->Vals (xs.set i x) (us.set i u)
 |_,_,_,.nil=>.nil
 |_,_,0,.cons _ t=>.cons r t
 |_,_,i+1,.cons q t=>.cons q (Vals.set r i t)
theorem Vals.append:∀{xs ys:List V}{us ws:List Value},Vals xs us->Vals ys ws->Vals (xs++ys) (us++ws)
 |_,_,_,_,.nil,s=>s
 |_,_,_,_,.cons r t,s=>.cons r (Vals.append t s)
theorem Vals.take:∀{xs:List V}{us:List Value}(n:Nat),Vals xs us->Vals (xs.take n) (us.take n)
 |_,_,0,_=>.nil
 |_,_,_+1,.nil=>.nil
 |_,_,n+1,.cons r t=>.cons r (Vals.take n t)
theorem Vals.drop:∀{xs:List V}{us:List Value}(n:Nat),Vals xs us->Vals (xs.drop n) (us.drop n)
 |_,_,0,r=>r
 |_,_,_+1,.nil=>.nil
 |_,_,n+1,.cons _ t=>Vals.drop n t
theorem Vals.none_of:∀{xs:List V}{us:List Value}{i:Nat},Vals xs us->xs[i]?=none->us[i]?=none:=λ{xs us i} r e=>by
 have h1:=r.length
 have h2:xs.length<=i:=US.mp e
 exact US.mpr (by omega)
noncomputable def RelO:Option V->Option Value->Prop
 |some v,some u=>RelV v u
 |none,none=>True
 |_,_=>False
noncomputable def KV{κ:Type}:List (κ×V)->List (κ×Value)->Prop:=Paired λ(p:κ×V)(q:κ×Value)=>p.1=q.1/\RelV p.2 q.2
noncomputable def kV:Key->V
 |.inl i=>.int i
 |.inr x=>.str x
inductive HO where
 /-- a list -/
 |lst (xs:List V)
 /-- a tuple (never changes) -/
 |tup (xs:List V)
 /-- a dict whose keys are ints and texts;one whose keys are tuples of ints and texts (the empty one is both) -/
 |dK (kvs:List (Key×V))|dT (kvs:List (List Key×V))
 /-- a set of ints: its members,its size -/
 |set (S:Int->Bool) (n:Nat)
 /-- an instance of the class at C,its dict at dx,its attributes -/
 |ins (C dx:Addr) (fs:List (Str×V))
 /-- the dict of the instance at x -/
 |own (x:Addr)
 /-- the dict of an exception -/
 |xd (fs:List (Str×V))
 /-- a bound method,f of x -/
 |met (f x:Addr)
 /-- a range object lo,lo+1,.. below hi -/
 |rng (lo hi:Int)
 /-- a thing that is known to the object (the script;a dict while a loop walks it): read,never written while it is so -/
 |frz (o:Obj) (u:HO)
 /-- a code object's table -/
 |tbl (ps:Array Value)
 /-- any other thing,by what is true of its one object (a def of one's own: SetO a S n:=HO.ext λh=>..) -/
 |ext (φ:Heap->Prop)
noncomputable abbrev Hp:=Addr->Option HO
noncomputable def upd(H:Hp)(a:Addr)(o:HO):Hp:=λb=>if b=a then some o else H b
theorem Qn{H:Hp}{a:Addr}{o:HO}:upd H a o a=some o:=by unfold upd;rw[Uc rfl]
theorem Qr{H:Hp}{a b:Addr}{o:HO}(h:b≠a):upd H a o b=H b:=by unfold upd;rw[Ud h]
theorem Qk3{H:Hp}{a b:Addr}{o u:HO}(h:H a=some o)(h':H b=some u)(d:o≠u):a≠b:=by
 intro e;subst e;rw[h]at h';exact d (Option.some.inj h')
theorem QQ{H:Hp}{a b:Addr}{o:HO}(h:H a=some o)(h':H b=none):a≠b:=by
 intro e;subst e;rw[h]at h';cases h'
section
variable(P:Program)(w:World)
noncomputable def ObjOk(H:Hp)(h:Heap)(a:Addr):HO->Prop
 |.lst xs=>xs.length<=sizeLine/\∃(its:List Value)(n:Nat),Vals xs its/\h.get? a=some {cls:=.type "list",data:=.seq its.toArray n}
 |.tup xs=>xs.length<=sizeLine/\∃its:List Value,Vals xs its/\IsTup h a its.toArray
 |.dK kvs=>kvs.length<=sizeLine/\(a == sysModules)=false/\∃vs,KV kvs vs/\h.DictOf (YF P w) a vs
 |.dT kvs=>kvs.length<=sizeLine/\(a == sysModules)=false/\∃xs:List (List Key×Addr×Value),
   Paired (λ(p:List Key×V)(q:List Key×Addr×Value)=>p.1=q.1/\H q.2.1=some (.tup (p.1.map kV))/\RelV p.2 q.2.2) kvs xs /\
   ∃o es ep,h.get? a=some o/\o.ExactDict/\o.data=.dict es ep/\es.toList=xs.map (entryOfKey (tupleKind (YF P w)))/\(xs.map (·.1)).Nodup
 |.set S n=>h.SetOf (intKind P w) a S n
 |.ins C dx fs=>H dx=some (.own a)/\fs.length<=1000/\dx≠a/\h.get? a=some (instObj C dx) /\
   ∃mA,h.Ns1 dx mA/\(∀f,RelO (fs.lookup f) (mA f))/\PySem.Within mA (fs.map (·.1))
 |.own _=>∃o,h.get? a=some o
 |.xd fs=>∃mA,h.Ns1 a mA/\∀f,RelO (fs.lookup f) (mA f)
 |.rng lo hi=>∃t u v,h.get? a=some {cls:=.type "range",data:=.fields #[.int lo t,.int hi u,.int 1 v]}
 |.frz o u=>h.get? a=some o/\ObjOk H h a u
 |.tbl ps=>h.get? a=some {cls:=.none,data:=.fields ps}
 |.met f x=>h.get? a=some (methodObj (.ref f) (.ref x))
 |.ext φ=>φ h/\(∃o,h.get? a=some o)/\∀h1 h2:Heap,φ h1->(∀o,h1.get? a=some o->h2.get? a=some o)->φ h2
def HOk(H:Hp)(h:Heap):Prop:=∀a o,H a=some o->ObjOk P w H h a o
end
section
variable{P:Program}{w:World}{H H':Hp}{h h':Heap}{a:Addr}{o:HO}
theorem ObjOk.lt(x:ObjOk P w H h a o):a<h.objs.size:=by
 cases o with
 |lst xs=>obtain⟨_,_,_,_,e⟩:=x;exact Uk e
 |tup xs=>obtain⟨_,_,_,p⟩:=x;exact p.lt
 |dK kvs=>obtain⟨_,_,_,_,o,_,_,e,_⟩:=x;exact Uk e
 |dT kvs=>obtain⟨_,_,_,_,o,_,_,e,_⟩:=x;exact Uk e
 |set S n=>obtain⟨o,_,_,_,e,_⟩:=x;exact Uk e
 |ins C dx fs=>obtain⟨_,_,_,e,_⟩:=x;exact Uk e
 |own y=>obtain⟨_,e⟩:=x;exact Uk e
 |xd fs=>obtain⟨_,⟨_,_,_,e,_⟩,_⟩:=x;exact Uk e
 |rng lo hi=>obtain⟨_,_,_,e⟩:=x;exact Uk e
 |frz ob u=>obtain⟨e,_⟩:=x;exact Uk e
 |tbl ps=>exact Uk (show h.get? a=some _ from x)
 |met f y=>exact Uk (show h.get? a=some _ from x)
 |ext φ=>obtain⟨_,⟨_,e⟩,_⟩:=x;exact Uk e
theorem Paired.mapP{α β:Type}{F G:α->β->Prop}:∀{l₁:List α}{l₂:List β},Paired F l₁ l₂->(∀a b,F a b->G a b)->Paired G l₁ l₂
 |_,_,.nil,_=>.nil
 |_,_,.cons r t,f=>.cons (f _ _ r) (Paired.mapP t f)
theorem Paired.imp'{α β:Type}{F G:α->β->Prop}(f:∀a b,F a b->G a b){l₁:List α}{l₂:List β}(r:Paired F l₁ l₂):Paired G l₁ l₂:=Paired.mapP r f
theorem ObjOk.stay(x:ObjOk P w H h a o)(k:∀b u,(b=a\/H b=some (.own a))->h.get? b=some u->h'.get? b=some u)(ho:∀b,H b=some (.own a)->H' b=some (.own a))(ht:∀b xs,H b=some (.tup xs)->H' b=some (.tup xs)):ObjOk P w H' h' a o:=by
 induction o with
 |lst xs=>obtain⟨z,its,n,r,e⟩:=x;exact⟨z,its,n,r,k _ _ (.inl rfl) e⟩
 |tup xs=>obtain⟨z,its,r,ob,e,c⟩:=x;exact⟨z,its,r,ob,k _ _ (.inl rfl) e,c⟩
 |dK kvs=>obtain⟨z,y,vs,r,ob,es,ep,e,c⟩:=x;exact⟨z,y,vs,r,ob,es,ep,k _ _ (.inl rfl) e,c⟩
 |dT kvs =>
  obtain⟨z,y,xs,r,ob,es,ep,e,c⟩:=x
  exact⟨z,y,xs,Paired.mapP r λp q z=>⟨z.1,ht _ _ z.2.1,z.2.2⟩,ob,es,ep,k _ _ (.inl rfl) e,c⟩
 |set S n=>obtain⟨ob,es,ep,t,e,c⟩:=x;exact⟨ob,es,ep,t,k _ _ (.inl rfl) e,c⟩
 |ins C dx fs =>
  obtain⟨d,z,ne,e,mA,⟨od,es,ep,e2,c⟩,r⟩:=x
  exact⟨ho _ d,z,ne,k _ _ (.inl rfl) e,mA,⟨od,es,ep,k _ _ (.inr d) e2,c⟩,r⟩
 |own y=>obtain⟨ob,e⟩:=x;exact⟨ob,k _ _ (.inl rfl) e⟩
 |xd fs=>obtain⟨mA,⟨od,es,ep,e,c⟩,r⟩:=x;exact⟨mA,⟨od,es,ep,k _ _ (.inl rfl) e,c⟩,r⟩
 |rng lo hi=>obtain⟨t,u,v,e⟩:=x;exact⟨t,u,v,k _ _ (.inl rfl) e⟩
 |frz ob u ih=>obtain⟨e,q⟩:=x;exact⟨k _ _ (.inl rfl) e,ih q⟩
 |tbl ps =>
  have e:h.get? a=some {cls:=.none,data:=.fields ps}:=x
  show h'.get? a=some {cls:=.none,data:=.fields ps}
  exact k a _ (.inl rfl) e
 |met f y =>
  have e:h.get? a=some (methodObj (.ref f) (.ref y)):=x
  show h'.get? a=some (methodObj (.ref f) (.ref y))
  exact k a _ (.inl rfl) e
 |ext φ=>obtain⟨p,⟨o,e⟩,st⟩:=x;exact⟨st _ _ p λo q=>k _ _ (.inl rfl) q,⟨o,k _ _ (.inl rfl) e⟩,st⟩
theorem HOk.lt(x:HOk P w H h)(e:H a=some o):a<h.objs.size:=(x a o e).lt
theorem HOk.fresh(x:HOk P w H h)(e:h.objs.size<=a):H a=none:=by
 cases q:H a with
 |none=>rfl
 |some u=>exact absurd (Ut (x.lt q) e) (U6 _)
theorem HOk.kept(x:HOk P w H h)(k:∀b u,h.get? b=some u->h'.get? b=some u):HOk P w H h':=λa o e =>
 (x a o e).stay (λb u _ q=>k b u q) (λ_ q=>q) λ_ _ q=>q
theorem HOk.laid(x:HOk P w H h)(k:∀b u,h.get? b=some u->h'.get? b=some u)(hp:h.objs.size<=a)(new:ObjOk P w (upd H a o) h' a o):HOk P w (upd H a o) h':=λb u e=>by
 have hn:=x.fresh hp
 by_cases hb:b=a
 ·subst hb;rw[Qn]at e;cases e;exact new
 ·rw[Qr hb]at e
  exact(x b u e).stay (λc v _ q=>k c v q) (λc q=>by rw[Qr (QQ q hn)];exact q) λc xs q=>by rw[Qr (QQ q hn)];exact q
end
def Rd(H:Hp)(a:Addr)(u:HO):Prop:=H a=some u\/∃o,H a=some (.frz o u)
theorem Rd.of{H:Hp}{a:Addr}{u:HO}(h:H a=some u):Rd H a u:=.inl h
theorem Rd.ok{P:Program}{w:World}{H:Hp}{h:Heap}{a:Addr}{u:HO}(r:Rd H a u)(x:HOk P w H h):ObjOk P w H h a u:=by
 rcases r with r|⟨o,r⟩
 ·exact x a u r
 ·obtain⟨_,q⟩:=x a _ r
  exact q
noncomputable def Mut:Option HO->Prop
 |some (.lst _)=>True
 |some (.dK _)=>True
 |some (.dT _)=>True
 |some (.set _ _)=>True
 |some (.ins _ _ _)=>True
 |some (.ext _)=>True
 |_=>False
section
variable{P:Program}{w:World}{H:Hp}{h h':Heap}{x e:Addr}{o':HO}
theorem HOk.write(ok:HOk P w H h)(mu:Mut (H x))(he:e=x\/H e=some (.own x))(k:∀b u,b≠e->h.get? b=some u->h'.get? b=some u)(heo:∃u,h'.get? e=some u)(new:ObjOk P w (upd H x o') h' x o'):HOk P w (upd H x o') h':=λb u q=>by
 have nown:∀c y,H c=some (.own y)->c≠x:=λc y r z=>by subst z;rw[r]at mu;exact mu
 have ntup:∀c xs,H c=some (.tup xs)->c≠x:=λc xs r z=>by subst z;rw[r]at mu;exact mu
 by_cases hb:b=x
 ·subst hb;rw[Qn]at q;cases q;exact new
 ·rw[Qr hb]at q
  by_cases hbe:b=e
  ·have q':H b=some (.own x):=by
    rcases he with z|z
    ·exact absurd (hbe.trans z) hb
    ·rw[hbe];exact z
   rw[q]at q';cases q'
   obtain⟨v,hv⟩:=heo
   exact⟨v,by rw[hbe];exact hv⟩
  ·refine(ok b u q).stay (λc v hc r=>k c v ?_ r) (λc r=>by rw[Qr (nown c b r)];exact r) λc xs r=>by rw[Qr (ntup c xs r)];exact r
   rcases hc with rfl|hc
   ·exact hbe
   ·rintro rfl
    rcases he with z|z
    ·exact nown c b hc z
    ·rw[hc]at z;cases z;exact hb rfl
end
structure Un(fs ex:List Addr)(H H':Hp)(h h':Heap):Prop where
 keep:∀b o,h.get? b=some o->H b=none->b∉fs->b∉ex->h'.get? b=some o
 slot:∀b o,h.get? b=some o->H b=none->b∈fs->b∉ex->∃sl,h'.get? b=some {o with slots:=sl}
 free:∀b o,h.get? b=some o->H b=none->b∉ex->H' b=none
 there:∀b o,h.get? b=some o->b∉ex->∃o',h'.get? b=some o'
 tups:∀b xs,H b=some (.tup xs)->H' b=some (.tup xs)
 frzs:∀b o u,H b=some (.frz o u)->H' b=some (.frz o u)
 tbls:∀b ps,H b=some (.tbl ps)->∃more,H' b=some (.tbl (ps++more))
section
variable{fs fs' ex ex':List Addr}{H H1 H2:Hp}{h h1 h2 h':Heap}{a x e:Addr}{o:HO}
theorem Un.any(u:Un fs ex H H1 h h1){b:Addr}{ob:Obj}(q:h.get? b=some ob)(n:H b=none)(hx:b∉ex):∃sl,h1.get? b=some {ob with slots:=sl}:=by
 by_cases hb:b∈fs
 ·exact u.slot b ob q n hb hx
 ·exact⟨ob.slots,u.keep b ob q n hb hx⟩
theorem Un.trans(a:Un fs ex H H1 h h1)(b:Un fs ex H1 H2 h1 h2):Un fs ex H H2 h h2 where
 keep:=λc ob q n hc hx=>b.keep c ob (a.keep c ob q n hc hx) (a.free c ob q n hx) hc hx
 slot:=λc ob q n hc hx=>by
  obtain⟨sl,e1⟩:=a.slot c ob q n hc hx
  obtain⟨sl',e2⟩:=b.slot c _ e1 (a.free c ob q n hx) hc hx
  exact⟨sl',e2⟩
 free:=λc ob q n hx=>by
  obtain⟨o',e1⟩:=a.there c ob q hx
  exact b.free c o' e1 (a.free c ob q n hx) hx
 there:=λc ob q hx=>by
  obtain⟨o',e1⟩:=a.there c ob q hx
  exact b.there c o' e1 hx
 tups:=λc xs q=>b.tups c xs (a.tups c xs q)
 frzs:=λc ob xs q=>b.frzs c ob xs (a.frzs c ob xs q)
 tbls:=λc ps q=>by
  obtain⟨m1,e1⟩:=a.tbls c ps q
  obtain⟨m2,e2⟩:=b.tbls c _ e1
  exact⟨m1++m2,by rw[e2,RE]⟩
theorem Un.kept(k:∀b u,h.get? b=some u->h'.get? b=some u):Un fs ex H H h h' :=
 ⟨λb ob q _ _ _=>k b ob q,λb ob q _ _ _=>⟨ob.slots,k b ob q⟩,λ_ _ _ n _=>n,λb ob q _=>⟨ob,k b ob q⟩,λ_ _ q=>q,λ_ _ _ q=>q,λ_ ps q=>⟨#[],by rw[q];simp⟩⟩
theorem Un.refl:Un fs ex H H h h:=Un.kept λ_ _ q=>q
theorem Un.laid(k:∀b u,h.get? b=some u->h'.get? b=some u)(hp:h.objs.size<=a)(hn:H a=none):Un fs ex H (upd H a o) h h' where
 keep:=λb u q _ _ _=>k b u q
 slot:=λb u q _ _ _=>⟨u.slots,k b u q⟩
 free:=λb u q n _=>by rw[Qr (UA (Ut (Uk q) hp))];exact n
 there:=λb u q _=>⟨u,k b u q⟩
 tups:=λb xs q=>by rw[Qr (QQ q hn)];exact q
 frzs:=λb u xs q=>by rw[Qr (QQ q hn)];exact q
 tbls:=λb ps q=>⟨#[],by rw[Qr (QQ q hn),q];simp⟩
theorem Un.write(mu:Mut (H x))(he:e=x\/H e=some (.own x))(k:∀b u,b≠e->h.get? b=some u->h'.get? b=some u)(heo:∃u,h'.get? e=some u):Un fs ex H (upd H x o) h h':=by
 have hx:∀b,H b=none->b≠x:=λb n z=>by subst z;rw[n]at mu;exact mu
 have hb:∀b,H b=none->b≠e:=λb n z=>by
  subst z
  rcases he with r|r
  ·exact hx b n r
  ·rw[n]at r;cases r
 have hm:∀b u,H b=some u->¬Mut (some u)->b≠x:=λb u q nm z=>by subst z;rw[q]at mu;exact nm mu
 refine⟨λb u q n _ _=>k b u (hb b n) q,λb u q n _ _=>⟨u.slots,k b u (hb b n) q⟩,λb u q n _=>by rw[Qr (hx b n)];exact n,λb u q _=>?_,
  λb xs q=>by rw[Qr (hm b _ q λz=>z)];exact q,λb u xs q=>by rw[Qr (hm b _ q λz=>z)];exact q,λb ps q=>⟨#[],by rw[Qr (hm b _ q λz=>z),q];simp⟩⟩
 by_cases hbe:b=e
 ·subst hbe;exact heo
 ·exact⟨u,k b u hbe q⟩
theorem Un.mono(u:Un fs ex H H1 h h1)(hs:∀b∈fs,b∈fs')(hx:∀b∈ex,b∈ex'):Un fs' ex' H H1 h h1 :=
 ⟨λb ob q n hb he=>u.keep b ob q n (λz=>hb (hs b z)) λz=>he (hx b z),λ_ _ q n _ he=>u.any q n λz=>he (hx _ z),λb ob q n he=>u.free b ob q n λz=>he (hx b z),λb ob q he=>u.there b ob q λz=>he (hx b z),u.tups,u.frzs,u.tbls⟩
end
noncomputable def trk(h:Heap)(H:Hp):List Addr:=(List.range h.objs.size).filter λa=>(H a).isSome
noncomputable def hidT(h:Heap)(H:Hp):Heap:=hideAll h (trk h H)
theorem Qhj(h:Heap)(H:Hp):(hidT h H).objs.size=h.objs.size:=hideAll_size _ _
theorem Qjk{h:Heap}{H:Hp}{b:Addr}{o:Obj}(e:h.get? b=some o)(n:H b=none):(hidT h H).get? b=some o :=
 hideAll_get _ e λhm=>by
  have q:(H b).isSome=true:=(T1.mp hm).2
  rw[n]at q;simp at q
theorem Qk4{h:Heap}{H:Hp}{b:Addr}{o:Obj}(e:(hidT h H).get? b=some o):h.get? b=some o/\H b=none:=by
 have e':h.get? b=some o:=of_hideAll (trk h H) e
 refine⟨e',?_⟩
 cases q:H b with
 |none=>rfl
 |some x =>
  have hm:b∈trk h H:=T1.mpr ⟨TV.mpr (Uk e'),by simp[q]⟩
  have z:(hidT h H).get? b=none:=hideAll_none (trk h H) hm
  rw[z]at e;cases e
noncomputable def Qk5(g h:Heap)(L:Addr):List (Addr×Obj):=(List.range h.objs.size).filterMap λa=>if a=L\/(g.get? a).isSome=true then none else (h.get? a).map λo=>(a,o)
noncomputable def rest(g h:Heap)(L d:Addr):List (Addr×Obj):=(Qk5 g h L).filter λp=>decide (p.1≠d)
end
section
structure Mod(K:Frag)(mg:Str->Option Value)(base:Heap):Prop where
 kin:K.In base
 glob:base.Ns mainGlobals mg
 blt:∃mb,base.Ns builtinsNs mb/\∀x:Str,x ≠ "__name__" -> mb x=bootBuiltins x
 nolimit:base.NoLimit
/-- the context: a def's body (or a comprehension's block) running. base: fixed through the whole law;s₀,H₀: the entry;outer: the frames whose slots others may change (a def's callers);stack: all frames that run;
   ex: iterators that were made ahead of the entry and are walked here (a comprehension's);fn: the names whose cells were made at the entry (a def: all;a comprehension's block: its own);calm: not within an except suite;pn: pins that every state bears;xe: what is wanted of an exception that leaves the code -/
structure Cx where
 prog:Program
 w:World
 K:Frag
 mg:Str->Option Value
 base:Heap
 A:Around
 N:List Str
 s₀:Shared
 H₀:Hp
 env:Env
 outer:List Env
 stack:List Env
 ex:List Addr
 fn:Str->Bool
 calm:Bool
 pn:List (Addr×Obj)
 xe:Value->Shared->Prop
noncomputable def frs(l:List Env):List Addr:=l.filterMap (·.frame)
noncomputable abbrev Cx.fs(X:Cx):List Addr:=frs X.outer
def Vis(sc:Scope)(x:Str):Prop:=sc.names.lookup x=some .local\/sc.names.lookup x=some .cell\/sc.names.lookup x=some .free
def Loc(sc:Scope)(x:Str):Prop:=sc.names.lookup x=some .local\/sc.names.lookup x=some .cell
noncomputable def Look(env:Env)(h:Heap)(m:Str->Option Value)(x:Str)(u:Value):Prop :=
 (env.kindOf x=some .local/\m x=some u)\/((env.kindOf x=some .cell\/env.kindOf x=some .free)/\∃c,env.cells.lookup x=some c/\h.IsCell c (some u))
structure Cx.Ok(X:Cx):Prop where
 mod:Mod X.K X.mg X.base
 kind:X.env.scope.kind=.function
 glob:X.env.globals=mainGlobals
 blt:X.env.builtins=builtinsNs
 above:X.s₀.heap.objs.size<=X.env.locals
 inj:∀x y c,X.env.cells.lookup x=some c->X.env.cells.lookup y=some c->x=y
 has:∀x,(X.env.kindOf x=some .cell\/X.env.kindOf x=some .free)->∃c,X.env.cells.lookup x=some c
 cab:∀x c,X.fn x=true->X.env.cells.lookup x=some c->X.s₀.heap.objs.size<=c
 hd:X.calm=true->X.A.handled=none
 frames:X.A.frames=some X.stack
 stk:X.stack=X.outer\/(X.stack=X.env::X.outer/\X.env.frame=some X.env.locals)
 exf:∀b∈X.ex,b≠X.env.locals/\∀x c,X.env.cells.lookup x=some c->c≠b
 bs:∀b o,X.base.get? b=some o->X.s₀.heap.get? b=some o/\X.H₀ b=none
 bsz:X.base.objs.size<=X.s₀.heap.objs.size
 noex:∀b o,X.base.get? b=some o->b∉X.ex
 exfs:∀b∈X.ex,b∉X.fs
 funs:X.s₀.heap.FunFrames X.base X.outer
 frf:∀b∈X.fs,X.H₀ b=none
structure Inv(X:Cx)(pins:List (Addr×Obj))(σ:List (Option V))(H:Hp)(s:Shared):Prop where
 ok:X.Ok
 os:s.os=X.s₀.os
 bare:AllBare s.gens
 base:Un X.fs X.ex X.H₀ H X.s₀.heap s.heap
 loc:∃m,s.heap.Ns X.env.locals m/\∀(i:Nat)(x:Str)(v:V),X.N[i]?=some x->σ[i]?=some (some v)->Vis X.env.scope x->∃u,RelV v u/\Look X.env s.heap m x u
 cell:∀x c,X.env.cells.lookup x=some c->∃v,s.heap.IsCell c v
 free:H X.env.locals=none
 freeC:∀x c,X.env.cells.lookup x=some c->H c=none
 pin:∀p∈X.pn++pins,s.heap.get? p.1=some p.2/\H p.1=none/\p.1≠X.env.locals/\p.1∉X.fs/\∀v,p.2.data≠.cell v
 hok:HOk X.prog X.w H s.heap
 len:σ.length=X.N.length
section
variable{X:Cx}{pins:List (Addr×Obj)}{σ:List (Option V)}{H H':Hp}{s:Shared}{h':Heap}
theorem Cx.Ok.nofr(ok:X.Ok){b:Addr}{o:Obj}(e:X.base.get? b=some o):b∉X.fs:=λhb=>by
 have:=(ok.funs.mem hb).1
 rw[e]at this;cases this
theorem Inv.bs(I:Inv X pins σ H s):∀b o,X.base.get? b=some o->s.heap.get? b=some o/\H b=none:=λb o e =>
 ⟨I.base.keep b o (I.ok.bs b o e).1 (I.ok.bs b o e).2 (I.ok.nofr e) (I.ok.noex b o e),I.base.free b o (I.ok.bs b o e).1 (I.ok.bs b o e).2 (I.ok.noex b o e)⟩
theorem Inv.bk(I:Inv X pins σ H s):∀b o,X.base.get? b=some o->s.heap.get? b=some o:=λb o e=>(I.bs b o e).1
theorem Inv.mod(I:Inv X pins σ H s):Mod X.K X.mg X.base:=I.ok.mod
theorem Inv.kIn(I:Inv X pins σ H s):X.K.In s.heap:=I.ok.mod.kin.keeps I.bk
theorem Inv.nolimit(I:Inv X pins σ H s):s.heap.NoLimit:=I.ok.mod.nolimit.keeps I.bk
theorem Inv.fr(I:Inv X pins σ H s):∃m,Fr X.base X.env.locals s.heap m :=
 let ⟨m,hn,_⟩:=I.loc
 ⟨m,hn,I.bk,Uv I.ok.bsz I.ok.above⟩
theorem Inv.lt(I:Inv X pins σ H s):X.env.locals<s.heap.objs.size:=let ⟨_,hn,_⟩:=I.loc;hn.lt
theorem Inv.sz(I:Inv X pins σ H s):X.s₀.heap.objs.size<=s.heap.objs.size:=Uv I.ok.above (Tn I.lt)
theorem Inv.nofs(I:Inv X pins σ H s){a:Addr}(h:s.heap.objs.size<=a):a∉X.fs:=λhb=>by
 obtain⟨_,o,ho,_⟩:=I.ok.funs.mem hb
 exact absurd (Ut (Uk ho) (Uv I.sz h)) (U6 _)
theorem Inv.cne(I:Inv X pins σ H s):∀x c,X.env.cells.lookup x=some c->c≠X.env.locals:=λx c e z=>by
 obtain⟨v,o,ho,hd⟩:=I.cell x c e
 obtain⟨m,⟨o',es,ep,ho',hd',_⟩,_⟩:=I.loc
 rw[z,ho']at ho;cases ho;rw[hd']at hd;cases hd
theorem Inv.funs(I:Inv X pins σ H s):s.heap.FunFrames X.base X.outer:=by
 have all:∀(l:List Env),(∀b∈frs l,b∈X.fs)->X.s₀.heap.FunFrames X.base l->s.heap.FunFrames X.base l:=by
  intro l
  induction l with
  |nil=>intro _ _;trivial
  |cons env r ih =>
   intro hs hl
   obtain⟨hk,⟨L,o,hf,hn,ho,hd⟩,hr⟩:=hl
   have hL:L∈X.fs:=hs L (by unfold frs;rw[Tk,hf];exact Ur)
   obtain⟨sl,e⟩:=I.base.slot L o ho (I.ok.frf L hL) hL λz=>I.ok.exfs L z hL
   exact⟨hk,⟨L,_,hf,hn,e,hd⟩,ih (λb hb=>hs b (by unfold frs;rw[Tk,hf];exact Uq _ hb)) hr⟩
 exact all X.outer (λ_ hb=>hb) I.ok.funs
theorem Inv.stack(I:Inv X pins σ H s):s.heap.FunFrames X.base X.stack:=by
 rcases I.ok.stk with e|⟨e,hf⟩
 ·rw[e];exact I.funs
 ·rw[e]
  obtain⟨m,hn,_⟩:=I.loc
  refine .cons (by rw[I.ok.kind];decide) hf hn ?_ I.funs
  exact Heap.get?_none_of_le (Uv I.ok.bsz I.ok.above)
theorem Inv.stkSub(I:Inv X pins σ H s):∀b∈frs X.stack,b∈X.env.locals::X.fs:=λb hb=>by
 rcases I.ok.stk with e|⟨e,hf⟩
 ·rw[e]at hb;exact Uq _ hb
 ·rw[e]at hb
  unfold frs at hb
  rw[Tk,hf]at hb
  exact hb
theorem Inv.stkFree(I:Inv X pins σ H s):∀b∈frs X.stack,H b=none:=λb hb=>by
 rcases UL.mp (I.stkSub b hb) with e|hb
 ·rw[e];exact I.free
 ·obtain⟨_,o,ho,_⟩:=I.ok.funs.mem hb
  exact I.base.free b o ho (I.ok.frf b hb) λz=>I.ok.exfs b z hb
theorem Inv.step{g':Array GenState}{t':Nat}{d':Drawn}{ch:List Addr}(I:Inv X pins σ H s)(hch:∀b∈ch,(b∈X.ex\/X.s₀.heap.objs.size<=b)/\b≠X.env.locals/\(∀x c,X.env.cells.lookup x=some c->c≠b)/\∀p∈X.pn++pins,p.1≠b)(keep:∀b o,b≠X.env.locals->b∉X.fs->b∉ch->s.heap.get? b=some o->H b=none->h'.get? b=some o)(slot:∀b o,b≠X.env.locals->b∈X.fs->b∉ch->s.heap.get? b=some o->H b=none->∃sl,h'.get? b=some {o with slots:=sl})(free:∀b o,b∉ch->s.heap.get? b=some o->H b=none->H' b=none)(there:∀b o,b∉ch->s.heap.get? b=some o->∃o',h'.get? b=some o')(tups:∀b xs,H b=some (.tup xs)->H' b=some (.tup xs))(frzs:∀b o u,H b=some (.frz o u)->H' b=some (.frz o u))(tbls:∀b ps,H b=some (.tbl ps)->∃more,H' b=some (.tbl (ps++more)))(ns:∀m,s.heap.Ns X.env.locals m->h'.Ns X.env.locals m)(hok:HOk X.prog X.w H' h')(hg:AllBare g'):
  Inv X pins σ H' {s with heap:=h',gens:=g',drawn:=d',toks:=t'}:=by
 have neL:∀b o,X.s₀.heap.get? b=some o->b≠X.env.locals:=λb o e=>UA (Ut (Uk e) I.ok.above)
 have neC:∀b o,X.s₀.heap.get? b=some o->b∉X.ex->b∉ch:=λb o e hx hb=>by
  rcases(hch b hb).1 with z|z
  ·exact hx z
  ·exact absurd (Ut (Uk e) z) (U6 _)
 have cellK:∀x c,X.env.cells.lookup x=some c->∀v,s.heap.IsCell c v->h'.IsCell c v:=λx c e v ⟨o,ho,hd⟩=>by
  have nch:c∉ch:=λz=>(hch c z).2.2.1 x c e rfl
  by_cases hc:c∈X.fs
  ·obtain⟨sl,q⟩:=slot c o (I.cne x c e) hc nch ho (I.freeC x c e)
   exact⟨_,q,hd⟩
  ·exact⟨o,keep c o (I.cne x c e) hc nch ho (I.freeC x c e),hd⟩
 refine⟨I.ok,I.os,hg,⟨λb o e n hb hx=>?_,λb o e n hb hx=>?_,λb o e n hx=>?_,λb o e hx=>?_,λb xs e=>tups b xs (I.base.tups b xs e),λb o xs e=>frzs b o xs (I.base.frzs b o xs e),λb ps e=>?_⟩,?_,λx c e=>?_,?_,λx c e=>?_,λp hp=>?_,hok,I.len⟩
 ·exact keep b o (neL b o e) hb (neC b o e hx) (I.base.keep b o e n hb hx) (I.base.free b o e n hx)
 ·obtain⟨sl,e1⟩:=I.base.slot b o e n hb hx
  obtain⟨sl',e2⟩:=slot b _ (neL b o e) hb (neC b o e hx) e1 (I.base.free b o e n hx)
  exact⟨sl',e2⟩
 ·obtain⟨o',e1⟩:=I.base.there b o e hx
  exact free b o' (neC b o e hx) e1 (I.base.free b o e n hx)
 ·obtain⟨o',e1⟩:=I.base.there b o e hx
  exact there b o' (neC b o e hx) e1
 ·obtain⟨m1,e1⟩:=I.base.tbls b ps e
  obtain⟨m2,e2⟩:=tbls b _ e1
  exact⟨m1++m2,by rw[e2,RE]⟩
 ·obtain⟨m,hn,hl⟩:=I.loc
  refine⟨m,ns m hn,λi x v e1 e2 e3=>?_⟩
  obtain⟨u,r,l⟩:=hl i x v e1 e2 e3
  refine⟨u,r,?_⟩
  rcases l with l|⟨k,c,e,z⟩
  ·exact .inl l
  ·exact .inr ⟨k,c,e,cellK x c e _ z⟩
 ·obtain⟨v,z⟩:=I.cell x c e
  exact⟨v,cellK x c e v z⟩
 ·obtain⟨m,⟨o,_,_,ho,_⟩,_⟩:=I.loc
  exact free _ o (λz=>(hch _ z).2.1 rfl) ho I.free
 ·obtain⟨v,o,ho,hd⟩:=I.cell x c e
  exact free c o (λz=>(hch c z).2.2.1 x c e rfl) ho (I.freeC x c e)
 ·obtain⟨e,n,ne,nf,d⟩:=I.pin p hp
  have nch:p.1∉ch:=λz=>(hch p.1 z).2.2.2 p hp rfl
  exact⟨keep p.1 p.2 ne nf nch e n,free p.1 p.2 nch e n,ne,nf,d⟩
theorem Inv.un{t':Nat}(I:Inv X pins σ H s)(u:Un X.fs [] H H' s.heap h')(hok:HOk X.prog X.w H' h'):Inv X pins σ H' {s with heap:=h',toks:=t'}:=by
 obtain⟨m,⟨o,es,ep,ho,r⟩,_⟩:=id I.loc
 obtain⟨sl,hL⟩:=u.any ho I.free (by simp)
 exact I.step (g':=s.gens) (d':=s.drawn) (ch:=[]) (λ_ z=>nomatch z) (λb o _ hb _ e n=>u.keep b o e n hb (by simp)) (λb o _ hb _ e n=>u.slot b o e n hb (by simp)) (λb o _ e n=>u.free b o e n (by simp)) (λb o _ e=>u.there b o e (by simp)) u.tups u.frzs u.tbls (λm' hm=>by
  obtain⟨o',es',ep',ho',r'⟩:=hm
  rw[ho]at ho';cases ho'
  exact⟨_,es',ep',hL,r'⟩) hok I.bare
theorem Inv.call{g':Array GenState}{t':Nat}{d':Drawn}{ch:List Addr}(I:Inv X pins σ H s)(u:Un (frs X.stack) ch H H' s.heap h')(hok:HOk X.prog X.w H' h')(hg:AllBare g')(hch:∀b∈ch,(b∈X.ex\/X.s₀.heap.objs.size<=b)/\b≠X.env.locals/\(∀x c,X.env.cells.lookup x=some c->c≠b)/\∀p∈X.pn++pins,p.1≠b):
  Inv X pins σ H' {s with heap:=h',gens:=g',drawn:=d',toks:=t'}:=by
 obtain⟨m,⟨o,es,ep,ho,r⟩,_⟩:=id I.loc
 obtain⟨sl,hL⟩:=u.any ho I.free λz=>(hch _ z).2.1 rfl
 exact I.step (ch:=ch) hch (λb o hL hb hc e n=>u.keep b o e n (λz=>(UL.mp (I.stkSub b z)).elim hL hb) hc) (λb o _ _ hc e n=>u.any e n hc) (λb o hc e n=>u.free b o e n hc) (λb o hc e=>u.there b o e hc) u.tups u.frzs u.tbls (λm' hm=>by
  obtain⟨o',es',ep',ho',r'⟩:=hm
  rw[ho]at ho';cases ho'
  exact⟨_,es',ep',hL,r'⟩) hok hg
theorem Inv.turned{t':Nat}{it:Addr}(I:Inv X pins σ H s)(k:∀b o,b≠it->s.heap.get? b=some o->h'.get? b=some o)(hn:H it=none)(hL:it≠X.env.locals)(h1:it∈X.ex\/X.s₀.heap.objs.size<=it)(h2:∀x c,X.env.cells.lookup x=some c->c≠it)(h3:∀p∈X.pn++pins,p.1≠it):Inv X pins σ H {s with heap:=h',toks:=t'}:=by
 have nit:∀b u,H b=some u->b≠it:=λb u e z=>by rw[z,hn]at e;cases e
 refine I.step (g':=s.gens) (d':=s.drawn) (ch:=[it]) (λb hb=>?_) (λb o _ _ hc e _=>k b o (λz=>hc (by simp[z])) e) (λb o _ _ hc e _=>⟨o.slots,k b o (λz=>hc (by simp[z])) e⟩) (λ_ _ _ _ n=>n)
  (λb o hc e=>⟨o,k b o (λz=>hc (by simp[z])) e⟩) (λ_ _ e=>e) (λ_ _ _ e=>e) (λb ps e=>⟨#[],by rw[e];simp⟩) (λm hm=>?_) (λb u e=>?_) I.bare
 ·have e:b=it:=by simpa using hb
  subst e
  exact⟨h1,hL,h2,h3⟩
 ·obtain⟨o,es,ep,ho,r⟩:=hm
  exact⟨o,es,ep,k _ o (Ne.symm hL) ho,r⟩
 ·refine(I.hok b u e).stay (λc v hc q=>k c v ?_ q) (λ_ q=>q) λ_ _ q=>q
  rcases hc with z|z
  ·rw[z];exact nit b u e
  ·exact nit c _ z
theorem Inv.tok(I:Inv X pins σ H s)(t:Nat):Inv X pins σ H {s with toks:=t}:=I.un (h':=s.heap) (t':=t) Un.refl I.hok
theorem Inv.kept{t':Nat}(I:Inv X pins σ H s)(k:∀b u,s.heap.get? b=some u->h'.get? b=some u):Inv X pins σ H {s with heap:=h',toks:=t'}:=I.un (Un.kept k) (I.hok.kept k)
theorem Inv.laid{a:Addr}{o:HO}{t':Nat}(I:Inv X pins σ H s)(k:∀b u,s.heap.get? b=some u->h'.get? b=some u)(hp:s.heap.objs.size<=a)(new:ObjOk X.prog X.w (upd H a o) h' a o):
  Inv X pins σ (upd H a o) {s with heap:=h',toks:=t'}:=I.un (Un.laid k hp (I.hok.fresh hp)) (I.hok.laid k hp new)
theorem Inv.write{x e:Addr}{o:HO}{t':Nat}(I:Inv X pins σ H s)(mu:Mut (H x))(he:e=x\/H e=some (.own x))(k:∀b u,b≠e->s.heap.get? b=some u->h'.get? b=some u)(heo:∃u,h'.get? e=some u)(new:ObjOk X.prog X.w (upd H x o) h' x o):Inv X pins σ (upd H x o) {s with heap:=h',toks:=t'}:=I.un (Un.write mu he k heo) (I.hok.write mu he k heo new)
theorem Inv.pins_of{pins':List (Addr×Obj)}(I:Inv X pins σ H s)(h:∀p∈pins',s.heap.get? p.1=some p.2/\H p.1=none/\p.1≠X.env.locals/\p.1∉X.fs/\∀v,p.2.data≠.cell v):Inv X pins' σ H s :=
 ⟨I.ok,I.os,I.bare,I.base,I.loc,I.cell,I.free,I.freeC,λp hp=>(UX.mp hp).elim (λz=>I.pin p (Td _ z)) (h p),I.hok,I.len⟩
theorem Qdb{N:List Str}(hN:N.Nodup){i j:Nat}{x:Str}(a:N[i]?=some x)(b:N[j]?=some x):i=j:=by
 obtain⟨h1,e1⟩:=Uj.mp a
 obtain⟨h2,e2⟩:=Uj.mp b
 exact(List.getElem_inj hN).mp (e1.trans e2.symm)
theorem Qhk{M:Model}{A:Around}{E:Value->Shared->Prop}{i:Nat}{x:Str}{v:V}{u:Value}{Q:Unit->Shared->Prop}(I:Inv X pins σ H s)(hN:X.N.Nodup)(hi:X.N[i]?=some x)(hx:Loc X.env.scope x)(r:RelV v u)(h:∀s',Inv X pins (σ.set i (some v)) H s'->(∃a,Heap.SameBut a s.heap s'.heap/\(a=X.env.locals\/X.env.cells.lookup x=some a))->Q () s')(hf:X.fn x=true\/X.env.scope.names.lookup x=some .local:=by first|exact .inl rfl|exact .inr rfl|assumption):wpAny M A (storeName X.env x u) Q E s:=by
 obtain⟨m,hn,hl⟩:=id I.loc
 have hcls:(X.env.scope.kind == .class || (X.env.scope.kind == .module && X.env.locals != X.env.globals))=false:=by rw[I.ok.kind];rfl
 have hiσ:i<σ.length:=by rw[I.len];exact(Uj.mp hi).1
 have cne:=I.cne
 have tracked:∀{a:Addr}{h':Heap},(∃o,s.heap.get? a=some o/\H a=none)->Heap.SameBut a s.heap h'->HOk X.prog X.w H h':=λ{a h'} ha hs b ob e=>by
  obtain⟨_,_,hfree⟩:=ha
  refine(I.hok b ob e).stay (λc w' hc q=>(hs.2 c ?_).trans q) (λ_ q=>q) λ_ _ q=>q
  rintro rfl
  rcases hc with rfl|hc
  ·rw[hfree]at e;cases e
  ·rw[hfree]at hc;cases hc
 rcases hx with hk|hk
 ·refine wpAny_storeName_local hk hn (λh' hn' hs=>?_) hcls
  obtain⟨oL,_,_,hoL,_⟩:=id hn
  refine h _ ⟨I.ok,I.os,I.bare,⟨λb o e n hb hx=>?_,λb o e n hb hx=>?_,I.base.free,λb o e hx=>?_,I.base.tups,I.base.frzs,I.base.tbls⟩,⟨_,hn',λj y v' e1 e2 e3=>?_⟩,λy c e=>?_,I.free,I.freeC,λp hp=>?_,tracked ⟨oL,hoL,I.free⟩ hs,by simpa using I.len⟩ ⟨_,hs,.inl rfl⟩
  ·exact(hs.2 b (UA (Ut (Uk e) I.ok.above))).trans (I.base.keep b o e n hb hx)
  ·obtain⟨sl,e1⟩:=I.base.slot b o e n hb hx
   exact⟨sl,(hs.2 b (UA (Ut (Uk e) I.ok.above))).trans e1⟩
  ·obtain⟨o',e1⟩:=I.base.there b o e hx
   exact⟨o',(hs.2 b (UA (Ut (Uk e) I.ok.above))).trans e1⟩
  ·by_cases hj:j=i
   ·subst hj
    rw[hi]at e1;cases e1
    rw[UZ hiσ]at e2
    cases e2
    exact⟨u,r,.inl ⟨hk,by simp⟩⟩
   ·rw[Ug (Ne.symm hj)]at e2
    obtain⟨u',r',q⟩:=hl j y v' e1 e2 e3
    refine⟨u',r',?_⟩
    rcases q with⟨k,e⟩|⟨k,c,e,z⟩
    ·refine .inl ⟨k,?_⟩
     have:y≠x:=λe=>hj (Qdb hN e1 (e ▸ hi))
     simp[this,e]
    ·exact .inr ⟨k,c,e,z.sameBut hs (cne y c e)⟩
  ·obtain⟨w',z⟩:=I.cell y c e
   exact⟨w',z.sameBut hs (cne y c e)⟩
  ·obtain⟨e,n,ne,nf,d⟩:=I.pin p hp
   exact⟨(hs.2 p.1 ne).trans e,n,ne,nf,d⟩
 ·have hfn:X.fn x=true:=by
   rcases hf with z|z
   ·exact z
   ·rw[z]at hk;cases hk
  obtain⟨c,hc⟩:=I.ok.has x (.inl hk)
  obtain⟨w',z⟩:=I.cell x c hc
  refine wpAny_storeName_cell I.ok.kind hk hc z (λh' hc' hs=>?_)
  obtain⟨oc,hoc,hocd⟩:=id z
  refine h {s with heap:=h'} ⟨I.ok,I.os,I.bare,⟨λb o e n hb hx=>?_,λb o e n hb hx=>?_,I.base.free,λb o e hx=>?_,I.base.tups,I.base.frzs,I.base.tbls⟩,⟨m,hn.sameBut hs (Ne.symm (cne x c hc)),λj y v' e1 e2 e3=>?_⟩,λy c' e=>?_,I.free,I.freeC,λp hp=>?_,tracked ⟨oc,hoc,I.freeC x c hc⟩ hs,by simpa using I.len⟩ ⟨c,hs,.inr hc⟩
  ·exact(hs.2 b (UA (Ut (Uk e) (I.ok.cab x c hfn hc)))).trans (I.base.keep b o e n hb hx)
  ·obtain⟨sl,e1⟩:=I.base.slot b o e n hb hx
   exact⟨sl,(hs.2 b (UA (Ut (Uk e) (I.ok.cab x c hfn hc)))).trans e1⟩
  ·obtain⟨o',e1⟩:=I.base.there b o e hx
   exact⟨o',(hs.2 b (UA (Ut (Uk e) (I.ok.cab x c hfn hc)))).trans e1⟩
  ·by_cases hj:j=i
   ·subst hj
    rw[hi]at e1;cases e1
    rw[UZ hiσ]at e2
    cases e2
    exact⟨u,r,.inr ⟨.inl hk,c,hc,hc'⟩⟩
   ·rw[Ug (Ne.symm hj)]at e2
    obtain⟨u',r',q⟩:=hl j y v' e1 e2 e3
    refine⟨u',r',?_⟩
    rcases q with q|⟨k,c',e,z'⟩
    ·exact .inl q
    ·refine .inr ⟨k,c',e,z'.sameBut hs ?_⟩
     rintro rfl
     exact hj (Qdb hN e1 (I.ok.inj _ _ _ e hc ▸ hi))
  ·by_cases hcc:c'=c
   ·subst hcc;exact⟨_,hc'⟩
   ·obtain⟨w2,z2⟩:=I.cell y c' e
    exact⟨w2,z2.sameBut hs hcc⟩
  ·obtain⟨e,n,ne,nf,d⟩:=I.pin p hp
   refine⟨(hs.2 p.1 ?_).trans e,n,ne,nf,d⟩
   intro q
   rw[q,hoc]at e
   have q':oc=p.2:=Option.some.inj e
   exact d w' (by rw[<-q'];exact hocd)
theorem QbE{M:Model}{A:Around}{E:Value->Shared->Prop}{i:Nat}{x:Str}{v:V}{u:Value}{Q:Unit->Shared->Prop}(I:Inv X pins σ H s)(hN:X.N.Nodup)(hi:X.N[i]?=some x)(hx:Loc X.env.scope x)(r:RelV v u)(h:∀s',Inv X pins (σ.set i (some v)) H s'->Q () s')(hf:X.fn x=true\/X.env.scope.names.lookup x=some .local:=by first|exact .inl rfl|exact .inr rfl|assumption):wpAny M A (storeName X.env x u) Q E s :=
 Qhk I hN hi hx r (λs' I' _=>h s' I') hf
theorem Inv.call'{s':Shared}{ch:List Addr}(I:Inv X pins σ H s)(ho:s'.os=s.os)(u:Un (frs X.stack) ch H H' s.heap s'.heap)(hok:HOk X.prog X.w H' s'.heap)(hg:AllBare s'.gens)(hch:∀b∈ch,(b∈X.ex\/X.s₀.heap.objs.size<=b)/\b≠X.env.locals/\(∀x c,X.env.cells.lookup x=some c->c≠b)/\∀p∈X.pn++pins,p.1≠b):Inv X pins σ H' s':=by
 obtain⟨h',g',d',t',o'⟩:=s'
 have e:o'=s.os:=ho
 subst e
 exact I.call (g':=g') (t':=t') (d':=d') u hok hg hch
end
noncomputable abbrev XK:=Value->Option Addr->Hp->Prop
noncomputable abbrev St:=List (Option V)
noncomputable abbrev VK:=V->Hp->Prop
noncomputable abbrev TE:=St->Hp->VK->Prop
noncomputable abbrev TT:=St->Hp->(Bool->Hp->Prop)->Prop
noncomputable abbrev TA:=St->Hp->(List V->Hp->Prop)->Prop
structure Ends where
 nx:St->Hp->Prop
 rt:VK
 bk:St->Hp->Prop:=λ_ _=>False
 ct:St->Hp->Prop:=λ_ _=>False
noncomputable abbrev TS:=Ends->St->Hp->Prop
def EP(X:Cx)(pins:List (Addr×Obj))(σ:St)(Q:VK)(u:Value)(s':Shared):Prop:=∃v H',Inv X pins σ H' s'/\RelV v u/\Q v H'
def TP(X:Cx)(pins:List (Addr×Obj))(σ:St)(Q:Bool->Hp->Prop)(b:Bool)(s':Shared):Prop:=∃H',Inv X pins σ H' s'/\Q b H'
def AP(X:Cx)(pins:List (Addr×Obj))(σ:St)(Q:List V->Hp->Prop)(us:List Value)(s':Shared):Prop:=∃vs H',Inv X pins σ H' s'/\Vals vs us/\Q vs H'
noncomputable def SP(X:Cx)(pins:List (Addr×Obj))(D:Ends)(f:Flow)(s':Shared):Prop :=
 match f with
 |.next=>∃σ' H',Inv X pins σ' H' s'/\D.nx σ' H'
 |.brk=>∃σ' H',Inv X pins σ' H' s'/\D.bk σ' H'
 |.cont=>∃σ' H',Inv X pins σ' H' s'/\D.ct σ' H'
 |.ret u=>∃v σ' H',Inv X pins σ' H' s'/\RelV v u/\D.rt v H'
noncomputable def PE(X:Cx)(e:Expr)(t:TE):Prop :=
 ∀(pins:List (Addr×Obj))(s:Shared)(σ:St)(H:Hp)(Q:VK),Inv X pins σ H s->t σ H Q->wpAny (model X.prog X.w) X.A (eval e X.env) (EP X pins σ Q) X.xe s
noncomputable def PT(X:Cx)(e:Expr)(t:TT):Prop :=
 ∀(pins:List (Addr×Obj))(s:Shared)(σ:St)(H:Hp)(Q:Bool->Hp->Prop),Inv X pins σ H s->t σ H Q->wpAny (model X.prog X.w) X.A (isTrue e X.env (eval e X.env)) (TP X pins σ Q) X.xe s
noncomputable def PW(X:Cx)(e:Expr)(t:TT):Prop :=
 ∀(whole:Sem Value)(pins:List (Addr×Obj))(s:Shared)(σ:St)(H:Hp)(Q:Bool->Hp->Prop),Inv X pins σ H s->t σ H Q->wpAny (model X.prog X.w) X.A (isTrue e X.env whole) (TP X pins σ Q) X.xe s
theorem PW.pt{X:Cx}{e:Expr}{t:TT}(h:PW X e t):PT X e t:=h _
noncomputable def PA(X:Cx)(es:List Expr)(t:TA):Prop :=
 ∀(pos:Pos)(pins:List (Addr×Obj))(s:Shared)(σ:St)(H:Hp)(Q:List V->Hp->Prop),Inv X pins σ H s->t σ H Q->wpAny (model X.prog X.w) X.A (spliced (backTo pos (starEach es X.env))) (AP X pins σ Q) X.xe s
noncomputable def PS(X:Cx)(st:Stmt)(t:TS):Prop :=
 ∀(pins:List (Addr×Obj))(s:Shared)(σ:St)(H:Hp)(D:Ends),Inv X pins σ H s->t D σ H->wpAny (model X.prog X.w) X.A (exec st X.env) (SP X pins D) X.xe s
noncomputable def PSs(X:Cx)(st:List Stmt)(t:TS):Prop :=
 ∀(pins:List (Addr×Obj))(s:Shared)(σ:St)(H:Hp)(D:Ends),Inv X pins σ H s->t D σ H->wpAny (model X.prog X.w) X.A (execs st X.env) (SP X pins D) X.xe s
theorem thn{α:Type}{t:Sem α}{Q Q':α->Shared->Prop}{M:Model}{A:Around}{E:Value->Shared->Prop}{s:Shared}(h:wpAny M A t Q E s)(hQ:∀a s,Q a s->Q' a s):wpAny M A t Q' E s:=UU h hQ λ_ _ x=>x
end
section
section
variable{X:Cx}
noncomputable def tVar(i:Nat):TE:=λσ H Q=>∃v,σ[i]?=some (some v)/\Q v H
noncomputable def tC(v:V):TE:=λ_ H Q=>Q v H
theorem Qmq{i:Nat}{x:Str}{pos:Pos}(hN:X.N[i]?=some x)(hv:Vis X.env.scope x)(hd:(x == ("__debug__" : Str))=false:=by decide)(hcd:(x == ("__classdict__" : Str))=false:=by decide):PE X (.Name x pos) (tVar i):=by
 intro pins s σ H Q I h
 obtain⟨v,e,h⟩:=h
 obtain⟨m,hn,hl⟩:=I.loc
 obtain⟨u,r,l⟩:=hl i x v hN e hv
 have fin:EP X pins σ Q u s:=⟨v,H,I,r,h⟩
 rcases l with⟨hk,hm⟩|⟨hk,c,hc,hcell⟩
 ·exact wpAny_Name (wpAny_loadName_local I.ok.kind hk hn hm fin) hd
 ·rcases hk with hk|hk
  ·exact wpAny_Name (wpAny_loadName_cell I.ok.kind hk hc hcell fin) hd
  ·exact wpAny_Name (wpAny_loadName_free I.ok.kind hk hc hcell fin hcd) hd
theorem Qmr{i j pos}:PE X (.Constant (.int i) j pos) (tC (.int i)):=λ_ _ _ H _ I h=>wpAny_Constant_int ⟨.int i,H,I.tok _,⟨_,rfl⟩,h⟩
theorem Qn9{b j pos}:PE X (.Constant (.bool b) j pos) (tC (.bl b)):=λ_ _ _ H _ I h=>Constant_bool ⟨.bl b,H,I,rfl,h⟩
theorem Qms{j pos}:PE X (.Constant .none j pos) (tC .non):=λ_ _ _ H _ I h=>Constant_none ⟨.non,H,I,rfl,h⟩
theorem Qmt{x j pos}:PE X (.Constant (.str x) j pos) (tC (.str x)):=λ_ _ _ H _ I h=>Calls.Constant_str ⟨.str x,H,I.tok _,⟨_,rfl⟩,h⟩
def Gl(X:Cx)(x:Str):Prop:=X.env.kindOf x=some .globalImplicit
theorem QbR{E:Value->Shared->Prop}{pins:List (Addr×Obj)}{s:Shared}{σ:St}{H:Hp}{x:Str}{u:Value}{pos:Pos}{Q:Value->Shared->Prop}(I:Inv X pins σ H s)(hg:Gl X x)(hm:X.mg x=some u)(h:Q u s)(hd:(x == ("__debug__" : Str))=false:=by decide):wpAny (model X.prog X.w) X.A (eval (.Name x pos) X.env) Q E s :=
 RB I.ok.kind hg (Calls.loadGlobal_global (by rw[I.ok.glob];exact I.mod.glob.keeps I.bk) hm h) hd
theorem QbS{E:Value->Shared->Prop}{pins:List (Addr×Obj)}{s:Shared}{σ:St}{H:Hp}{x:Str}{u:Value}{pos:Pos}{Q:Value->Shared->Prop}(I:Inv X pins σ H s)(hg:Gl X x)(hm:X.mg x=none)(hv:bootBuiltins x=some u)(h:Q u s)(hn:x ≠ "__name__":=by decide)(hd:(x == ("__debug__" : Str))=false:=by decide):wpAny (model X.prog X.w) X.A (eval (.Name x pos) X.env) Q E s:=by
 obtain⟨mb,h1,h2⟩:=I.mod.blt
 exact RB I.ok.kind hg (Calls.loadGlobal_builtin (by rw[I.ok.glob];exact I.mod.glob.keeps I.bk) hm (by rw[I.ok.blt];exact h1.keeps I.bk) ((h2 x hn).trans hv) h) hd
theorem Qhl{x:Str}{v:V}{u:Value}{pos:Pos}(hg:Gl X x)(hm:X.mg x=some u)(r:RelV v u)(hd:(x == ("__debug__" : Str))=false:=by decide):PE X (.Name x pos) (tC v) :=
 λ_ _ _ H _ I h=>QbR I hg hm ⟨v,H,I,r,h⟩ hd
theorem QeT{x:Str}{v:V}{u:Value}{pos:Pos}(hg:Gl X x)(hm:X.mg x=none)(hv:bootBuiltins x=some u)(r:RelV v u)(hn:x ≠ "__name__":=by decide)(hd:(x == ("__debug__" : Str))=false:=by decide):PE X (.Name x pos) (tC v) :=
 λ_ _ _ H _ I h=>QbS I hg hm hv ⟨v,H,I,r,h⟩ hn hd
variable{a b:Expr}{ta tb:TE}{pos:Pos}
noncomputable def tB(t:TE):TT:=λσ H Q=>t σ H λx H1=>∃c,x=.bl c/\Q c H1
theorem Qmu{e:Expr}{t:TE}(h:PE X e t)(he:∀whole,isTrue e X.env whole=(do let v <-whole;standAt e.pos;holding [v] (truthy v)):=by intro _;rfl):PT X e (tB t):=by
 intro pins s σ H Q I hw
 refine isTrue_plain (thn (h pins s σ H _ I hw) λv s1 ⟨x,H1,I1,r1,q1⟩=>?_) (he _)
 obtain⟨d,rfl,q⟩:=q1
 cases r1
 exact Tg ⟨H1,I1,q⟩
variable{tA tB':TT}{rest:List Expr}
noncomputable def tAnd(t u:TT):TT:=λσ H Q=>t σ H λc H1=>if c=true then u σ H1 Q else Q false H1
noncomputable def tOr(t u:TT):TT:=λσ H Q=>t σ H λc H1=>if c=true then Q true H1 else u σ H1 Q
noncomputable def tNot(t:TT):TT:=λσ H Q=>t σ H λc H1=>Q (!c) H1
theorem Qk6(ha:PT X a tA):PW X (.BoolOp .And [a] pos) tA:=by
 intro wh pins s σ H Q I h
 refine isTrue_and (thn (ha pins s σ H Q I h) λc s1 e=>?_)
 cases c with
 |true=>exact isTrue_and_nil e
 |false=>exact e
theorem Qmv(ha:PT X a tA):PW X (.BoolOp .Or [a] pos) tA:=by
 intro wh pins s σ H Q I h
 refine isTrue_or (thn (ha pins s σ H Q I h) λc s1 e=>?_)
 cases c with
 |false=>exact isTrue_or_nil e
 |true=>exact e
theorem Qmw(ha:PT X a tA)(hb:PW X (.BoolOp .And (b::rest) pos) tB'):PW X (.BoolOp .And (a::b::rest) pos) (tAnd tA tB'):=by
 intro wh pins s σ H Q I h
 refine isTrue_and (thn (ha pins s σ H _ I h) λc s1 ⟨H1,I1,q1⟩=>?_)
 cases c with
 |true=>exact hb wh pins s1 σ H1 Q I1 q1
 |false=>exact⟨H1,I1,q1⟩
theorem Qoa(ha:PT X a tA)(hb:PW X (.BoolOp .Or (b::rest) pos) tB'):PW X (.BoolOp .Or (a::b::rest) pos) (tOr tA tB'):=by
 intro wh pins s σ H Q I h
 refine isTrue_or (thn (ha pins s σ H _ I h) λc s1 ⟨H1,I1,q1⟩=>?_)
 cases c with
 |true=>exact⟨H1,I1,q1⟩
 |false=>exact hb wh pins s1 σ H1 Q I1 q1
theorem Qmx(ha:PT X a tA):PT X (.UnaryOp .Not a pos) (tNot tA):=by
 intro pins s σ H Q I h
 exact isTrue_not (ha pins s σ H (λc H1=>Q (!c) H1) I h)
noncomputable def Qob(ta tb:TE):TE:=λσ H Q=>ta σ H λx H1=>∃c,x=.bl c/\if c=true then tb σ H1 Q else Q (.bl false) H1
noncomputable def Qoc(ta:TE):TE:=λσ H Q=>ta σ H λx H1=>∃c,x=.bl c/\Q (.bl (!c)) H1
theorem Qmy{op}{t:TE}(h:PE X a t):PE X (.BoolOp op [a] pos) t:=λpins s σ H Q I hw=>BoolOp_one (h pins s σ H Q I hw)
theorem Qmz(ha:PE X a ta)(hb:PE X (.BoolOp .And (b::rest) pos) tb):PE X (.BoolOp .And (a::b::rest) pos) (Qob ta tb):=by
 intro pins s σ H Q I h
 refine BoolOp_and (thn (ha pins s σ H _ I h) λv s1 ⟨x,H1,I1,r1,q1⟩=>?_)
 obtain⟨c,rfl,q1⟩:=q1
 cases r1
 refine Tg ?_
 cases c with
 |true=>exact hb pins s1 σ H1 Q I1 q1
 |false=>exact⟨.bl false,H1,I1,rfl,q1⟩
theorem QmA(ha:PE X a ta):PE X (.UnaryOp .Not a pos) (Qoc ta):=by
 intro pins s σ H Q I h
 refine UnaryOp_ (thn (ha pins s σ H _ I h) λv s1 ⟨x,H1,I1,r1,q1⟩=>?_)
 obtain⟨c,rfl,q1⟩:=q1
 cases r1
 exact not_of (Tg ⟨.bl (!c),H1,I1,rfl,q1⟩)
noncomputable def tIf(t:TT)(ta tb:TE):TE:=λσ H Q=>t σ H λc H1=>if c=true then ta σ H1 Q else tb σ H1 Q
theorem Qjl{c:Expr}(hc:PT X c tA)(ha:PE X a ta)(hb:PE X b tb):PE X (.IfExp c a b pos) (tIf tA ta tb):=by
 intro pins s σ H Q I h
 refine wpAny_IfExp (thn (hc pins s σ H _ I h) λd s1 ⟨H1,I1,q1⟩=>?_)
 cases d with
 |true=>exact ha pins s1 σ H1 Q I1 q1
 |false=>exact hb pins s1 σ H1 Q I1 q1
end
end
section
noncomputable def SqL(K:Frag)(H:Hp)(a:Addr)(xs:List V):Prop :=
 Rd H a (.lst xs) \/
  ∃(o:Obj)(its:Array Value)(n:Nat),K.lookup a=some o/\o.cls=.type "list" /\ o.dict=none/\o.data=.seq its n/\its.size<=sizeLine/\Vals xs its.toList
noncomputable def SqT(K:Frag)(H:Hp)(a:Addr)(xs:List V):Prop :=
 Rd H a (.tup xs) \/
  ∃(o:Obj)(its:Array Value)(n:Nat),K.lookup a=some o/\o.cls=.type "tuple" /\ o.data=.seq its n/\its.size<=sizeLine/\Vals xs its.toList
noncomputable def absV:Value->Option V
 |.none=>some .non
 |.bool b=>some (.bl b)
 |.int i _=>some (.int i)
 |.str x _=>some (.str x)
 |.bytes b _=>some (.byt b)
 |.float b _=>some (.flt b)
 |.ref a=>some (.ref a)
 |.type n=>some (.ty n)
 |_=>none
theorem RelV.abs{x:V}{u:Value}(r:RelV x u):absV u=some x:=by
 cases x with
 |non=>cases r;rfl
 |bl _=>cases r;rfl
 |int _=>obtain⟨t,rfl⟩:=r;rfl
 |str _=>obtain⟨t,rfl⟩:=r;rfl
 |byt _=>obtain⟨t,rfl⟩:=r;rfl
 |flt _=>obtain⟨t,rfl⟩:=r;rfl
 |ref _=>cases r;rfl
 |ty _=>cases r;rfl
theorem RelV.inj{x y:V}{u:Value}(r:RelV x u)(q:RelV y u):x=y:=Option.some.inj (r.abs.symm.trans q.abs)
theorem Vals.inj:∀{xs ys:List V}{us:List Value},Vals xs us->Vals ys us->xs=ys
 |_,_,_,.nil,.nil=>rfl
 |_,_,_,.cons r t,.cons r' t'=>by rw[r.inj r',Vals.inj t t']
section
variable{X:Cx}{pins:List (Addr×Obj)}{σ:St}{H:Hp}{s:Shared}{a:Addr}{xs ys:List V}
theorem SqL.of{K:Frag}(h:H a=some (.lst xs)):SqL K H a xs:=.inl (.inl h)
theorem SqT.of{K:Frag}(h:H a=some (.tup xs)):SqT K H a xs:=.inl (.inl h)
theorem Inv.list(I:Inv X pins σ H s)(h:SqL X.K H a xs):∃its:List Value,Vals xs its/\PlainL s.heap a its.toArray/\xs.length<=sizeLine:=by
 rcases h with h|⟨o,its,n,hk,hc,hd,hs,hz,r⟩
 ·obtain⟨z,its,n,r,e⟩:=h.ok I.hok
  exact⟨its,r,⟨_,n,e,rfl,rfl,rfl⟩,z⟩
 ·refine⟨its.toList,r,⟨o,n,I.kIn a o hk,hc,hd,by simpa using hs⟩,?_⟩
  have e:=r.length
  simp only[TX]at e
  omega
theorem Inv.tuple(I:Inv X pins σ H s)(h:SqT X.K H a xs):∃its:List Value,Vals xs its/\IsTup s.heap a its.toArray/\xs.length<=sizeLine:=by
 rcases h with h|⟨o,its,n,hk,hc,hs,hz,r⟩
 ·obtain⟨z,its,r,p⟩:=h.ok I.hok
  exact⟨its,r,p,z⟩
 ·refine⟨its.toList,r,⟨o,I.kIn a o hk,hc,n,by simpa using hs⟩,?_⟩
  have e:=r.length
  simp only[TX]at e
  omega
theorem Inv.list_inj(I:Inv X pins σ H s)(h:SqL X.K H a xs)(h':SqL X.K H a ys):xs=ys:=by
 obtain⟨its,r,⟨o,n,e,_,_,d⟩,_⟩:=I.list h
 obtain⟨its',r',⟨o',n',e',_,_,d'⟩,_⟩:=I.list h'
 rw[e]at e';cases e'
 rw[d]at d'
 injection d' with d1 _
 have:its=its':=by simpa using TY Array.toList d1
 subst this
 exact r.inj r'
theorem Inv.tuple_inj(I:Inv X pins σ H s)(h:SqT X.K H a xs)(h':SqT X.K H a ys):xs=ys:=by
 obtain⟨its,r,⟨o,e,_,n,d⟩,_⟩:=I.tuple h
 obtain⟨its',r',⟨o',e',_,n',d'⟩,_⟩:=I.tuple h'
 rw[e]at e';cases e'
 rw[d]at d'
 injection d' with d1 _
 have:its=its':=by simpa using TY Array.toList d1
 subst this
 exact r.inj r'
end
noncomputable abbrev Cx.wish(X:Cx)(E:Value->Shared->Prop):Cx:={X with xe:=E}
noncomputable abbrev Cx.nox(X:Cx):Cx:=X.wish λ_ _=>False
theorem Cx.Ok.wish{X:Cx}(ok:X.Ok)(E:Value->Shared->Prop):(X.wish E).Ok :=
 ⟨ok.mod,ok.kind,ok.glob,ok.blt,ok.above,ok.inj,ok.has,ok.cab,ok.hd,ok.frames,ok.stk,ok.exf,ok.bs,ok.bsz,ok.noex,ok.exfs,ok.funs,ok.frf⟩
theorem Cx.Ok.unwish{X:Cx}{E:Value->Shared->Prop}(ok:(X.wish E).Ok):X.Ok :=
 ⟨ok.mod,ok.kind,ok.glob,ok.blt,ok.above,ok.inj,ok.has,ok.cab,ok.hd,ok.frames,ok.stk,ok.exf,ok.bs,ok.bsz,ok.noex,ok.exfs,ok.funs,ok.frf⟩
section
variable{X:Cx}{pins:List (Addr×Obj)}{σ:St}{H:Hp}{s:Shared}{E:Value->Shared->Prop}
theorem Inv.wish(I:Inv X pins σ H s)(E:Value->Shared->Prop):Inv (X.wish E) pins σ H s:=⟨I.ok.wish E,I.os,I.bare,I.base,I.loc,I.cell,I.free,I.freeC,I.pin,I.hok,I.len⟩
theorem Inv.unwish(I:Inv (X.wish E) pins σ H s):Inv X pins σ H s:=⟨I.ok.unwish,I.os,I.bare,I.base,I.loc,I.cell,I.free,I.freeC,I.pin,I.hok,I.len⟩
theorem SP.unwish{D:Ends}{f:Flow}{s':Shared}(h:SP (X.wish E) pins D f s'):SP X pins D f s':=by
 cases f with
 |next=>obtain⟨σ',H',I,q⟩:=h;exact⟨σ',H',I.unwish,q⟩
 |brk=>obtain⟨σ',H',I,q⟩:=h;exact⟨σ',H',I.unwish,q⟩
 |cont=>obtain⟨σ',H',I,q⟩:=h;exact⟨σ',H',I.unwish,q⟩
 |ret u=>obtain⟨v,σ',H',I,r,q⟩:=h;exact⟨v,σ',H',I.unwish,r,q⟩
theorem PE.nox{e:Expr}{t:TE}(h:PE X.nox e t):PE X e t:=λpins s σ H Q I hw =>
 UU (h pins s σ H Q (I.wish _) hw) (λ_ _ ⟨v,H',I',r,q⟩=>⟨v,H',I'.unwish,r,q⟩) λ_ _ z=>False.elim z
theorem PT.nox{e:Expr}{t:TT}(h:PT X.nox e t):PT X e t:=λpins s σ H Q I hw =>
 UU (h pins s σ H Q (I.wish _) hw) (λ_ _ ⟨H',I',q⟩=>⟨H',I'.unwish,q⟩) λ_ _ z=>False.elim z
theorem PSs.nox{st:List Stmt}{t:TS}(h:PSs X.nox st t):PSs X st t:=λpins s σ H D I hw =>
 UU (h pins s σ H D (I.wish _) hw) (λ_ _ q=>q.unwish) λ_ _ z=>False.elim z
end
section
variable{X:Cx}{st:Stmt}{rest:List Stmt}{t u:TS}{e:Expr}{te:TE}{pos:Pos}
noncomputable def Qod:TS:=λD σ H=>D.nx σ H
noncomputable def tSeq(t u:TS):TS:=λD σ H=>t {D with nx:=u D} σ H
theorem Qhm:PSs X [] Qod:=λ_ _ σ H _ I h=>Rq ⟨σ,H,I,h⟩
theorem Qjm(h1:PS X st t)(h2:PSs X rest u):PSs X (st::rest) (tSeq t u):=by
 intro pins s σ H D I h
 refine wpAny_execs_cons (thn (h1 pins s σ H {D with nx:=u D} I h) λf s1 q=>?_)
 cases f with
 |next =>
  obtain⟨σ',H',I',q⟩:=q
  exact h2 pins s1 σ' H' D I' q
 |ret v=>exact q
 |brk=>exact q
 |cont=>exact q
theorem Qk7(h1:PS X st t):PSs X [st] t:=by
 intro pins s σ H D I h
 refine wpAny_execs_cons (thn (h1 pins s σ H D I h) λf s1 q=>?_)
 cases f with
 |next=>exact Rq q
 |ret v=>exact q
 |brk=>exact q
 |cont=>exact q
theorem Inv.quiet{pins:List (Addr×Obj)}{σ:St}{H:Hp}{s:Shared}(I:Inv X pins σ H s):interactive X.env=false:=by simp[interactive,I.ok.kind]
noncomputable def Qoe(te:TE):TS:=λD σ H=>te σ H λ_ H1=>D.nx σ H1
theorem Qk8(he:PE X e te)(hs:swapsWith e none pos.line X.env=pure false:=by rfl):PS X (.Expr e pos) (Qoe te):=by
 intro pins s σ H D I h
 exact wpAny_Expr_any (thn (he pins s σ H _ I h) λv s1 ⟨x,H1,I1,r1,q1⟩=>⟨σ,H1,I1,q1⟩) I.quiet hs
noncomputable def tRet(te:TE):TS:=λD σ H=>te σ H D.rt
theorem QmB(he:PE X e te):PS X (.Return (some e) pos) (tRet te):=by
 intro pins s σ H D I h
 exact wpAny_Return_some (thn (he pins s σ H _ I h) λv s1 ⟨x,H1,I1,r1,q1⟩=>⟨x,σ,H1,I1,r1,q1⟩)
noncomputable def Qof:TS:=λD _ H=>D.rt .non H
theorem Qk9:PS X (.Return none pos) Qof:=λ_ _ σ H _ I h=>wpAny_Return_none ⟨.non,σ,H,I,rfl,h⟩
noncomputable def tIfS(c:TT)(t u:TS):TS:=λD σ H=>c σ H λb H1=>if b=true then t D σ H1 else u D σ H1
theorem Qog{c:Expr}{a b:List Stmt}{tc:TT}(hc:PT X c tc)(ha:PSs X a t)(hb:PSs X b u):PS X (.If c a b pos) (tIfS tc t u):=by
 intro pins s σ H D I h
 refine wpAny_If (thn (hc pins s σ H _ I h) λd s1 ⟨H1,I1,q1⟩=>?_)
 cases d with
 |true=>exact ha pins s1 σ H1 D I1 q1
 |false=>exact hb pins s1 σ H1 D I1 q1
noncomputable def QmC:TS:=λ_ _ _=>False
theorem Qjn:PS X st QmC:=λ_ _ _ _ _ _ h=>h.elim
end
noncomputable abbrev TG:=V->St->Hp->(St->Hp->Prop)->Prop
noncomputable abbrev TGs:=List V->St->Hp->(St->Hp->Prop)->Prop
noncomputable def PG(X:Cx)(target:Expr)(t:TG):Prop :=
 ∀(pins:List (Addr×Obj))(s:Shared)(σ:St)(H:Hp)(v:V)(u:Value)(Q:St->Hp->Prop),Inv X pins σ H s->RelV v u->t v σ H Q ->
  wpAny (model X.prog X.w) X.A (assign target X.env u) (λ_ s'=>∃σ' H',Inv X pins σ' H' s'/\Q σ' H') X.xe s
noncomputable def PGs(X:Cx)(ts:List Expr)(t:TGs):Prop :=
 ∀(pins:List (Addr×Obj))(s:Shared)(σ:St)(H:Hp)(vs:List V)(us:List Value)(Q:St->Hp->Prop),Inv X pins σ H s->Vals vs us->t vs σ H Q ->
  wpAny (model X.prog X.w) X.A (assignInOrder ((assignEach ts X.env).map (·.2)) us) (λ_ s'=>∃σ' H',Inv X pins σ' H' s'/\Q σ' H') X.xe s
noncomputable abbrev TSet:=V->V->V->Hp->(Hp->Prop)->Prop
noncomputable def PSet(X:Cx)(t:TSet):Prop :=
 ∀(pins:List (Addr×Obj))(s:Shared)(σ:St)(H:Hp)(o i v:V)(ov iv u:Value)(Q:Hp->Prop),Inv X pins σ H s->RelV o ov->RelV i iv->RelV v u->t o i v H Q ->
  wpAny (model X.prog X.w) X.A (setItem ov iv u) (λ_ s'=>∃H',Inv X pins σ H' s'/\Q H') X.xe s
section
variable{X:Cx}{pos:Pos}
noncomputable def QmD(i:Nat):TG:=λv σ H Q=>Q (σ.set i (some v)) H
theorem Qla{i:Nat}{x:Str}(hN:X.N.Nodup)(hi:X.N[i]?=some x)(hx:Loc X.env.scope x)(hf:X.fn x=true\/X.env.scope.names.lookup x=some .local:=by first|exact .inl rfl|exact .inr rfl|assumption):PG X (.Name x pos) (QmD i):=by
 intro pins s σ H v u Q I r h
 exact wpAny_assign_Name (QbE I hN hi hx r (λs' I'=>⟨_,H,I',h⟩) hf)
noncomputable def gNil:TGs:=λvs σ H Q=>vs=[]/\Q σ H
noncomputable def Qoh(t:TG)(u:TGs):TGs:=λvs σ H Q=>∃v r,vs=v::r/\t v σ H λσ' H'=>u r σ' H' Q
theorem Qlb:PGs X [] gNil:=by
 intro pins s σ H vs us Q I r h
 obtain⟨e,h⟩:=h
 subst e
 cases r
 exact assignInOrder_nil ⟨σ,H,I,h⟩
theorem Qjo{e:Expr}{es:List Expr}{t:TG}{u:TGs}(h1:PG X e t)(h2:PGs X es u)(hs:(assignEach (e::es) X.env).map (·.2)=assign e X.env::(assignEach es X.env).map (·.2):=by rfl):PGs X (e::es) (Qoh t u):=by
 intro pins s σ H vs us Q I r h
 obtain⟨v,vr,e1,h⟩:=h
 subst e1
 cases r with
 |cons r rr =>
  rw[hs]
  refine assignInOrder_cons (thn (h1 pins s σ H _ _ _ I r h) λ_ s1 ⟨σ1,H1,I1,q1⟩=>?_)
  exact h2 pins s1 σ1 H1 _ _ Q I1 rr q1
noncomputable def gTup(K:Frag)(n:Nat)(t:TGs):TG:=λv σ H Q=>∃a xs,v=.ref a/\SqT K H a xs/\xs.length=n/\t xs σ H Q
theorem QmE{es:List Expr}{k:Nat}{t:TGs}{n:Nat}(hc:X.calm=true)(h:PGs X es t)(hn:(assignEach es X.env).length=n:=by rfl)(hst:(assignEach es X.env).findIdx? (·.1)=none:=by rfl):PG X (.Tuple es k pos) (gTup X.K n t):=by
 intro pins s σ H v u Q I r hw
 obtain⟨a,xs,e1,hq,hl,hw⟩:=hw
 subst e1
 cases r
 obtain⟨its,rv,ht,hz⟩:=I.tuple hq
 refine assign_Tuple_tuple (I.ok.hd hc) ht (by simp[hn,<-hl,rv.length]) hst λh' hx=>?_
 have I1:Inv X pins σ H {s with heap:=h'}:=I.kept (t':=s.toks) λb o e=>hx b o (UA (Uk e)) e
 exact h pins _ σ H xs _ Q I1 (by simpa using rv) hw
noncomputable def gSub(to ti:TE)(t:TSet):TG:=λv σ H Q=>to σ H λo H1=>ti σ H1 λi H2=>t o i v H2 λH3=>Q σ H3
theorem QkC{o i:Expr}{to ti:TE}{t:TSet}(ho:PE X o to)(hi:PE X i ti)(hs:PSet X t)(ha:∀v,assign (.Subscript o i pos) X.env v=(do
   let ov <-holding [v] (eval o X.env)
   let iv <-holding [v,ov] (eval i X.env)
   standAt pos
   holding [v,ov,iv] (setItem ov iv v)
   release [v,ov,iv] []):=by intro _;rfl):PG X (.Subscript o i pos) (gSub to ti t):=by
 intro pins s σ H v u Q I r h
 rw[ha]
 refine Ua (To (thn (ho pins s σ H _ I h) λov s1 ⟨x,H1,I1,r1,q1⟩=>?_))
 refine Ua (To (thn (hi pins s1 σ H1 _ I1 q1) λiv s2 ⟨y,H2,I2,r2,q2⟩=>?_))
 refine Ua (wpAny_standAt (Ua (To (thn (hs pins s2 σ H2 x y v ov iv u _ I2 r1 r2 r q2) λ_ s3 ⟨H3,I3,q3⟩=>?_))))
 exact wpAny_release ⟨σ,H3,I3,q3⟩
noncomputable def tAsg(te:TE)(g:TG):TS:=λD σ H=>te σ H λx H1=>g x σ H1 D.nx
theorem Qhn{tg e:Expr}{te:TE}{g:TG}(he:PE X e te)(hg:PG X tg g)(hs:swapsWithSole [tg] e pos.line X.env=pure false:=by rfl)(hw:swappedStores [tg] e X.env=pure none:=by rfl)(h1:(assignEach [tg] X.env).map (·.2)=[assign tg X.env]:=by rfl):PS X (.Assign [tg] e pos) (tAsg te g):=by
 intro pins s σ H D I h
 refine wpAny_Assign_stores (thn (he pins s σ H _ I h) λv s1 ⟨x,H1,I1,r1,q1⟩=>?_) hs hw
 rw[h1]
 exact thn (hg pins s1 σ H1 x v _ I1 r1 q1) λ_ s2 q=>q
theorem QmF{i:Nat}{x:Str}{e:Expr}{te:TE}{pos':Pos}(hN:X.N.Nodup)(hi:X.N[i]?=some x)(hx:Loc X.env.scope x)(he:PE X e te)(hs:swapsWith e (some (.Name x pos')) pos.line X.env=pure false:=by rfl)(hf:X.fn x=true\/X.env.scope.names.lookup x=some .local:=by first|exact .inl rfl|exact .inr rfl|assumption):
  PS X (.Assign [.Name x pos'] e pos) (tAsg te (QmD i)):=by
 intro pins s σ H D I h
 refine wpAny_Assign_Name (thn (he pins s σ H _ I h) λv s1 ⟨y,H1,I1,r1,q1⟩=>?_) hs
 exact QbE I1 hN hi hx r1 (λs2 I2=>⟨_,H1,I2,q1⟩) hf
end
section
variable{X:Cx}{pos:Pos}
noncomputable def QmG(c:TT)(tb:TS):TS:=λD σ H=>∃W:Nat->St->Hp->Prop,(∃m,W m σ H)/\∀m σ H,W m σ H ->
 c σ H λb H1=>if b=true then ∃N:St->Hp->Prop,(∀σ' H',N σ' H'->∃m',m'<m/\W m' σ' H')/\tb {D with nx:=N,ct:=N,bk:=D.nx} σ H1 else D.nx σ H1
theorem Qjp{c:Expr}{body:List Stmt}{tc:TT}{tb:TS}(hp:PassesOwn (model X.prog X.w) X.A X.env X.xe)(hc:PT X c tc)(hb:PSs X body tb):PS X (.While c body [] pos) (QmG tc tb):=by
 intro pins s σ H D I h
 obtain⟨W,⟨m0,w0⟩,turn⟩:=h
 refine wpAny_While (codeAny_whileLoop (λn s'=>∃σ' H',Inv X pins σ' H' s'/\W n σ' H') ?_ m0 ⟨σ,H,I,w0⟩)
 rintro n s1 ⟨σ1,H1,I1,w1⟩
 refine Tv hp (thn (hc pins s1 σ1 H1 _ I1 (turn n σ1 H1 w1)) λb s2 ⟨H2,I2,q2⟩=>?_)
 cases b with
 |true =>
  obtain⟨N,hN,q2⟩:=q2
  rw[Uc rfl]
  refine Tv hp (thn (hb pins s2 σ1 H2 _ I2 q2) λf s3 q3=>?_)
  cases f with
  |next =>
   obtain⟨σ3,H3,I3,n3⟩:=q3
   obtain⟨m',hm,w3⟩:=hN σ3 H3 n3
   exact⟨m',hm,σ3,H3,I3,w3⟩
  |cont =>
   obtain⟨σ3,H3,I3,n3⟩:=q3
   obtain⟨m',hm,w3⟩:=hN σ3 H3 n3
   exact⟨m',hm,σ3,H3,I3,w3⟩
  |brk=>exact q3
  |ret v=>exact q3
 |false =>
  rw[Ud Ue]
  exact Rq ⟨σ1,H2,I2,q2⟩
end
structure It where
 go:Nat->Hp->Prop
 yld:Nat->Hp->V->Hp->Prop
 stop:Nat->Hp->Prop
noncomputable def FpOk(X:Cx)(pins:List (Addr×Obj))(H:Hp)(b:Addr):Prop :=
 H b=none/\b≠X.env.locals/\b∉X.fs/\(b∈X.ex\/X.s₀.heap.objs.size<=b)/\(∀x c,X.env.cells.lookup x=some c->c≠b)/\∀p∈X.pn++pins,p.1≠b
theorem Inv.fpOk{X:Cx}{pins:List (Addr×Obj)}{σ:St}{H H':Hp}{s:Shared}{b:Addr}(I:Inv X pins σ H s)(hb:s.heap.objs.size<=b)(hn:H' b=none):FpOk X pins H' b:=by
 refine⟨hn,Rz (Ut I.lt hb),I.nofs hb,.inr (Uv I.sz hb),λx c e z=>?_,λp hp z=>?_⟩
 ·obtain⟨v,q⟩:=I.cell x c e
  exact absurd (Ut q.lt (by rw[z];exact hb)) (U6 _)
 ·exact absurd (Ut (Uk (I.pin p hp).1) (by rw[z];exact hb)) (U6 _)
structure Turn(P:Program)(w:World)(K:Frag)(tg:Expr)(J:It)(fp:List Addr)(it:Addr)(tn:Nat->Heap->Prop):Prop where
 mem:it∈fp
 obj:∀i h,tn i h->∀b∈fp,∃o,h.get? b=some o/\∀v,o.data≠.cell v
 keep:∀i h h',tn i h->(∀b∈fp,∀o,h.get? b=some o->h'.get? b=some o)->tn i h'
 item:∀(X:Cx),X.prog=P->X.w=w->X.K=K->X.calm=true->∀(i:Nat)(pins:List (Addr×Obj))(s:Shared)(σ:St)(H:Hp)(E:Value->Shared->Prop),Inv X pins σ H s->(∀b∈fp,FpOk X pins H b)->tn i s.heap->J.go i H ->
  wpAny (model P w) X.A (pyNext (.ref it)) (λr s1=>∃u,r=some u /\
   wpAny (model P w) X.A (letOwnedTupleGo tg (.ref it) u) (λ_ s2=>∃x H',Inv X pins σ H' s2/\RelV x u/\J.yld i H x H'/\tn (i+1) s2.heap/\∀b∈fp,H' b=none) E s1) E s
 done:∀(X:Cx),X.prog=P->X.w=w->X.K=K->X.calm=true->∀(i:Nat)(pins:List (Addr×Obj))(s:Shared)(σ:St)(H:Hp)(E:Value->Shared->Prop),Inv X pins σ H s->(∀b∈fp,FpOk X pins H b)->tn i s.heap->J.stop i H ->
  wpAny (model P w) X.A (pyNext (.ref it)) (λr s1=>r=none/\Inv X pins σ H s1) E s
 self:∀(A:Around)(i:Nat)(s:Shared)(Q:Value->Shared->Prop)(E:Value->Shared->Prop),tn i s.heap->Q (.ref it) s->wpAny (model P w) A (pyIter (.ref it)) Q E s
noncomputable abbrev TI:=St->Hp->(It->Hp->Prop)->Prop
noncomputable def PIE(X:Cx)(pins:List (Addr×Obj))(σ:St)(tg:Expr)(R:It->Hp->Prop)(itv:Value)(s2:Shared):Prop :=
 ∃(it:Addr)(fp:List Addr)(tn:Nat->Heap->Prop)(J:It)(H':Hp),itv=.ref it/\Inv X pins σ H' s2/\Turn X.prog X.w X.K tg J fp it tn/\tn 0 s2.heap/\(∀b∈fp,FpOk X pins H' b)/\R J H'
noncomputable def PI(X:Cx)(tg iter:Expr)(wi:TI):Prop :=
 ∀(pins:List (Addr×Obj))(s:Shared)(σ:St)(H:Hp)(R:It->Hp->Prop),Inv X pins σ H s->wi σ H R ->
  wpAny (model X.prog X.w) X.A (eval iter X.env) (λv s1=>wpAny (model X.prog X.w) X.A (pyIter v) (PIE X pins σ tg R) X.xe s1) X.xe s
theorem Qlc{M:Model}{A:Around}{E:Value->Shared->Prop}{s:Shared}{tg:Expr}{it:Addr}{u:Value}{o:Obj}{n:String}{vs:Array Value}{Q:Unit->Shared->Prop}(ho:s.heap.get? it=some o)(hc:o.cls=.type n)(hd:o.data=.fields vs)(hn:["enumerate", "zip", "dict_itemiterator", "dict_reverseitemiterator", "odict_iterator", "itertools.zip_longest", "itertools.pairwise"].contains n=false)(hQ:Q () s):wpAny M A (letOwnedTupleGo tg (.ref it) u) Q E s:=by
  unfold letOwnedTupleGo
  cases tg <;> first
    |exact Ui hQ
    | (cases u <;> first
        |exact Ui hQ
        | (refine Ua (wpAny_load ho ?_)
           rw[hc,hd]
           show wpAny M A (if (["enumerate", "zip", "dict_itemiterator", "dict_reverseitemiterator", "odict_iterator", "itertools.zip_longest", "itertools.pairwise"].contains n && vs[0]? == some (rawInt _))=true then _ else _) Q E s
           rw[Ud (by intro h;rw[hn,Bool.false_and]at h;cases h)]
           exact Ui hQ))
noncomputable def Itl(K:Frag)(a:Addr):It :=
 ⟨λi H=>∃xs x,SqL K H a xs/\xs[i]?=some x,λi H x H'=>H'=H/\∀xs,SqL K H a xs->xs[i]?=some x,λi H=>∃xs,SqL K H a xs/\xs.length<=i⟩
noncomputable def Itt(K:Frag)(a:Addr):It :=
 ⟨λi H=>∃xs x,SqT K H a xs/\xs[i]?=some x,λi H x H'=>H'=H/\∀xs,SqT K H a xs->xs[i]?=some x,λi H=>∃xs,SqT K H a xs/\xs.length<=i⟩
noncomputable def Itr(lo:Int)(n:Nat):It:=⟨λi _=>i<n,λi H x H'=>H'=H/\x=.int (lo+i),λi _=>n<=i⟩
theorem Qho{P:Program}{w:World}{K:Frag}{tg:Expr}(a it:Addr):Turn P w K tg (Itl K a) [it] it (λi h=>h.IsListIter it a i) where
 mem:=by simp
 obj:=λi h st b hb=>by
  have e:b=it:=by simpa using hb
  subst e
  obtain⟨o,e,c,d⟩:=st
  exact⟨o,e,λv z=>by rw[d]at z;cases z⟩
 keep:=λi h h' st k=>st.at λo e=>k it (by simp) o e
 item:=by
  intro X hP hw hK hc i pins s σ H E I hf st hg
  subst hP hw hK
  obtain⟨xs,x,hq,hx⟩:=hg
  obtain⟨its,rv,p,hz⟩:=I.list hq
  obtain⟨u,hu,ru⟩:=rv.get hx
  obtain⟨f0,f1,f2,f3,f4,f5⟩:=hf it (by simp)
  refine wpAny_pyNext_list_item st p.isList (x:=u) (by simpa using hu) λh' st' sb=>?_
  have I1:Inv X pins σ H {s with heap:=h'}:=I.turned (t':=s.toks) (λb o hb e=>(sb.2 b hb).trans e) f0 f1 f3 f4 f5
  obtain⟨o,e,c,d⟩:=id st'
  exact⟨u,rfl,Qlc (s:={s with heap:=h'}) e c d (by decide) ⟨x,H,I1,ru,⟨rfl,λys hy=>by rw[I.list_inj hy hq];exact hx⟩,st',λb hb=>(hf b hb).1⟩⟩
 done:=by
  intro X hP hw hK hc i pins s σ H E I hf st hg
  subst hP hw hK
  obtain⟨xs,hq,hx⟩:=hg
  obtain⟨its,rv,p,hz⟩:=I.list hq
  obtain⟨f0,f1,f2,f3,f4,f5⟩:=hf it (by simp)
  have hl:=rv.length
  exact wpAny_pyNext_list_end (I.ok.hd hc) st p.isList (by simp;omega) λh' eb=>⟨rfl,I.turned (t':=s.toks) (λb o hb e=>eb b o hb e) f0 f1 f3 f4 f5⟩
 self:=λ_ _ _ _ _ st h=>wpAny_pyIter_listiter st h
theorem Qgt{P:Program}{w:World}{K:Frag}{tg:Expr}(a it:Addr):Turn P w K tg (Itt K a) [it] it (λi h=>h.IsTupleIter it a i) where
 mem:=by simp
 obj:=λi h st b hb=>by
  have e:b=it:=by simpa using hb
  subst e
  obtain⟨o,e,c,d⟩:=st
  exact⟨o,e,λv z=>by rw[d]at z;cases z⟩
 keep:=λi h h' st k=>st.at λo e=>k it (by simp) o e
 item:=by
  intro X hP hw hK hc i pins s σ H E I hf st hg
  subst hP hw hK
  obtain⟨xs,x,hq,hx⟩:=hg
  obtain⟨its,rv,p,hz⟩:=I.tuple hq
  obtain⟨u,hu,ru⟩:=rv.get hx
  obtain⟨f0,f1,f2,f3,f4,f5⟩:=hf it (by simp)
  refine wpAny_pyNext_tuple_item st (show s.heap.IsTuple a its.toArray from p) (x:=u) (by simpa using hu) λh' st' sb=>?_
  have I1:Inv X pins σ H {s with heap:=h'}:=I.turned (t':=s.toks) (λb o hb e=>(sb.2 b hb).trans e) f0 f1 f3 f4 f5
  obtain⟨o,e,c,d⟩:=id st'
  exact⟨u,rfl,Qlc (s:={s with heap:=h'}) e c d (by decide) ⟨x,H,I1,ru,⟨rfl,λys hy=>by rw[I.tuple_inj hy hq];exact hx⟩,st',λb hb=>(hf b hb).1⟩⟩
 done:=by
  intro X hP hw hK hc i pins s σ H E I hf st hg
  subst hP hw hK
  obtain⟨xs,hq,hx⟩:=hg
  obtain⟨its,rv,p,hz⟩:=I.tuple hq
  obtain⟨f0,f1,f2,f3,f4,f5⟩:=hf it (by simp)
  have hl:=rv.length
  exact wpAny_pyNext_tuple_end (I.ok.hd hc) st (show s.heap.IsTuple a its.toArray from p) (by simp;omega) λh' eb=>⟨rfl,I.turned (t':=s.toks) (λb o hb e=>eb b o hb e) f0 f1 f3 f4 f5⟩
 self:=λ_ _ _ _ _ st h=>wpAny_pyIter_tupleiter st h
theorem Qgu{P:Program}{w:World}{K:Frag}{tg:Expr}(it:Addr)(lo:Int)(n:Nat):Turn P w K tg (Itr lo n) [it] it (λi h=>IsRangeIter h it (lo+(i:Nat)*1) ((n:Int) - (i:Nat)) 1) where
 mem:=by simp
 obj:=λi h st b hb=>by
  have e:b=it:=by simpa using hb
  subst e
  exact⟨_,st,λv z=>by
   have z':Data.fields _=Data.cell v:=z
   cases z'⟩
 keep:=λi h h' st k=>k it (by simp) _ st
 item:=by
  intro X hP hw hK hc i pins s σ H E I hf st hg
  subst hP hw hK
  obtain⟨f0,f1,f2,f3,f4,f5⟩:=hf it (by simp)
  have W:=Walks.range (prog:=X.prog) (w:=X.w) (I.ok.hd hc) it lo 1 n
  refine W.item i s _ _ hg st λv h' tk hv st' kk=>?_
  obtain⟨t,rfl⟩:=hv
  have I1:Inv X pins σ H {s with heap:=h',toks:=tk}:=I.turned (λb o hb e=>kk b o (by simpa using hb) e) f0 f1 f3 f4 f5
  refine⟨_,rfl,Qlc (s:={s with heap:=h',toks:=tk}) (n:="range_iterator") st' rfl rfl (by decide) ⟨.int (lo+i),H,I1,⟨t,?_⟩,⟨rfl,rfl⟩,st',λb hb=>(hf b hb).1⟩⟩
  rw[Int.mul_one]
 done:=by
  intro X hP hw hK hc i pins s σ H E I hf st hg
  subst hP hw hK
  obtain⟨f0,f1,f2,f3,f4,f5⟩:=hf it (by simp)
  exact wpAny_pyNext_range_end (I.ok.hd hc) st (by have:n<=i:=hg;omega) λh' eb=>⟨rfl,I.turned (t':=s.toks) (λb o hb e=>eb b o hb e) f0 f1 f3 f4 f5⟩
 self:=λ_ _ _ _ _ st h=>wpAny_pyIter_rangeiter st h
end
section
section
variable{X:Cx}{tg:Expr}
theorem Qjq{pins:List (Addr×Obj)}{σ:St}{H:Hp}{s:Shared}{R:It->Hp->Prop}{E:Value->Shared->Prop}{lo hi:Int}{t u v:Tok}{tk:Nat}(I:Inv X pins σ H s)(h1:-(2^62)<=lo)(h2:lo<2^62)(h3:-(2^62)<=hi)(h4:hi<2^62)(q:R (Itr lo (hi-lo).toNat) H):wpAny (model X.prog X.w) X.A (pyIter (.ref s.heap.objs.size)) (PIE X pins σ tg R) E {s with heap:=s.heap.push {cls:=.type "range",data:=.fields #[.int lo t,.int hi u,.int 1 v]},toks:=tk}:=by
 refine wpAny_pyIter_range (IsRange.new ..) (small_one h1 h2 h3 h4) ?_
 have I1:Inv X pins σ H {s with heap:=s.heap.push {cls:=.type "range",data:=.fields #[.int lo t,.int hi u,.int 1 v]},toks:=tk}:=I.kept λb o e=>Ub _ e
 refine⟨(s.heap.push {cls:=.type "range",data:=.fields #[.int lo t,.int hi u,.int 1 v]}).objs.size,[(s.heap.push {cls:=.type "range",data:=.fields #[.int lo t,.int hi u,.int 1 v]}).objs.size],_,_,H,rfl,
  I1.kept (t':=tk) λb o e=>Ub _ e,Qgu _ lo (hi-lo).toNat,?_,λb hb=>?_,q⟩
 ·have e1:lo+((0:Nat):Int)*1=lo:=by simp
  have e2:(((hi-lo).toNat:Nat):Int) - ((0:Nat):Int)=Builtin.Range.rangeSize lo hi 1:=by rw[rangeSize_one];split <;> omega
  show IsRangeIter _ _ (lo+((0:Nat):Int)*1) ((((hi-lo).toNat:Nat):Int) - ((0:Nat):Int)) 1
  rw[e1,e2]
  exact Uo _ rfl
 ·have e:b=(s.heap.push {cls:=.type "range",data:=.fields #[.int lo t,.int hi u,.int 1 v]}).objs.size:=by simpa using hb
  subst e
  exact I1.fpOk (Uh _) (I1.hok.fresh (Uh _))
noncomputable def Qoi(ta:TA):TI:=λσ H R=>ta σ H λvs H1=>∃j:Int,vs=[.int j] /\ -(2^62)<=j/\j<2^62/\R (Itr 0 j.toNat) H1
theorem Qhp{a:Expr}{ta:TA}{p pos:Pos}(hg:Gl X "range")(hm:X.mg "range" = none)(ha:PA X [a] ta)(hs:starEach [a] X.env=[(false,eval a X.env)]:=by rfl):PI X tg (.Call (.Name "range" p) [a] [] pos) (Qoi ta):=by
 intro pins s σ H R I h
 refine Call_ (QbS I hg hm boot_range (U3 (thn (ha pos pins s σ H _ I h) λus s1 ⟨vs,H1,I1,r1,q1⟩=>?_) hs rfl))
 obtain⟨j,e,q1,q2,q⟩:=q1
 subst e
 cases r1 with
 |cons r rr =>
  cases rr
  obtain⟨t,rfl⟩:=r
  exact call_range_1 (Qjq I1 (by omega) (by omega) q1 q2 (by simpa using q))
noncomputable def tFor(wi:TI)(g:TG)(tb:TS):TS:=λD σ H=>wi σ H λJ H1=>∃W:Nat->Nat->St->Hp->Prop,(∃m,W 0 m σ H1)/\∀i m σ H,W i m σ H ->
 (J.stop i H/\D.nx σ H)\/(J.go i H/\∃N:St->Hp->Prop,(∀σ' H',N σ' H'->∃m',m'<m/\W (i+1) m' σ' H')/\∀x H',J.yld i H x H'->g x σ H' λσ2 H2=>tb {D with nx:=N,ct:=N,bk:=D.nx} σ2 H2)
noncomputable def QdX(fp:List Addr)(h:Heap):List (Addr×Obj):=fp.filterMap λb=>(h.get? b).map λo=>(b,o)
theorem Qal{fp:List Addr}{h:Heap}{b:Addr}{o:Obj}(hb:b∈fp)(e:h.get? b=some o):(b,o)∈QdX fp h:=RG.mpr ⟨b,hb,by rw[e];rfl⟩
theorem Qhq{fp:List Addr}{h:Heap}{p:Addr×Obj}(hp:p∈QdX fp h):p.1∈fp/\h.get? p.1=some p.2:=by
 obtain⟨b,hb,e⟩:=RG.mp hp
 cases q:h.get? b with
 |none=>rw[q]at e;cases e
 |some o =>
  rw[q]at e
  have e':(b,o)=p:=Option.some.inj e
  subst e'
  exact⟨hb,q⟩
theorem Inv.pinned{pins:List (Addr×Obj)}{σ:St}{H:Hp}{s:Shared}{fp:List Addr}(I:Inv X pins σ H s)(hf:∀b∈fp,FpOk X pins H b)(ho:∀b∈fp,∃o,s.heap.get? b=some o/\∀v,o.data≠.cell v):Inv X (pins++QdX fp s.heap) σ H s :=
 I.pins_of λp hp=>(UX.mp hp).elim (λz=>I.pin p (Us _ z)) λz=>by
  obtain⟨hb,e⟩:=Qhq z
  obtain⟨f0,f1,f2,_⟩:=hf p.1 hb
  obtain⟨o,e',d⟩:=ho p.1 hb
  rw[e]at e';cases e'
  exact⟨e,f0,f1,f2,d⟩
theorem Inv.unpinned{pins pl:List (Addr×Obj)}{σ:St}{H:Hp}{s:Shared}(I:Inv X (pins++pl) σ H s):Inv X pins σ H s:=I.pins_of λp hp=>I.pin p (Us _ (Td _ hp))
theorem QmH{iter:Expr}{body:List Stmt}{wi:TI}{g:TG}{tb:TS}{pos:Pos}(hp:PassesOwn (model X.prog X.w) X.A X.env X.xe)(hc:X.calm=true)(hi:PI X tg iter wi)(hg:PG X tg g)(hb:PSs X body tb)(hs:∀x,foldedSetIterable iter X.env x=pure x:=by intro _;rfl):PS X (.For tg iter body [] pos) (tFor wi g tb):=by
 intro pins s σ H D I h
 refine wpAny_For (thn (hi pins s σ H _ I h) λv s1 h1=>thn h1 λitv s2 h2=>?_) hs
 obtain⟨it,fp,tn,J,H2,e,I2,T,st2,f2,W,⟨m0,w0⟩,turn⟩:=h2
 subst e
 -- what stays true of the iterator's objects through the loop
 have stat:∀{H':Hp},(∀b∈fp,H' b=none)->∀b∈fp,FpOk X pins H' b:=λhn b hb=>⟨hn b hb,(f2 b hb).2⟩
 refine codeAny_forLoop_any (λn s'=>∃i σ' H',Inv X pins σ' H' s'/\tn i s'.heap/\(∀b∈fp,H' b=none)/\W i n σ' H') ?_ m0 ⟨0,σ,H2,I2,st2,λb hb=>(f2 b hb).1,w0⟩
 rintro n s3 ⟨i,σ3,H3,I3,st3,fr3,w3⟩
 rcases turn i n σ3 H3 w3 with⟨stop,qn⟩|⟨go,N,hN,step⟩
 ·refine Tv hp (thn (T.done X rfl rfl rfl hc i pins s3 σ3 H3 X.xe I3 (stat fr3) st3 stop) λr s4 ⟨hr,I4⟩=>?_)
  subst hr
  exact Rq ⟨σ3,H3,I4,qn⟩
 ·refine Tv hp (thn (T.item X rfl rfl rfl hc i pins s3 σ3 H3 X.xe I3 (stat fr3) st3 go) λr s4 ⟨u,hr,h4⟩=>?_)
  subst hr
  refine Tv hp (thn h4 λ_ s5 ⟨x,H5,I5,r5,y5,st5,fr5⟩=>?_)
  have I5':=I5.pinned (stat fr5) (T.obj _ _ st5)
  refine Tv hp (thn (hg _ s5 σ3 H5 x u _ I5' r5 (step x H5 y5)) λ_ s6 ⟨σ6,H6,I6,q6⟩=>?_)
  refine Tv hp (thn (hb _ s6 σ6 H6 _ I6 q6) λf s7 q7=>?_)
  have again:∀{σ7:St}{H7:Hp},Inv X (pins++QdX fp s5.heap) σ7 H7 s7->N σ7 H7->∃m,m<n/\∃i σ' H',Inv X pins σ' H' s7/\tn i s7.heap/\(∀b∈fp,H' b=none)/\W i m σ' H':=λ{σ7 H7} I7 n7=>by
   obtain⟨m',hm,w7⟩:=hN σ7 H7 n7
   refine⟨m',hm,i+1,σ7,H7,I7.unpinned,T.keep _ _ _ st5 λb hb o e=>(I7.pin (b,o) (Us _ (Us _ (Qal hb e)))).1,λb hb=>?_,w7⟩
   obtain⟨o,e,d⟩:=T.obj _ _ st5 b hb
   exact(I7.pin (b,o) (Us _ (Us _ (Qal hb e)))).2.1
  cases f with
  |next=>obtain⟨σ7,H7,I7,n7⟩:=q7;exact again I7 n7
  |cont=>obtain⟨σ7,H7,I7,n7⟩:=q7;exact again I7 n7
  |brk=>obtain⟨σ7,H7,I7,q7⟩:=q7;exact⟨σ7,H7,I7.unpinned,q7⟩
  |ret v=>obtain⟨x7,σ7,H7,I7,r7,q7⟩:=q7;exact⟨x7,σ7,H7,I7.unpinned,r7,q7⟩
end
end
section
noncomputable abbrev R2:=V->V->Hp->VK->Prop
noncomputable def OpR(X:Cx)(f:Value->Value->Sem Value)(r:R2):Prop :=
 ∀(pins:List (Addr×Obj))(s:Shared)(σ:St)(H:Hp)(x y:V)(v u:Value)(Q:VK),Inv X pins σ H s->RelV x v->RelV y u->r x y H Q ->
  wpAny (model X.prog X.w) X.A (f v u) (EP X pins σ Q) X.xe s
noncomputable def UnR(X:Cx)(f:Value->Sem Value)(r:V->Hp->VK->Prop):Prop :=
 ∀(pins:List (Addr×Obj))(s:Shared)(σ:St)(H:Hp)(x:V)(v:Value)(Q:VK),Inv X pins σ H s->RelV x v->r x H Q ->
  wpAny (model X.prog X.w) X.A (f v) (EP X pins σ Q) X.xe s
noncomputable def CallR(X:Cx)(f:Value)(r:List V->Hp->VK->Prop):Prop :=
 ∀(pins:List (Addr×Obj))(s:Shared)(σ:St)(H:Hp)(xs:List V)(us:List Value)(Q:VK),Inv X pins σ H s->Vals xs us->r xs H Q ->
  wpAny (model X.prog X.w) X.A (call f us) (EP X pins σ Q) X.xe s
noncomputable def tOp(r:R2)(ta tb:TE):TE:=λσ H Q=>ta σ H λx H1=>tb σ H1 λy H2=>r x y H2 Q
noncomputable def tUn(r:V->Hp->VK->Prop)(ta:TE):TE:=λσ H Q=>ta σ H λx H1=>r x H1 Q
noncomputable def rI(C:Int->Int->Prop)(g:Int->Int->V):R2:=λx y H Q=>∃i j,x=.int i/\y=.int j/\C i j/\Q (g i j) H
noncomputable def rI0(g:Int->Int->V):R2:=λx y H Q=>∃i j,x=.int i/\y=.int j/\Q (g i j) H
noncomputable def rU(g:Int->V):V->Hp->VK->Prop:=λx H Q=>∃i,x=.int i/\Q (g i) H
section
variable{X:Cx}{a b c:Expr}{ta tb tc:TE}{pos:Pos}
theorem binT(ha:PE X a ta)(hb:PE X b tb){pins:List (Addr×Obj)}{s:Shared}{σ:St}{H:Hp}{R:V->V->Hp->Prop}(I:Inv X pins σ H s)(h:ta σ H λx H1=>tb σ H1 λy H2=>R x y H2){Q:Value->Shared->Prop}{f:Value->Value->Sem Value}(hf:∀v u s2 x y H2,Inv X pins σ H2 s2->RelV x v->RelV y u->R x y H2->wpAny (model X.prog X.w) X.A (f v u) Q X.xe s2):
  wpAny (model X.prog X.w) X.A (eval a X.env) (λv s₁=>wpAny (model X.prog X.w) X.A (eval b X.env) (λu s₂=>wpAny (model X.prog X.w) X.A (f v u) Q X.xe s₂) X.xe s₁) X.xe s:=by
 refine thn (ha pins s σ H _ I h) λv s1 ⟨x,H1,I1,r1,q1⟩=>?_
 refine thn (hb pins s1 σ H1 _ I1 q1) λu s2 ⟨y,H2,I2,r2,q2⟩=>?_
 exact hf v u s2 x y H2 I2 r1 r2 q2
theorem Qoj{op:Operator}{r:R2}(ho:OpR X (binaryOp op) r)(ha:PE X a ta)(hb:PE X b tb):PE X (.BinOp a op b pos) (tOp r ta tb):=by
 intro pins s σ H Q I h
 exact wpAny_BinOp (binT ha hb I h λv u s2 x y H2 I2 rx ry q=>ho pins s2 σ H2 x y v u Q I2 rx ry q)
theorem Qok{op:UnaryOp}{r:V->Hp->VK->Prop}(ho:UnR X (unaryOp op) r)(ha:PE X a ta):PE X (.UnaryOp op a pos) (tUn r ta):=by
 intro pins s σ H Q I h
 exact UnaryOp_ (thn (ha pins s σ H _ I h) λv s1 ⟨x,H1,I1,r1,q1⟩=>ho pins s1 σ H1 x v Q I1 r1 q1)
theorem opI{f:Value->Value->Sem Value}{C:Int->Int->Prop}{g:Int->Int->Int}(rule:∀(i j:Int) (t u:Tok) (s:Shared) (Q:Value->Shared->Prop) (E:Value->Shared->Prop),C i j->Q (.int (g i j) s.toks) {s with toks:=s.toks+1}->wpAny (model X.prog X.w) X.A (f (.int i t) (.int j u)) Q E s):
  OpR X f (rI C λi j=>.int (g i j)):=by
 intro pins s σ H x y v u Q I rx ry h
 obtain⟨i,j,rfl,rfl,hc,q⟩:=h
 obtain⟨t,rfl⟩:=rx
 obtain⟨t',rfl⟩:=ry
 exact rule i j t t' s _ _ hc ⟨.int (g i j),H,I.tok _,⟨_,rfl⟩,q⟩
theorem opI0{f:Value->Value->Sem Value}{g:Int->Int->Int}(rule:∀(i j:Int) (t u:Tok) (s:Shared) (Q:Value->Shared->Prop) (E:Value->Shared->Prop),Q (.int (g i j) s.toks) {s with toks:=s.toks+1}->wpAny (model X.prog X.w) X.A (f (.int i t) (.int j u)) Q E s):
  OpR X f (rI0 λi j=>.int (g i j)):=by
 intro pins s σ H x y v u Q I rx ry h
 obtain⟨i,j,rfl,rfl,q⟩:=h
 obtain⟨t,rfl⟩:=rx
 obtain⟨t',rfl⟩:=ry
 exact rule i j t t' s _ _ ⟨.int (g i j),H,I.tok _,⟨_,rfl⟩,q⟩
theorem opB0{f:Value->Value->Sem Value}{g:Int->Int->Bool}(rule:∀(i j:Int) (t u:Tok) (s:Shared) (Q:Value->Shared->Prop) (E:Value->Shared->Prop),Q (.bool (g i j)) s->wpAny (model X.prog X.w) X.A (f (.int i t) (.int j u)) Q E s):
  OpR X f (rI0 λi j=>.bl (g i j)):=by
 intro pins s σ H x y v u Q I rx ry h
 obtain⟨i,j,rfl,rfl,q⟩:=h
 obtain⟨t,rfl⟩:=rx
 obtain⟨t',rfl⟩:=ry
 exact rule i j t t' s _ _ ⟨.bl (g i j),H,I,rfl,q⟩
def CDiv(i j:Int):Prop:=0<j/\j<1073741824
def CMul(i j:Int):Prop:=(-(2^64)<i/\i<2^64)\/(-(2^64)<j/\j<2^64)
theorem CMul.ok{i j:Int}(h:CMul i j):IntMulOk i j:=by
 rcases h with⟨h1,h2⟩|⟨h1,h2⟩
 ·exact .of_left (intBits_le_64 h1 h2)
 ·exact .of_right (intBits_le_64 h1 h2)
theorem op_add:OpR X (binaryOp .Add) (rI0 λi j=>.int (i+j)):=opI0 λ_ _ _ _ _ _ _ q=>add_int q
theorem QmI:OpR X (binaryOp .Sub) (rI0 λi j=>.int (i-j)):=opI0 λ_ _ _ _ _ _ _ q=>sub_int q
theorem op_mul:OpR X (binaryOp .Mult) (rI CMul λi j=>.int (i*j)):=opI λ_ _ _ _ _ _ _ hc q=>mul_int q hc.ok
theorem Qld:OpR X (binaryOp .FloorDiv) (rI CDiv λi j=>.int (i/j)):=opI λi j _ _ _ _ _ hc q=>by
 have h1:(0:Int)<j:=hc.1
 have h2:j<1073741824:=hc.2
 exact floordiv_int (by omega) (by rw[Int.fdiv_eq_ediv_of_nonneg i (by omega)];exact q) (.inl (PyProof.noPylong_small (by omega)))
theorem QmJ:OpR X (binaryOp .Mod) (rI (λ_ j=>0<j) λi j=>.int (i%j)):=opI λi j _ _ _ _ _ hc q=>by
 have h1:(0:Int)<j:=hc
 exact mod_int' (by omega) (by rw[Int.fmod_eq_emod_of_nonneg i (by omega)];exact q)
theorem unI{f:Value->Sem Value}{g:Int->Int}(rule:∀(i:Int) (t:Tok) (s:Shared) (Q:Value->Shared->Prop) (E:Value->Shared->Prop),Q (.int (g i) s.toks) {s with toks:=s.toks+1}->wpAny (model X.prog X.w) X.A (f (.int i t)) Q E s):
  UnR X f (rU λi=>.int (g i)):=by
 intro pins s σ H x v Q I rx h
 obtain⟨i,rfl,q⟩:=h
 obtain⟨t,rfl⟩:=rx
 exact rule i t s _ _ ⟨.int (g i),H,I.tok _,⟨_,rfl⟩,q⟩
theorem QmK:UnR X (unaryOp .USub) (rU λi=>.int (-i)):=unI λ_ _ _ _ _ q=>neg_int q
end
noncomputable def scal:V->V->Bool
 |.non,.non=>true | .non,.int _=>true | .int _,.non=>true | .non,.bl _=>true | .bl _,.non=>true | .non,.str _=>true | .str _,.non=>true
 |.int _,.int _=>true | .bl _,.bl _=>true | .str _,.str _=>true | .byt _,.byt _=>true
 |.int _,.str _=>true | .str _,.int _=>true | .bl _,.str _=>true | .str _,.bl _=>true
 |_,_=>false
noncomputable def rEq:R2:=λx y H Q=>scal x y=true/\Q (.bl (decide (x=y))) H
noncomputable def rNe:R2:=λx y H Q=>scal x y=true/\Q (.bl (!decide (x=y))) H
theorem Qdc{i j:Int}:decide (V.int i=V.int j)=(i == j):=by
 rw[Tw]
 simp
theorem QfG{i j:Bool}:decide (V.bl i=V.bl j)=(i == j):=by
 rw[Tw]
 simp
theorem Qdd{i j:Str}:decide (V.str i=V.str j)=(i == j):=by
 rw[Tw]
 simp
theorem Qhr{i j:Array UInt8}:decide (V.byt i=V.byt j)=(i.toList == j.toList):=by
 rw[Tw]
 cases i
 cases j
 simp
section
variable{X:Cx}{a b c:Expr}{ta tb tc:TE}{pos:Pos}
theorem QO{pins:List (Addr×Obj)}{σ:St}{H:Hp}{s:Shared}{Q:VK}{k k':Bool}(I:Inv X pins σ H s)(q:Q (.bl k) H)(e:k=k'):EP X pins σ Q (.bool k') s:=by
 subst e
 exact⟨.bl k,H,I,rfl,q⟩
theorem op_eq:OpR X (compareOp .Eq) rEq:=by
 intro pins s σ H x y v u Q I rx ry h
 obtain⟨hs,q⟩:=h
 cases x with
 |non =>
  cases rx
  cases y with
  |non=>cases ry;exact PySem.EqNone.eq_none_none (QO I q (by simp))
  |bl j=>cases ry;exact PySem.EqNone.eq_none_bool (QO I q (by simp))
  |int j=>obtain⟨t',rfl⟩:=ry;exact PySem.EqNone.eq_none_int (QO I q (by simp))
  |str j=>obtain⟨t',rfl⟩:=ry;exact PySem.EqNone.eq_none_str (QO I q (by simp))
  |_=>exact absurd (show false=true from hs) Ue
 |bl i =>
  cases rx
  cases y with
  |non=>cases ry;exact PySem.EqNone.eq_bool_none (QO I q (by simp))
  |bl j=>cases ry;exact eq_bool (QO I q QfG)
  |str j=>obtain⟨t',rfl⟩:=ry;exact PySem.EqMixed.eq_bool_str (QO I q (by simp))
  |_=>exact absurd (show false=true from hs) Ue
 |int i =>
  obtain⟨t,rfl⟩:=rx
  cases y with
  |non=>cases ry;exact PySem.EqNone.eq_int_none (QO I q (by simp))
  |int j=>obtain⟨t',rfl⟩:=ry;exact eq_int (QO I q Qdc)
  |str j=>obtain⟨t',rfl⟩:=ry;exact PySem.EqMixed.eq_int_str (QO I q (by simp))
  |_=>exact absurd (show false=true from hs) Ue
 |str i =>
  obtain⟨t,rfl⟩:=rx
  cases y with
  |non=>cases ry;exact PySem.EqNone.eq_str_none (QO I q (by simp))
  |bl j=>cases ry;exact PySem.EqMixed.eq_str_bool (QO I q (by simp))
  |int j=>obtain⟨t',rfl⟩:=ry;exact PySem.EqMixed.eq_str_int (QO I q (by simp))
  |str j=>obtain⟨t',rfl⟩:=ry;exact eq_str (QO I q Qdd)
  |_=>exact absurd (show false=true from hs) Ue
 |byt i =>
  obtain⟨t,rfl⟩:=rx
  cases y with
  |byt j=>obtain⟨t',rfl⟩:=ry;exact eq_bytes (QO I q Qhr)
  |_=>exact absurd (show false=true from hs) Ue
 |_=>cases y <;> exact absurd (show false=true from hs) Ue
theorem op_ne:OpR X (compareOp .NotEq) rNe:=by
 intro pins s σ H x y v u Q I rx ry h
 obtain⟨hs,q⟩:=h
 cases x with
 |non =>
  cases rx
  cases y with
  |non=>cases ry;exact PySem.EqNone.ne_none_none (QO I q (by simp))
  |bl j=>cases ry;exact PySem.EqNone.ne_none_bool (QO I q (by simp))
  |int j=>obtain⟨t',rfl⟩:=ry;exact PySem.EqNone.ne_none_int (QO I q (by simp))
  |str j=>obtain⟨t',rfl⟩:=ry;exact PySem.EqNone.ne_none_str (QO I q (by simp))
  |_=>exact absurd (show false=true from hs) Ue
 |bl i =>
  cases rx
  cases y with
  |non=>cases ry;exact PySem.EqNone.ne_bool_none (QO I q (by simp))
  |bl j=>cases ry;exact ne_bool (QO I q (TY not QfG))
  |str j=>obtain⟨t',rfl⟩:=ry;exact PySem.EqMixed.ne_bool_str (QO I q (by simp))
  |_=>exact absurd (show false=true from hs) Ue
 |int i =>
  obtain⟨t,rfl⟩:=rx
  cases y with
  |non=>cases ry;exact PySem.EqNone.ne_int_none (QO I q (by simp))
  |int j=>obtain⟨t',rfl⟩:=ry;exact ne_int (QO I q (TY not Qdc))
  |str j=>obtain⟨t',rfl⟩:=ry;exact PySem.EqMixed.ne_int_str (QO I q (by simp))
  |_=>exact absurd (show false=true from hs) Ue
 |str i =>
  obtain⟨t,rfl⟩:=rx
  cases y with
  |non=>cases ry;exact PySem.EqNone.ne_str_none (QO I q (by simp))
  |bl j=>cases ry;exact PySem.EqMixed.ne_str_bool (QO I q (by simp))
  |int j=>obtain⟨t',rfl⟩:=ry;exact PySem.EqMixed.ne_str_int (QO I q (by simp))
  |str j=>obtain⟨t',rfl⟩:=ry;exact ne_str (QO I q (TY not Qdd))
  |_=>exact absurd (show false=true from hs) Ue
 |byt i =>
  obtain⟨t,rfl⟩:=rx
  cases y with
  |byt j=>obtain⟨t',rfl⟩:=ry;exact ne_bytes (QO I q (TY not Qhr))
  |_=>exact absurd (show false=true from hs) Ue
 |_=>cases y <;> exact absurd (show false=true from hs) Ue
theorem Qle:OpR X (compareOp .Lt) (rI0 λi j=>.bl (decide (i<j))):=opB0 λ_ _ _ _ _ _ _ q=>lt_int q
theorem QmL:OpR X (compareOp .LtE) (rI0 λi j=>.bl (decide (i<=j))):=opB0 λ_ _ _ _ _ _ _ q=>le_int q
theorem QmM:OpR X (compareOp .Gt) (rI0 λi j=>.bl (decide (j<i))):=opB0 λ_ _ _ _ _ _ _ q=>gt_int q
theorem QmN:OpR X (compareOp .GtE) (rI0 λi j=>.bl (decide (j<=i))):=opB0 λ_ _ _ _ _ _ _ q=>ge_int q
theorem QkD:OpR X (compareOp .Is) (λx y H Q=>y=.non/\Q (.bl (decide (x=.non))) H):=by
 intro pins s σ H x y v u Q I rx ry h
 obtain⟨rfl,q⟩:=h
 cases ry
 refine is_none_gen (QO I q ?_)
 cases x <;> first
  | (cases rx;rfl)
  | (obtain⟨t,rfl⟩:=rx;rfl)
theorem Qlf:OpR X (compareOp .IsNot) (λx y H Q=>y=.non/\Q (.bl (!decide (x=.non))) H):=by
 intro pins s σ H x y v u Q I rx ry h
 obtain⟨rfl,q⟩:=h
 cases ry
 refine isnot_none_gen (QO I q ?_)
 cases x <;> first
  | (cases rx;rfl)
  | (obtain⟨t,rfl⟩:=rx;rfl)
theorem OpR.or{f:Value->Value->Sem Value}{r r':R2}(h:OpR X f r)(h':OpR X f r'):OpR X f (λx y H Q=>r x y H Q\/r' x y H Q):=by
 intro pins s σ H x y v u Q I rx ry q
 rcases q with q|q
 ·exact h pins s σ H x y v u Q I rx ry q
 ·exact h' pins s σ H x y v u Q I rx ry q
theorem Jl(b:Expr){op:CmpOp}(h:op≠.In:=by decide)(h2:op≠.NotIn:=by decide):behindInMarks op b=false:=by
 have e1:(op == CmpOp.In)=false:=by cases op <;> first|rfl|exact absurd rfl h
 have e2:(op == CmpOp.NotIn)=false:=by cases op <;> first|rfl|exact absurd rfl h2
 cases b <;> simp[behindInMarks,e1,e2]
theorem Qlg{op:CmpOp}{r:R2}(ho:OpR X (compareOp op) r)(ha:PE X a ta)(hb:PE X b tb)(hm:behindInMarks op b=false):PE X (.Compare a [op] [b] pos) (tOp r ta tb):=by
 intro pins s σ H Q I h
 exact wpAny_Compare1 (binT ha hb I h λv u s2 x y H2 I2 rx ry q=>ho pins s2 σ H2 x y v u Q I2 rx ry q) hm
noncomputable def Qol(t:TE):TT:=λσ H Q=>t σ H λx H'=>∃k,x=.bl k/\Q k H'
theorem Qlh{op:CmpOp}{r:R2}(ho:OpR X (compareOp op) r)(ha:PE X a ta)(hb:PE X b tb)(hm:behindInMarks op b=false):PT X (.Compare a [op] [b] pos) (Qol (tOp r ta tb)):=by
 intro pins s σ H Q I h
 refine wpAny_isTrue_Compare1 (thn (ha pins s σ H _ I h) λv s1 ⟨x,H1,I1,r1,q1⟩=>thn (hb pins s1 σ H1 _ I1 q1) λu s2 ⟨y,H2,I2,r2,q2⟩ =>
  thn (ho pins s2 σ H2 x y v u _ I2 r1 r2 q2) λc s3 ⟨z,H3,I3,r3,k,e,q3⟩=>?_) hm
 subst e
 cases r3
 exact Tg ⟨H3,I3,q3⟩
noncomputable def QkE(r r':R2)(ta tb tc:TE):TE:=λσ H Q=>ta σ H λx H1=>tb σ H1 λy H2=>r x y H2 λz H3=>∃k,z=.bl k /\
 (if k=true then tc σ H3 λw' H4=>r' y w' H4 Q else Q (.bl false) H3)
theorem Qjr{op op':CmpOp}{r r':R2}(ho:OpR X (compareOp op) r)(ho':OpR X (compareOp op') r')(ha:PE X a ta)(hb:PE X b tb)(hc:PE X c tc)(hm:lastMarks [op,op'] [b,c]=false:=by with_unfolding_all rfl):PE X (.Compare a [op,op'] [b,c] pos) (QkE r r' ta tb tc):=by
 intro pins s σ H Q I h
 refine Compare_chain (thn (ha pins s σ H _ I h) λv s1 ⟨x,H1,I1,r1,q1⟩=>chain_link (thn (hb pins s1 σ H1 _ I1 q1) λu s2 ⟨y,H2,I2,r2,q2⟩ =>
  thn (ho pins s2 σ H2 x y v u _ I2 r1 r2 q2) λd s3 ⟨z,H3,I3,r3,k,e,q3⟩=>?_)) hm
 subst e
 cases r3
 refine Tg ?_
 cases k with
 |false=>exact ite_ff ⟨.bl false,H3,I3,rfl,q3⟩
 |true=>exact ite_tt (chain_last (thn (hc pins s3 σ H3 _ I3 q3) λw' s4 ⟨z',H4,I4,r4,q4⟩=>ho' pins s4 σ H4 y z' u w' Q I4 r2 r4 q4))
theorem QdY:(sizeLine:Nat)<2^63:=by rw[RS];decide
theorem Qgv{x:V}{us:List Value}(r:Vals [x] us):∃u,us=[u]/\RelV x u:=by
 cases r with
 |cons r1 r2=>cases r2;exact⟨_,rfl,r1⟩
theorem QmO{x y:V}{us:List Value}(r:Vals [x,y] us):∃u w',us=[u,w']/\RelV x u/\RelV y w':=by
 cases r with
 |cons r1 r2 =>
  cases r2 with
  |cons r3 r4=>cases r4;exact⟨_,_,rfl,r1,r3⟩
theorem Qhs(hc:X.calm=true):CallR X (.builtin "max") (λxs H Q=>∃i j,xs=[.int i,.int j]/\Q (.int (if j > i then j else i)) H):=by
 intro pins s σ H xs us Q I r h
 obtain⟨i,j,rfl,q⟩:=h
 obtain⟨u,w',rfl,⟨t,rfl⟩,⟨t',rfl⟩⟩:=QmO r
 refine max_two_ints (I.ok.hd hc) λh' tk k=>⟨_,H,I.kept k,?_,q⟩
 by_cases hj:j > i
 ·rw[Uc hj,Uc hj];exact⟨_,rfl⟩
 ·rw[Ud hj,Ud hj];exact⟨_,rfl⟩
theorem Qht(hc:X.calm=true):CallR X (.builtin "min") (λxs H Q=>∃i j,xs=[.int i,.int j]/\Q (.int (if j<i then j else i)) H):=by
 intro pins s σ H xs us Q I r h
 obtain⟨i,j,rfl,q⟩:=h
 obtain⟨u,w',rfl,⟨t,rfl⟩,⟨t',rfl⟩⟩:=QmO r
 refine min_two_ints (I.ok.hd hc) λh' tk k=>⟨_,H,I.kept k,?_,q⟩
 by_cases hj:j<i
 ·rw[Uc hj,Uc hj];exact⟨_,rfl⟩
 ·rw[Ud hj,Ud hj];exact⟨_,rfl⟩
theorem Qhu:CallR X (.type "int") (λxs H Q=>(∃i,xs=[.int i]/\Q (.int i) H)\/∃k,xs=[.bl k]/\Q (.int (if k then 1 else 0)) H):=by
 intro pins s σ H xs us Q I r h
 rcases h with⟨i,rfl,q⟩|⟨k,rfl,q⟩
 ·obtain⟨u,rfl,t,rfl⟩:=Qgv r
  exact call_int_int ⟨.int i,H,I,⟨_,rfl⟩,q⟩
 ·obtain⟨u,rfl,r1⟩:=Qgv r
  cases r1
  exact call_int_bool ⟨.int (if k then 1 else 0),H,I.tok _,⟨_,rfl⟩,q⟩
end
end
section
structure ObjM(h:Heap)(x dx C:Addr)(mA:Str->Option Value):Prop where
 obj:h.get? x=some (instObj C dx)
 ns:h.Ns1 dx mA
 ne:dx≠x
theorem Qhv{h:Heap}{dx:Addr}{mA:Str->Option Value}(n:h.Ns1 dx mA):∃od,h.get? dx=some od/\∀name,lookIn name od=some (mA name):=by
 obtain⟨o,es,ep,ho,hd,hk,_,hm⟩:=n
 refine⟨o,ho,λname=>?_⟩
 have e:=hm name
 unfold nsFind findBy at e
 rw[<-Array.find?_toList]at e
 unfold lookIn
 rw[hd]
 dsimp only
 split
 ·rename_i y q
  rw[q]at e
  exact TY some e
 ·rename_i q
  rw[q]at e
  have a:es.toList.any (·.refKey)=false:=by
   rw[List.any_eq_false]
   intro y hy
   obtain⟨z,t,hkey⟩:=hk y (Array.mem_toList_iff.mp hy)
   simp[DictEntry.refKey,hkey]
  have a':¬es.toList.any (·.refKey)=true:=by rw[a];exact Ue
  rw[Ud a']
  exact TY some e
theorem ObjM.look{h:Heap}{x dx C:Addr}{mA:Str->Option Value}(I:ObjM h x dx C mA):∃od,PySem.W.InstAt h x (instObj C dx) C (some od)/\∀name,lookIn name od=some (mA name) :=
 let ⟨od,ho,hl⟩:=Qhv I.ns
 ⟨od,⟨I.obj,rfl,rfl,ho⟩,hl⟩
section
variable{prog:Program}{w:World}{A:Around}{E:Value->Shared->Prop}{s:Shared}{K:Frag}{x dx C f:Addr}{mA:Str->Option Value}{name:Str}{v:Value}
theorem Qli{expr:Bool}{Q:Value->Shared->Prop}(X:K.In s.heap)(I:ObjM s.heap x dx C mA)(hg:plainGet K C name=true)(hh:hasDictIn K C=true)(ha:findIn K (.ref C) name=some none)(hv:mA name=some v)(hv':handedIn v=true)(h:Q v {s with toks:=s.toks+1}):
  wpAny (model prog w) A (getAttr (.ref x) name expr) Q E s:=by
 obtain⟨od,J,hl⟩:=I.look
 exact get_value X J (Ru hg).1 (findObj_own hh ha rfl (by rw[hl,hv])) hv' h
theorem Qjs{pl:Sem Bool}{Q:Value×List Value->Shared->Prop}(X:K.In s.heap)(I:ObjM s.heap x dx C mA)(hg:plainGet K C name=true)(hf:findIn K (.ref C) name=some (some (.ref f)))(ht:isFn K (.ref f)=true)(hv:mA name=none)(h:Q (.ref f,[.ref x]) s):
  wpAny (model prog w) A (getMethod (.ref x) name pl) Q E s:=by
 obtain⟨od,J,hl⟩:=I.look
 exact method_fn X J (Ru hg).1 (Ru hg).2 hf (U1.mp ht) (by show(lookIn name od).map (·.isSome)=some false;rw[hl,hv];rfl) h
theorem Qlj{ns:List Str}{Q:Unit->Shared->Prop}(X:K.In s.heap)(I:ObjM s.heap x dx C mA)(hs:findIn K (.ref C) "__setattr__" = some (some (.builtin "object.__setattr__")))(hp:plainOver K C=true)(ht:takerIn K C name=some none)(hh:hasDictIn K C=true)(hw:PySem.Within mA ns)(hsz:ns.length<=sizeLine)(h:∀h',ObjM h' x dx C (λy=>if y=name then some v else mA y)->Heap.SameBut dx s.heap h'->Q () {s with heap:=h',toks:=s.toks+2}):
  wpAny (model prog w) A (setAttr (.ref x) name v) Q E s:=by
 obtain⟨od,J,hl⟩:=I.look
 refine set_plain X J hs (osa_open (s:={s with toks:=s.toks+1}) (r:=none) X J hp ht λb=>?_)
 obtain⟨cd,hc,hd'⟩:=any_some hh
 have hx:s.heap.get? x=some ⟨.ref C,some dx,.plain,#[]⟩:=I.obj
 refine Ua (Ui (Ua (Ua (Wv hx (Ua (Looks.here (s:={s with toks:=s.toks+1}) (looks_clsIn X hc) ?_))))))
 rw[hd']
 refine Ui (a:=some dx) (Ua (Ui (Ua ?_)))
 refine wpAny_nsSet1 (s:={s with toks:=s.toks+1}) I.ns λh' hn2 hs2=>?_
 obtain⟨oD,esD,epD,hoD,hdD,hcD⟩:=hn2.count (PySem.Within.cons name v hw)
 refine Ua (wpAny_lookBehind hoD (by rw[hdD];exact pastItsLine_dict (Uv hcD (by rw[UR];omega))) ?_)
 exact Ui (h _ ⟨(hs2.2 _ (Ne.symm I.ne)).trans I.obj,hn2,I.ne⟩ hs2)
theorem Qjt{R:Result->Shared->Prop}{vs:List Value}{kw:List (Str×Value)}(X:K.In s.heap)(hm:makesIn K C=true)(hi:findIn K (.ref C) "__init__" = some (some (.ref f)))(hf:typeIn K (.ref f)=some (.type "function"))(h:codeAny (model prog w) (A.under (.builtin "type.__call__" ⟨.ref C::vs,kw⟩)) (.call (.ref f) ⟨.ref (s.heap.objs.size+1)::vs,kw⟩) (InitBack (s.heap.objs.size+1) R)
   {s with heap:=(s.heap.push emptyDict).push (instObj C s.heap.objs.size)}):
  codeAny (model prog w) A (.call (.ref C) ⟨vs,kw⟩) R s:=by
 obtain⟨hh,g,d,t,os⟩:=s
 exact make_core (makes_of X hm) (Rj X hi) (λself=>bind_fn X self hf) (.inl rfl) h
end
noncomputable def putF(f:Str)(v:V):List (Str×V)->List (Str×V)
 |[]=>[(f,v)]
 | (g,x)::r=>if g=f then (g,v)::r else (g,x)::putF f v r
theorem QbT(f g:Str)(v:V):∀fs:List (Str×V),(putF f v fs).lookup g=if g=f then some v else fs.lookup g
 |[]=>by
  show List.lookup g [(f,v)]=_
  by_cases h:g=f
  ·have hb:(g == f)=true:=U1.mpr h
   simp only[List.lookup,hb,Uc h]
  ·have hb:(g == f)=false:=U0.mpr h
   simp only[List.lookup,hb,Ud h]
 | (k,x)::r=>by
  have ih:=QbT f g v r
  rw[show putF f v ((k,x)::r)=(if k=f then (k,v)::r else (k,x)::putF f v r) from rfl]
  by_cases hk:k=f
  ·rw[Uc hk]
   by_cases h:g=k
   ·have hb:(g == k)=true:=U1.mpr h
    simp only[List.lookup,hb,Uc (h.trans hk)]
   ·have hb:(g == k)=false:=U0.mpr h
    simp only[List.lookup,hb,Ud (λe:g=f=>h (e.trans hk.symm))]
  ·rw[Ud hk]
   by_cases h:g=k
   ·have hb:(g == k)=true:=U1.mpr h
    simp only[List.lookup,hb,Ud (λe:g=f=>hk (h.symm.trans e))]
   ·have hb:(g == k)=false:=U0.mpr h
    simp only[List.lookup,hb]
    exact ih
theorem QbU(f:Str)(v:V):∀fs:List (Str×V),f∈(putF f v fs).map (·.1)/\∀g,g∈fs.map (·.1)->g∈(putF f v fs).map (·.1)
 |[]=>⟨by simp[putF],λg h=>by simp at h⟩
 | (k,x)::r=>by
  obtain⟨i1,i2⟩:=QbU f v r
  rw[show putF f v ((k,x)::r)=(if k=f then (k,v)::r else (k,x)::putF f v r) from rfl]
  by_cases hk:k=f
  ·rw[Uc hk]
   subst hk
   exact⟨by simp,λg h=>by simpa using h⟩
  ·rw[Ud hk]
   refine⟨?_,λg h=>?_⟩
   ·rw[UG]
    exact Uq _ i1
   ·rw[UG]at h ⊢
    rcases UL.mp h with e|e
    ·exact UL.mpr (.inl e)
    ·exact Uq _ (i2 g e)
theorem QbV(f:Str)(v:V):∀fs:List (Str×V),(putF f v fs).length<=fs.length+1
 |[]=>by simp[putF]
 | (k,x)::r=>by
  have ih:=QbV f v r
  rw[show putF f v ((k,x)::r)=(if k=f then (k,v)::r else (k,x)::putF f v r) from rfl]
  by_cases hk:k=f
  ·rw[Uc hk,UR,UR];omega
  ·rw[Ud hk,UR,UR];omega
theorem RelO.some_of{v:V}{o:Option Value}(r:RelO (some v) o):∃u,o=some u/\RelV v u:=by
 cases o with
 |none=>exact(show False from r).elim
 |some u=>exact⟨u,rfl,r⟩
theorem RelO.none_of{o:Option Value}(r:RelO none o):o=none:=by
 cases o with
 |none=>rfl
 |some u=>exact(show False from r).elim
theorem Qhw{v:V}{u:Value}(r:RelV v u):handedIn u=true:=by
 cases v with
 |non=>cases (show u=Value.none from r);rfl
 |bl b=>cases (show u=Value.bool b from r);rfl
 |int i=>obtain⟨t,e⟩:=(show ∃t,u=Value.int i t from r);cases e;rfl
 |str x=>obtain⟨t,e⟩:=(show ∃t,u=Value.str x t from r);cases e;rfl
 |byt b=>obtain⟨t,e⟩:=(show ∃t,u=Value.bytes b t from r);cases e;rfl
 |flt b=>obtain⟨t,e⟩:=(show ∃t,u=Value.float b t from r);cases e;rfl
 |ref a=>cases (show u=Value.ref a from r);rfl
 |ty n=>cases (show u=Value.type n from r);rfl
section
variable{P:Program}{w:World}{H H':Hp}{h h':Heap}{a C dx:Addr}{fs fs':List (Str×V)}
theorem Qde(hok:HOk P w H h)(e:H a=some (.ins C dx fs)):∃mA,ObjM h a dx C mA/\(∀f,RelO (fs.lookup f) (mA f))/\PySem.Within mA (fs.map (·.1))/\fs.length<=1000/\H dx=some (.own a):=by
 obtain⟨d,z,ne,ob,mA,n,r,q⟩:=(show ObjOk P w H h a (.ins C dx fs) from hok a _ e)
 exact⟨mA,⟨ob,n,ne⟩,r,q,z,d⟩
end
structure Cls(K:Frag)(C:Addr):Prop where
 pg:plainGet K C Str.empty=true
 hd:hasDictIn K C=true
 po:plainOver K C=true
 sa:findIn K (.ref C) "__setattr__" = some (some (.builtin "object.__setattr__"))
theorem Cls.get{K:Frag}{C:Addr}(c:Cls K C)(f:Str):plainGet K C f=true:=c.pg
def NoAttr(K:Frag)(C:Addr)(f:Str):Prop:=findIn K (.ref C) f=some none
theorem NoAttr.taker{K:Frag}{C:Addr}{f:Str}(n:NoAttr K C f):takerIn K C f=some none:=by
 unfold takerIn
 rw[show findIn K (.ref C) f=some none from n]
 rfl
structure Meth(K:Frag)(C:Addr)(m:Str)(f:Addr):Prop where
 at_:findIn K (.ref C) m=some (some (.ref f))
 fn:isFn K (.ref f)=true
 kp:keepIn K (.ref f)=true
section
variable{X:Cx}{pins:List (Addr×Obj)}{σ:St}{H:Hp}{s:Shared}{a C dx:Addr}{fs:List (Str×V)}{f:Str}{v:V}{A:Around}{E:Value->Shared->Prop}
theorem Qgw{b:Bool}{Q:Value->Shared->Prop}(I:Inv X pins σ H s)(e:H a=some (.ins C dx fs))(c:Cls X.K C)(n:NoAttr X.K C f)(l:fs.lookup f=some v)(h:∀u s',Inv X pins σ H s'->RelV v u->Q u s'):wpAny (model X.prog X.w) A (getAttr (.ref a) f b) Q E s:=by
 obtain⟨mA,O,r,_,_,_⟩:=Qde I.hok e
 obtain⟨u,hu,ru⟩:=RelO.some_of (v:=v) (o:=mA f) (by rw[<-l];exact r f)
 exact Qli I.kIn O (c.get f) c.hd n hu (Qhw ru) (h u _ (I.tok _) ru)
theorem QcZ{m:Str}{g:Addr}{pl:Sem Bool}{Q:Value×List Value->Shared->Prop}(I:Inv X pins σ H s)(e:H a=some (.ins C dx fs))(c:Cls X.K C)(k:Meth X.K C m g)(l:fs.lookup m=none)(h:Q (.ref g,[.ref a]) s):wpAny (model X.prog X.w) A (getMethod (.ref a) m pl) Q E s:=by
 obtain⟨mA,O,r,_,_,_⟩:=Qde I.hok e
 have hn:mA m=none:=RelO.none_of (by rw[<-l];exact r m)
 exact Qjs I.kIn O (c.get m) k.at_ k.fn hn h
theorem Qgx{y:V}{u:Value}{Q:Unit->Shared->Prop}(I:Inv X pins σ H s)(e:H a=some (.ins C dx fs))(c:Cls X.K C)(n:NoAttr X.K C f)(hl:fs.length<1000)(ry:RelV y u)(h:∀s',Inv X pins σ (upd H a (.ins C dx (putF f y fs))) s'->Q () s'):wpAny (model X.prog X.w) A (setAttr (.ref a) f u) Q E s:=by
 obtain⟨mA,O,r,wi,_,ho⟩:=Qde I.hok e
 have hz:(fs.map (·.1)).length<=sizeLine:=by rw[Um,RS];omega
 refine Qlj I.kIn O c.sa c.po n.taker c.hd wi hz λh' O' sb=>h _ ?_
 have hd:∃o,h'.get? dx=some o:=let ⟨o,_,_,e',_⟩:=O'.ns;⟨o,e'⟩
 refine I.write (x:=a) (e:=dx) (by rw[e];exact True.intro) (.inr ho) (λb q hb z=>(sb.2 b hb).trans z) hd ?_
 refine⟨by rw[Qr O.ne];exact ho,?_,O.ne,O'.obj,_,O'.ns,λg=>?_,λg hg=>?_⟩
 ·have:=QbV f y fs;omega
 ·show RelO ((putF f y fs).lookup g) (if g=f then some u else mA g)
  rw[QbT]
  by_cases q:g=f
  ·rw[Uc q,Uc q];exact ry
  ·rw[Ud q,Ud q];exact r g
 ·by_cases q:g=f
  ·rw[q];exact(QbU f y fs).1
  ·refine(QbU f y fs).2 g (wi g λz=>hg ?_)
   show(if g=f then some u else mA g)=none
   rw[Ud q];exact z
theorem Inv.made(I:Inv X pins σ H s):Inv X pins σ (upd (upd H s.heap.objs.size (.own (s.heap.objs.size+1))) (s.heap.objs.size+1) (.ins C s.heap.objs.size []))
  {s with heap:=(s.heap.push emptyDict).push (instObj C s.heap.objs.size)}:=by
 have e1:(s.heap.push emptyDict).get? s.heap.objs.size=some emptyDict:=Uo s.heap rfl
 have e2:((s.heap.push emptyDict).push (instObj C s.heap.objs.size)).get? (s.heap.objs.size+1)=some (instObj C s.heap.objs.size):=by
  have:=Uo (s.heap.push emptyDict) (o:=instObj C s.heap.objs.size) rfl
  rwa[U9]at this
 have e3:(s.heap.push emptyDict).Ns s.heap.objs.size (λ_=>none):=⟨emptyDict,#[],_,e1,rfl,(λe he=>absurd he (by simp)),λ_=>rfl⟩
 have I1:=I.laid (a:=s.heap.objs.size) (o:=.own (s.heap.objs.size+1)) (h':=s.heap.push emptyDict) (t':=s.toks) (λb u q=>Ub _ q) (Uh _) ⟨_,e1⟩
 refine I1.laid (a:=s.heap.objs.size+1) (o:=.ins C s.heap.objs.size []) (t':=s.toks) (λb u q=>Ub _ q) (Nat.le_of_eq (U9 _ _)) ?_
 have ne:s.heap.objs.size≠s.heap.objs.size+1:=UA (Ta _)
 refine⟨by rw[Qr ne,Qn],Ts _,ne,e2,λ_=>none,(Heap.Ns1.of_empty e3).at λo q=>Ub _ q,λ_=>True.intro,λy hy=>absurd rfl hy⟩
theorem Qlk{prog:Program}{w:World}{env:Env}{e:Expr}{f:Str}{pos:Pos}{s:Shared}{Q:Value->Shared->Prop}(hb:attributeBase e f env (eval e env)=eval e env)(h:wpAny (model prog w) A (eval e env) (λo s₁=>wpAny (model prog w) A (getAttr o f true) Q E s₁) E s):wpAny (model prog w) A (eval (.Attribute e f pos) env) Q E s :=
 Attribute_any_ h (by rw[arm_eval_Attribute,hb])
end
noncomputable def tFld(K:Frag)(ta:TE)(f:Str):TE:=λσ H Q=>ta σ H λx H1=>∃a C dx fs v,x=.ref a/\H1 a=some (.ins C dx fs)/\Cls K C/\NoAttr K C f/\fs.lookup f=some v/\Q v H1
noncomputable def sFld(K:Frag)(ta tv:TE)(f:Str):TS:=λD σ H=>tv σ H λy H1=>ta σ H1 λx H2=>∃a C dx fs,x=.ref a/\H2 a=some (.ins C dx fs)/\Cls K C/\NoAttr K C f/\fs.length<1000 /\
 D.nx σ (upd H2 a (.ins C dx (putF f y fs)))
section
variable{X:Cx}{o e value:Expr}{f:Str}{pos pos' tpos:Pos}{ta tv:TE}
theorem QmP(he:PE X e ta)(hb:attributeBase e f X.env (eval e X.env)=eval e X.env):PE X (.Attribute e f pos) (tFld X.K ta f):=by
 intro pins s σ H Q I h
 refine Qlk hb (thn (he pins s σ H _ I h) λu s1 ⟨x,H1,I1,rx,a,C,dx,fs,v,ex,ea,c,n,l,q⟩=>?_)
 subst ex
 obtain rfl:u=Value.ref a:=rx
 exact Qgw I1 ea c n l λu' s2 I2 ru=>⟨v,H1,I2,ru,q⟩
theorem QmQ(ha:PE X o ta)(hv:PE X value tv)(hs:swapsWith value (some (.Attribute o f pos')) pos.line X.env=pure false):PS X (.Assign [.Attribute o f pos'] value pos) (sFld X.K ta tv f):=by
 intro pins s σ H D I h
 refine plainObj_wpAny_Assign_Attribute (thn (hv pins s σ H _ I h) λu s1 ⟨y,H1,I1,ry,q⟩=>thn (ha pins s1 σ H1 _ I1 q) λov s2 ⟨x,H2,I2,rx,a,C,dx,fs,ex,ea,c,n,l,q2⟩=>?_) hs
 subst ex
 obtain rfl:ov=Value.ref a:=rx
 exact Qgx I2 ea c n l ry λs3 I3=>⟨σ,_,I3,q2⟩
end
section
variable{X:Cx}{pins:List (Addr×Obj)}{σ:St}{H:Hp}{s:Shared}{A:Around}{E:Value->Shared->Prop}{Q:Value->Shared->Prop}{c:Value}{b:Bool}
inductive TyOf(K:Frag)(H:Hp):V->Value->Prop where
 |non:TyOf K H .non (.type "NoneType")
 |bl (x:Bool):TyOf K H (.bl x) (.type "bool")
 |int (i:Int):TyOf K H (.int i) (.type "int")
 |str (x:Str):TyOf K H (.str x) (.type "str")
 |flt (x:UInt64):TyOf K H (.flt x) (.type "float")
 |lst {a:Addr} {xs:List V} (e:H a=some (.lst xs)):TyOf K H (.ref a) (.type "list")
 |frz {a:Addr} {o:Obj} {xs:List V} (e:H a=some (.frz o (.lst xs))):TyOf K H (.ref a) (.type "list")
 |tup {a:Addr} {xs:List V} (e:H a=some (.tup xs)):TyOf K H (.ref a) (.type "tuple")
 |dK {a:Addr} {kvs:List (Key×V)} (e:H a=some (.dK kvs)):TyOf K H (.ref a) (.type "dict")
 |dT {a:Addr} {kvs:List (List Key×V)} (e:H a=some (.dT kvs)):TyOf K H (.ref a) (.type "dict")
 |ins {a C dx:Addr} {fs:List (Str×V)} (e:H a=some (.ins C dx fs)) (cl:Cls K C) (ha:findIn K (.ref C) "__class__" = some (some (.builtin "object.__class__")))
   (hn:specialIn K (.builtin "object.__class__") "__get__" = some (some (.builtin "getset_descriptor.__get__"))) (htk:takesIn K (.builtin "object.__class__")=some true)
   (hm:mroIn K C (.type "object")=some true):TyOf K H (.ref a) (.ref C)
theorem YG{x:V}{u t:Value}(I:Inv X pins σ H s)(rx:RelV x u)(ty:TyOf X.K H x t)(e:kitOne X.K t c=some b)(h:∀tk,Q (.bool b) {s with toks:=tk}):
  wpAny (model X.prog X.w) A (call (.builtin "isinstance") [u,c]) Q E s:=by
 cases ty with
 |non=>cases (show u=Value.none from rx);exact UN kitx_none I.kIn True.intro e (λz=>nomatch z) h
 |bl y=>cases (show u=Value.bool y from rx);exact UN kitx_bool I.kIn True.intro e (λz=>nomatch z) h
 |int i=>obtain⟨t,q⟩:=(show ∃t,u=Value.int i t from rx);cases q;exact UN kitx_int I.kIn True.intro e (λz=>nomatch z) h
 |str y=>obtain⟨t,q⟩:=(show ∃t,u=Value.str y t from rx);cases q;exact UN kitx_str I.kIn True.intro e (λz=>nomatch z) h
 |flt y=>obtain⟨t,q⟩:=(show ∃t,u=Value.float y t from rx);cases q;exact UN kitx_float I.kIn True.intro e (λz=>nomatch z) h
 |@lst a xs ea =>
  cases (show u=Value.ref a from rx)
  obtain⟨_,_,n,_,h1⟩:=(show ObjOk X.prog X.w H s.heap a (.lst xs) from I.hok a _ ea)
  exact UN TR I.kIn ⟨_,h1,rfl⟩ e (λz=>nomatch z) h
 |@frz a ob xs ea =>
  cases (show u=Value.ref a from rx)
  obtain⟨_,_,_,n,_,h1⟩:=(show ObjOk X.prog X.w H s.heap a (.frz ob (.lst xs)) from I.hok a _ ea)
  exact UN TR I.kIn ⟨_,h1,rfl⟩ e (λz=>nomatch z) h
 |@tup a xs ea =>
  cases (show u=Value.ref a from rx)
  obtain⟨_,_,_,p⟩:=(show ObjOk X.prog X.w H s.heap a (.tup xs) from I.hok a _ ea)
  obtain⟨o,h1,h2,_⟩:=p
  exact UN RH I.kIn ⟨o,h1,h2⟩ e (λz=>nomatch z) h
 |@dK a kvs ea =>
  cases (show u=Value.ref a from rx)
  obtain⟨_,_,vs,_,p⟩:=(show ObjOk X.prog X.w H s.heap a (.dK kvs) from I.hok a _ ea)
  obtain⟨o,es,ep,h1,h2,_⟩:=p
  exact UN RN I.kIn ⟨o,h1,h2.1⟩ e (λz=>nomatch z) h
 |@dT a kvs ea =>
  cases (show u=Value.ref a from rx)
  obtain⟨_,_,xs,_,o,es,ep,h1,h2,_⟩:=(show ObjOk X.prog X.w H s.heap a (.dT kvs) from I.hok a _ ea)
  exact UN RN I.kIn ⟨o,h1,h2.1⟩ e (λz=>nomatch z) h
 |@ins a C dx fs ea cl ha hn htk hm =>
  cases (show u=Value.ref a from rx)
  obtain⟨mA,O,_⟩:=Qde I.hok ea
  obtain⟨od,J,_⟩:=O.look
  exact UN (kitx_own (cl.get _) cl.hd ha hn htk hm) I.kIn J e (λz=>nomatch z) h
end
end
section
structure Room(k:Nat)(A:Around):Prop where
 hd:A.handled=none
 dp:A.depth+3*k+5<recursionLimit
 un:A.units+16*k+200<cLine
theorem Room.mono{j k:Nat}{A:Around}(r:Room k A)(h:j<=k):Room j A:=⟨r.hd,by have:=r.dp;omega,by have:=r.un;omega⟩
theorem Room.deeper{k:Nat}{A:Around}(r:Room (k+1) A)(env:Env):Room k (A.deeper env) :=
 ⟨r.hd,by have:=r.dp;show A.depth+1+3*k+5<_;omega,by have:=r.un;show A.units+3+16*k+200<_;omega⟩
theorem Room.in1{k:Nat}{A:Around}(r:Room (k+1) A):Room k A.in1 :=
 ⟨r.hd,by have:=r.dp;show A.depth+3*k+5<_;omega,by have:=r.un;show A.units+1+16*k+200<_;omega⟩
theorem Qgy{A:Around}{C:Addr}{us:List Value}{kw:List (Str×Value)}:(A.under (.builtin "type.__call__" ⟨.ref C::us,kw⟩)).depth=A.depth+1:=by
 first|rfl|simp[Around.under,Code.weight,Code.isCreation,Code.isGuard,Code.isCaller,Code.frames,Code.isFrame,guardIds]
theorem Qgz{A:Around}{C:Addr}{us:List Value}{kw:List (Str×Value)}:(A.under (.builtin "type.__call__" ⟨.ref C::us,kw⟩)).units=A.units+1:=by
 first|rfl|simp[Around.under,Code.cUnits,Code.frames,Code.isFrame]
theorem Room.make{k:Nat}{A:Around}(r:Room (k+1) A)(C:Addr)(us:List Value)(kw:List (Str×Value)):Room k (A.under (.builtin "type.__call__" ⟨.ref C::us,kw⟩)) :=
 ⟨r.hd,by have:=r.dp;rw[Qgy];omega,by have:=r.un;rw[Qgz];omega⟩
theorem Room.depth{k:Nat}{A:Around}(r:Room k A):A.depth<recursionLimit:=by have:=r.dp;omega
theorem Room.units{k:Nat}{A:Around}(r:Room k A):A.units+64<cLine:=by have:=r.un;omega
noncomputable def tNil:TA:=λ_ H Q=>Q [] H
noncomputable def Qom(ta:TE)(tr:TA):TA:=λσ H Q=>ta σ H λx H1=>tr σ H1 λxs H2=>Q (x::xs) H2
section
variable{X:Cx}{e:Expr}{es:List Expr}{te:TE}{t:TA}{pos:Pos}
theorem QdZ:PA X [] tNil:=λ_ _ _ _ H Q I h=>Calls.spliced_nil ⟨[],H,I,.nil,h⟩
theorem JC(ha:PE X e te)(hr:PA X es t)(hs:starEach (e::es) X.env=(false,eval e X.env)::starEach es X.env:=by rfl):PA X (e::es) (Qom te t):=by
 intro pos pins s σ H Q I h
 rw[hs]
 show wpAny _ _ (spliced ((false,eval e X.env)::backTo pos (starEach es X.env))) _ _ s
 refine Calls.spliced_cons (thn (ha pins s σ H _ I h) λu s1 ⟨x,H1,I1,r1,q1⟩=>?_)
 exact thn (hr pos pins s1 σ H1 _ I1 q1) λus s2 ⟨xs,H2,I2,r2,q2⟩=>⟨x::xs,H2,I2,.cons r1 r2,q2⟩
noncomputable def tTup(t:TA):TE:=λσ H Q=>t σ H λxs H1=>xs.length<=sizeLine/\∀p,H1 p=none->Q (.ref p) (upd H1 p (.tup xs))
noncomputable def tLst(t:TA):TE:=λσ H Q=>t σ H λxs H1=>xs.length<=sizeLine/\∀p,H1 p=none->Q (.ref p) (upd H1 p (.lst xs))
theorem QkF{x1}(h:PA X es t):PE X (.Tuple es x1 pos) (tTup t):=by
 intro pins s σ H Q I hq
 refine wpAny_Tuple_spliced (thn (h pos pins s σ H _ I hq) λus s1 ⟨xs,H1,I1,r,z,q⟩=>⟨by rw[<-r.length];exact z,?_⟩)
 have hf:H1 s1.heap.objs.size=none:=I1.hok.fresh (Uh _)
 refine⟨.ref s1.heap.objs.size,upd H1 s1.heap.objs.size (.tup xs),I1.laid (t':=s1.toks) (λb u e=>Ub _ e) (Uh _) ?_,rfl,q _ hf⟩
 exact⟨z,us,r,⟨_,Uo _ rfl,rfl,_,rfl⟩⟩
theorem QmR(h:PA X es t):PE X (.List es pos) (tLst t):=by
 intro pins s σ H Q I hq
 refine wpAny_List_spliced (thn (h pos pins s σ H _ I hq) λus s1 ⟨xs,H1,I1,r,z,q⟩=>⟨by rw[<-r.length];exact z,?_⟩)
 have hf:H1 s1.heap.objs.size=none:=I1.hok.fresh (Uh _)
 refine⟨.ref s1.heap.objs.size,upd H1 s1.heap.objs.size (.lst xs),I1.laid (t':=s1.toks) (λb u e=>Ub _ e) (Uh _) ?_,rfl,q _ hf⟩
 exact⟨z,us,0,r,Uo _ rfl⟩
end
noncomputable abbrev Sp:=List V->Hp->VK->XK->Prop
noncomputable abbrev CXT:=List Env->Hp->Shared->XK->Value->Shared->Prop
structure Env0(P:Program)(w:World)(K:Frag)(mg:Str->Option Value)(base:Heap)(A:Around)(outer:List Env)(s:Shared)(H:Hp):Prop where
 frames:A.frames=some outer
 mod:Mod K mg base
 bs:∀b o,base.get? b=some o->s.heap.get? b=some o/\H b=none
 bsz:base.objs.size<=s.heap.objs.size
 funs:s.heap.FunFrames base outer
 frf:∀b∈frs outer,H b=none
 hok:HOk P w H s.heap
 bare:AllBare s.gens
noncomputable def CE(outer:List Env)(P:Program)(w:World)(H:Hp)(s:Shared)(Q:VK)(u:Value)(s':Shared):Prop :=
 ∃v H',s'.os=s.os/\AllBare s'.gens/\Un (frs outer) [] H H' s.heap s'.heap/\HOk P w H' s'.heap/\RelV v u/\Q v H'
noncomputable def CR(CX:CXT)(outer:List Env)(P:Program)(w:World)(H:Hp)(s:Shared)(Q:VK)(E:XK)(r:Result)(s':Shared):Prop :=
 match r with
 |.ok (.ret u)=>CE outer P w H s Q u s'
 |.ok _=>False
 |.error e=>CX outer H s E e s'
structure FnOk(P:Program)(w:World)(K:Frag)(mg:Str->Option Value)(base:Heap)(CX:CXT)(k:Nat)(f:Addr)(fd:FuncData)(ps:List Str)(sp:Sp):Prop where
 len:∀vs H Q E,sp vs H Q E->vs.length=ps.length
 run:∀(A:Around)(outer:List Env)(s:Shared)(H:Hp)(args:Args)(us:List Value)(vs:List V)(Q:VK)(E:XK),Room k A->Env0 P w K mg base A outer s H->BindsTo s fd args (ps.zip us)->Vals vs us->sp vs H Q E ->
  codeAny (model P w) A (.call (.ref f) args) (CR CX outer P w H s Q E) s
theorem FnOk.mono{P:Program}{w:World}{K:Frag}{mg:Str->Option Value}{base:Heap}{CX:CXT}{j k:Nat}{f:Addr}{fd:FuncData}{ps:List Str}{sp:Sp}(F:FnOk P w K mg base CX j f fd ps sp)(h:j<=k):
  FnOk P w K mg base CX k f fd ps sp:=⟨F.len,λA outer s H args us vs Q E hr=>F.run A outer s H args us vs Q E (hr.mono h)⟩
theorem FnOk.imp{P:Program}{w:World}{K:Frag}{mg:Str->Option Value}{base:Heap}{CX:CXT}{k:Nat}{f:Addr}{fd:FuncData}{ps:List Str}{sp sp':Sp}(F:FnOk P w K mg base CX k f fd ps sp)(h:∀vs H Q E,sp' vs H Q E->sp vs H Q E):FnOk P w K mg base CX k f fd ps sp' :=
 ⟨λvs H Q E q=>F.len vs H Q E (h _ _ _ _ q),λA outer s H args us vs Q E hr he hb hv hs=>F.run A outer s H args us vs Q E hr he hb hv (h _ _ _ _ hs)⟩
theorem Env0.make{P:Program}{w:World}{K:Frag}{mg:Str->Option Value}{base:Heap}{A:Around}{outer:List Env}{s:Shared}{H:Hp}(e:Env0 P w K mg base A outer s H)(C:Addr)(us:List Value)(kw:List (Str×Value)):
  Env0 P w K mg base (A.under (.builtin "type.__call__" ⟨.ref C::us,kw⟩)) outer s H:=⟨by first|exact e.frames|(simpa[Around.under,Code.envs,Code.isFrame,pushEnvs]using e.frames),e.mod,e.bs,e.bsz,e.funs,e.frf,e.hok,e.bare⟩
theorem Env0.in1{P:Program}{w:World}{K:Frag}{mg:Str->Option Value}{base:Heap}{A:Around}{outer:List Env}{s:Shared}{H:Hp}(e:Env0 P w K mg base A outer s H):
  Env0 P w K mg base A.in1 outer s H:=⟨e.frames,e.mod,e.bs,e.bsz,e.funs,e.frf,e.hok,e.bare⟩
section
variable{X:Cx}{pins:List (Addr×Obj)}{σ:St}{H:Hp}{s s':Shared}
theorem Inv.env0(I:Inv X pins σ H s):Env0 X.prog X.w X.K X.mg X.base X.A X.stack s H :=
 ⟨I.ok.frames,I.ok.mod,I.bs,Uv I.ok.bsz I.sz,I.stack,I.stkFree,I.hok,I.bare⟩
theorem Inv.after{Q:VK}{u:Value}(I:Inv X pins σ H s)(h:CE X.stack X.prog X.w H s Q u s'):EP X pins σ Q u s':=by
 obtain⟨v,H',os,bare,un,hok,r,q⟩:=h
 obtain⟨hh,g,d,t,os'⟩:=s'
 obtain rfl:os'=s.os:=os
 exact⟨v,H',I.call (h':=hh) (g':=g) (d':=d) (t':=t) (ch:=[]) un hok bare (λb z=>absurd z (by simp)),r,q⟩
end
noncomputable def Binds(K:Frag)(fd:FuncData)(ps:List Str)(ds:List Value):Prop :=
 ∀(s:Shared)(us:List Value),K.In s.heap->(us++ds).length=ps.length->BindsTo s fd ⟨us,[]⟩ (ps.zip (us++ds))
theorem Binds.all{K:Frag}{fd:FuncData}{ps:List Str}(h:∀us:List Value,us.length=ps.length->bindArgs fd ⟨us,[]⟩=pure (ps.zip us)):Binds K fd ps []:=λs us _ hl=>by
 rw[UY]at hl ⊢
 exact .of_eq (h us hl)
section
variable{X:Cx}{CX:CXT}{k:Nat}{f C:Addr}{fd:FuncData}{ps:List Str}{sp:Sp}{dvs:List V}{ds:List Value}{E:XK}{x m:Str}{p pos apos:Pos}{e o:Expr}{es:List Expr}{ta:TE}{t:TA}
structure Mk(K:Frag)(C f:Addr):Prop where
 makes:makesIn K C=true
 init:findIn K (.ref C) "__init__" = some (some (.ref f))
 fn:isFn K (.ref f)=true
 kp:keepIn K (.ref C)=true
end
section
variable{X:Cx}{CX:CXT}{k:Nat}{f C:Addr}{fd:FuncData}{ps ks:List Str}{sp:Sp}{E:XK}{x m:Str}{p pos apos kpos:Pos}{e o:Expr}{es:List Expr}{kws:List Keyword}{te ta:TE}{t tk:TA}{nm:Option Str}
variable{g:List Value->List Value->List Value}{gV:List V->List V->List V}
end
structure FnScope(N P:List Str)(sc:Scope):Prop where
 kind:sc.kind=.function
 co:sc.isCoroutine=false
 gen:sc.isGenerator=false
 nd:N.Nodup
 pre:N.take P.length=P
 par:∀x∈P,sc.names.lookup x=some .local\/sc.names.lookup x=some .cell
 nofree:∀y∈sc.names,y.2≠.free
theorem Qd0{kindOf:Str->Option NameKind}{x:Str}:∀{binds:List (Str×Value)}{m:Str->Option Value},(∀v,(x,v)∉binds)->bindL kindOf binds m x=m x
 |[],_,_=>rfl
 | (n,v)::r,m,h=>by
  unfold bindL
  rw[Qd0 λw hw=>h w (Uq _ hw)]
  split
  ·have:x≠n:=by rintro rfl;exact h v Ur
   simp[this]
  ·rfl
theorem Qd1{kindOf:Str->Option NameKind}{x:Str}:∀{binds:List (Str×Value)}{m:Str->Option Value},(∀v,(x,v)∉binds)->bindC kindOf binds m x=m x
 |[],_,_=>rfl
 | (n,v)::r,m,h=>by
  unfold bindC
  rw[Qd1 λw hw=>h w (Uq _ hw)]
  split
  ·rfl
  ·have:x≠n:=by rintro rfl;exact h v Ur
   simp[this]
theorem Qd2{kindOf:Str->Option NameKind}{x:Str}{v:Value}:∀{P:List Str}{vs:List Value}{i:Nat}{m:Str->Option Value},P.Nodup->P[i]?=some x->vs[i]?=some v->kindOf x=some .local ->
  bindL kindOf (P.zip vs) m x=some v
 |[],_,_,_,_,h,_,_=>by simp at h
 |_::_,[],_,_,_,_,h,_=>by simp at h
 |p::P,w::vs,0,m,nd,h1,h2,hk=>by
  simp at h1 h2;subst h1;subst h2
  show bindL kindOf ((p,w)::P.zip vs) m p=_
  unfold bindL
  rw[Qd0 λv hv=>(Rr.mp nd).1 (Wg hv).1,Uc hk]
  simp
 |p::P,w::vs,i+1,m,nd,h1,h2,hk=>by
  show bindL kindOf ((p,w)::P.zip vs) m x=_
  unfold bindL
  exact Qd2 (i:=i) (Rr.mp nd).2 (by simpa using h1) (by simpa using h2) hk
theorem Qd3{kindOf:Str->Option NameKind}{x:Str}{v:Value}:∀{P:List Str}{vs:List Value}{i:Nat}{m:Str->Option Value},P.Nodup->P[i]?=some x->vs[i]?=some v->kindOf x≠some .local ->
  bindC kindOf (P.zip vs) m x=some v
 |[],_,_,_,_,h,_,_=>by simp at h
 |_::_,[],_,_,_,_,h,_=>by simp at h
 |p::P,w::vs,0,m,nd,h1,h2,hk=>by
  simp at h1 h2;subst h1;subst h2
  show bindC kindOf ((p,w)::P.zip vs) m p=_
  unfold bindC
  rw[Qd1 λv hv=>(Rr.mp nd).1 (Wg hv).1,Ud hk]
  simp
 |p::P,w::vs,i+1,m,nd,h1,h2,hk=>by
  show bindC kindOf ((p,w)::P.zip vs) m x=_
  unfold bindC
  exact Qd3 (i:=i) (Rr.mp nd).2 (by simpa using h1) (by simpa using h2) hk
noncomputable def start(N:List Str)(vs:List V):St:=vs.map some++List.replicate (N.length-vs.length) none
noncomputable def cxOf(CX:CXT)(P:Program)(w:World)(K:Frag)(mg:Str->Option Value)(base:Heap)(N:List Str)(qual:Str)(scope:Scope)(f:Addr)(cd:Value)(A:Around)(outer:List Env)(s:Shared)(H:Hp)(E:XK):Cx where
 prog:=P
 w:=w
 K:=K
 mg:=mg
 base:=base
 A:=A.deeper (envOfC qual scope s.heap.objs.size f cd)
 N:=N
 s₀:=s
 H₀:=H
 env:=envOfC qual scope s.heap.objs.size f cd
 outer:=outer
 stack:=envOfC qual scope s.heap.objs.size f cd::outer
 ex:=[]
 calm:=true
 fn:=λ_=>true
 pn:=[]
 xe:=λe s'=>wpAny (model P w) (A.deeper (envOfC qual scope s.heap.objs.size f cd)) (leaving (envOfC qual scope s.heap.objs.size f cd) e) (λ_ s''=>CX outer H s E e s'') (λe' s''=>CX outer H s E e' s'') s'
theorem QfH{sc:Scope}{n:Nat}{x:Str}(h:sc.names.lookup x=some .cell):∃c,(cellsFrom n sc.names []).lookup x=some c:=by
 have q:=Wa sc.names n [] (.inl h)
 exact Tc.mp q
theorem Qhx{CX:CXT}{P:Program}{w:World}{K:Frag}{mg:Str->Option Value}{base:Heap}{N ps:List Str}{qual:Str}{scope:Scope}{f:Addr}{cd:Value}{A:Around}{outer:List Env}{s s1:Shared}{H:Hp}{E:XK}{us:List Value}{vs:List V}(S:FnScope N ps scope)(hd:A.handled=none)(e0:Env0 P w K mg base A outer s H)(hl:vs.length=ps.length)(r:Vals vs us)(x:InCallC s s.heap.objs.size (bindL (envOfC qual scope s.heap.objs.size f cd).kindOf (ps.zip us) λ_=>none) (cellsFrom (s.heap.objs.size+1) scope.names []) (bindC (envOfC qual scope s.heap.objs.size f cd).kindOf (ps.zip us) λ_=>none) s1):
  Inv (cxOf CX P w K mg base N qual scope f cd A outer s H E) [] (start N vs) H s1:=by
 have hpl:ps.length<=N.length:=by have:=TY List.length S.pre;rw[TD]at this;omega
 obtain⟨h1,tk,rfl,hk⟩:=x.done
 have noA:∀b:Addr,b∉(cxOf CX P w K mg base N qual scope f cd A outer s H E).ex:=λb z=>absurd (show b∈([]:List Addr) from z) (by simp)
 refine⟨⟨e0.mod,S.kind,rfl,rfl,Uh _,λy z c h1 h2=>?_,λy hy=>?_,λy c _ h=>?_,λ_=>hd,Around.frames_deeper e0.frames,.inr ⟨rfl,rfl⟩,λb z=>absurd z (noA b),e0.bs,e0.bsz,λb _ _=>noA b,λb z=>absurd z (noA b),e0.funs,e0.frf⟩,
  rfl,e0.bare,Un.kept hk,⟨_,x.toInCall.ns,λi y v h1 h2 h3=>?_⟩,λy c h=>⟨_,x.cell y c h⟩,e0.hok.fresh (Uh _),λy c h=>?_,λp hp=>absurd (show p∈([]:List (Addr×Obj)) from hp) (by simp),e0.hok.kept hk,?_⟩
 ·exact name_of_addr x.apart (Tl h1) (Tl h2)
 ·have hy:scope.names.lookup y=some .cell\/scope.names.lookup y=some .free:=hy
  rcases hy with hy|hy
  ·exact QfH hy
  ·exact absurd rfl (S.nofree _ (Tl hy))
 ·exact Tn (x.above y c (Tl h))
 ·have hi:i<vs.length:=by
   unfold start at h2
   by_cases hi:i<vs.length
   ·exact hi
   ·rw[UD (by simpa using hi)]at h2
    rw[TB]at h2
    split at h2 <;> cases h2
  have ha:vs[i]?=some v:=by
   unfold start at h2
   rw[Uw (by simpa using hi),Up]at h2
   cases e:vs[i]? with
   |none=>rw[e]at h2;cases h2
   |some a=>rw[e]at h2;cases h2;rfl
  obtain⟨u,hu,rv⟩:=r.get ha
  have hp:ps[i]?=some y:=by
   rw[<-S.pre,RP (by omega)];exact h1
  have ndP:ps.Nodup:=by rw[<-S.pre];exact S.nd.sublist (List.take_sublist _ _)
  refine⟨u,rv,?_⟩
  rcases S.par y (Rk hp) with k|k
  ·exact .inl ⟨k,Qd2 ndP hp hu k⟩
  ·obtain⟨c,e⟩:=QfH (n:=s.heap.objs.size+1) k
   refine .inr ⟨.inl k,c,e,?_⟩
   have q:=x.cell y c e
   rw[Qd3 ndP hp hu (by show scope.names.lookup y≠_;rw[k];decide)]at q
   exact q
 ·exact e0.hok.fresh (Tn (x.above y c (Tl h)))
 ·unfold start
  show _=N.length
  rw[Ux,Um,UV]
  omega
theorem QmS{CX:CXT}{P:Program}{w:World}{K:Frag}{mg:Str->Option Value}{base:Heap}{k:Nat}{f:Addr}{name qual:Str}{params:Arguments}{body:List Stmt}{scope:Scope}{dV kV doc pm cdv ct oc:Value}{an od:Option Addr}{osl:Array (Option Value)}{N ps:List Str}{sp:Sp}(lk:K.lookup f=some ⟨oc,od,.func (fnOf name qual params body scope dV kV doc pm an cdv ct),osl⟩)(hcd:codeIn K cdv qual=true)(S:FnScope N ps scope)(len:∀vs H Q E,sp vs H Q E->vs.length=ps.length)(hbody:∀(A:Around) (outer:List Env) (s:Shared) (H:Hp) (vs:List V) (Q:VK) (E:XK),Room k (A.deeper (envOfC qual scope s.heap.objs.size f cdv))->sp vs H Q E ->
   ∃t,PSs (cxOf CX P w K mg base N qual scope f cdv A outer s H E) body t/\t {nx:=λ_ H'=>Q .non H',rt:=Q} (start N vs) H):
  FnOk P w K mg base CX (k+1) f (fnOf name qual params body scope dV kV doc pm an cdv ct) ps sp:=by
 refine⟨len,λA outer s H args us vs Q E hr e0 hb r hsp=>?_⟩
 have hl:=len _ _ _ _ hsp
 have KX:K.In s.heap:=e0.mod.kin.keeps λb o e=>(e0.bs b o e).1
 have lim:s.heap.NoLimit:=e0.mod.nolimit.keeps λb o e=>(e0.bs b o e).1
 have hkind:∀y∈ps.zip us,scope.names.lookup y.1=some .local\/(scope.names.lookup y.1=some .cell/\((cellsFrom (s.heap.objs.size+1) scope.names []).lookup y.1).isSome=true):=λ⟨n,v⟩ hy=>by
  rcases S.par n (Wg hy).1 with q|q
  ·exact .inl q
  ·exact .inr ⟨q,Wa _ _ _ (.inl q)⟩
 refine codeAny_call_function hr.depth (KX _ _ lk) rfl S.co S.gen rfl (codeRec_of KX hcd) (hb _ _ _ _ ?_)
 refine wpAny_newFunctionEnv_cells S.kind hkind λenv he s1 x=>?_
 subst he
 refine⟨lim.keeps x.toInCall.keep,codeAny_func ?_⟩
 obtain⟨t,ht,hq⟩:=hbody A outer s H vs Q E (hr.deeper _) hsp
 have I:Inv (cxOf CX P w K mg base N qual scope f cdv A outer s H E) [] (start N vs) H s1:=Qhx S hr.hd e0 hl r x
 refine UU (ht [] s1 (start N vs) H _ I hq) (λfl s' hs=>?_) λe s' hs=>hs
 have fin:∀{σ':St}{H':Hp}{v:V}{u:Value},Inv (cxOf CX P w K mg base N qual scope f cdv A outer s H E) [] σ' H' s'->RelV v u->Q v H'->CE outer P w H s Q u s' :=
  λ{σ' H' v u} J rv q=>⟨v,H',J.os,J.bare,J.base,J.hok,rv,q⟩
 cases fl with
 |ret u =>
  obtain⟨v,σ',H',J,rv,q⟩:=hs
  exact fin J rv q
 |next =>
  obtain⟨σ',H',J,q⟩:=hs
  exact fin (v:=V.non) (u:=Value.none) J rfl q
 |brk =>
  obtain⟨_,_,_,q⟩:=hs
  exact False.elim q
 |cont =>
  obtain⟨_,_,_,q⟩:=hs
  exact False.elim q
end
section
section
variable{X:Cx}{x:Str}{p pos:Pos}{e:Expr}{es:List Expr}{t:TA}{id T:String}{r:List V->Hp->VK->Prop}
noncomputable def tCB(r:List V->Hp->VK->Prop)(t:TA):TE:=λσ H Q=>t σ H λvs H1=>r vs H1 Q
theorem QaP(hc:CallR X (.builtin id) r)(hg:Gl X x)(hm:X.mg x=none)(hv:bootBuiltins x=some (.builtin id))(ha:PA X (e::es) t)(hn:x ≠ "__name__":=by decide)(hdb:(x == ("__debug__" : Str))=false:=by decide)(he:starEach (e::es) X.env=(false,eval e X.env)::starEach es X.env:=by rfl)(hpl:(backTo pos (starEach es X.env)).any (·.1)=false:=by rfl):PE X (.Call (.Name x p) (e::es) [] pos) (tCB r t):=by
 intro pins s σ H Q I h
 refine T4 (QbS I hg hm hv ?_ hn hdb)
 exact PyProof.Rows.callWith_builtin1 (thn (ha pos pins s σ H _ I h) λus s1 ⟨vs,H1,I1,r1,q1⟩=>hc pins s1 σ H1 vs us Q I1 r1 q1) he hpl
theorem Qhy(hc:CallR X (.type T) r)(hg:Gl X x)(hm:X.mg x=none)(hv:bootBuiltins x=some (.type T))(ha:PA X (e::es) t)(hn:x ≠ "__name__":=by decide)(hdb:(x == ("__debug__" : Str))=false:=by decide)(he:starEach (e::es) X.env=(false,eval e X.env)::starEach es X.env:=by rfl)(hpl:(backTo pos (starEach es X.env)).any (·.1)=false:=by rfl):PE X (.Call (.Name x p) (e::es) [] pos) (tCB r t):=by
 intro pins s σ H Q I h
 refine T4 (QbS I hg hm hv ?_ hn hdb)
 exact U3 (thn (ha pos pins s σ H _ I h) λus s1 ⟨vs,H1,I1,r1,q1⟩=>hc pins s1 σ H1 vs us Q I1 r1 q1) he hpl
end
end
end L2
namespace HT
open PySem PyProof.Rows
section
open PySem.SeqAt
open PySem.AutoSeq1 (wpAny_loadPart')
open PySem.MeetsSeq PySem.MeetsSeq2 PySem.MeetsSeq3
end
section
variable{prog:Program}{w:World}{A:Around}{E:Value->Shared->Prop}{s:Shared}
theorem cat_tup{t b:Addr}{vs ws:List Value}{Q:Value->Shared->Prop}(ht:IsTup s.heap t vs.toArray)(hb:IsTup s.heap b ws.toArray)(hv:vs≠[])(h1:ws=[]->Q (.ref t) s)(h2:ws≠[]->Q (.ref s.heap.objs.size) {s with heap:=s.heap.push {cls:=.type "tuple",data:=.seq (vs++ws).toArray} })(hsz:vs.length+ws.length<=sizeLine):wpAny (model prog w) A (binaryOp .Add (.ref t) (.ref b)) Q E s:=by
 obtain⟨⟨cls,dd,data,sl⟩,ho,hc,n,hd⟩:=id ht
 obtain⟨⟨cls2,dd2,data2,sl2⟩,ho2,hc2,n2,hd2⟩:=id hb
 simp only at hc hd hc2 hd2
 subst hc hd hc2 hd2
 have e:vs.toArray++ws.toArray=(vs++ws).toArray:=by simp
 by_cases hw:ws=[]
 ·exact concat_meets ⟨_,ho,rfl⟩ ⟨_,ho2,rfl⟩ RX seq_tuple_add T9 T7 (T0 _ _)
   (tuple_addW1 t b vs.toArray ws.toArray n n2 dd dd2 sl sl2 (by simpa using hv) (by simp[hw])) ⟨ho,ho2,h1 hw⟩
 ·refine concat_meets ⟨_,ho,rfl⟩ ⟨_,ho2,rfl⟩ RX seq_tuple_add T9 T7 (T0 _ _)
   (tuple_addW2 t b vs.toArray ws.toArray n n2 dd dd2 sl sl2 (by simpa using hv) (by simpa using hw) (by rw[Uf,Uf];exact hsz)) ⟨ho,ho2,?_⟩
  rw[e]
  exact h2 hw
noncomputable def sIx(n d:Nat):Option Int->Nat
 |none=>d
 |some v=>if v<0 then (v+(n:Int)).toNat else min v.toNat n
theorem QmT(n d:Nat)(hd:d<=n)(o:Option Int):sIx n d o<=n:=by
 cases o with
 |none=>exact hd
 |some v =>
  show(if v<0 then (v+(n:Int)).toNat else min v.toNat n)<=n
  by_cases hv:v<0
  ·rw[Uc hv];omega
  ·rw[Ud hv];exact Nat.min_le_right _ _
theorem Qhz(v:Int)(n d:Nat):(if v<0 then max (v+(n:Int)) 0 else min v (n:Int))=((sIx n d (some v):Nat):Int):=by
 show(if v<0 then max (v+(n:Int)) 0 else min v (n:Int))=(((if v<0 then (v+(n:Int)).toNat else min v.toNat n):Nat):Int)
 by_cases hv:v<0
 ·simp only[Uc hv];omega
 ·simp only[Ud hv];omega
theorem QgA(lo hi:Option Int)(n:Nat):Builtin.Slice.sliceAdjust lo hi 1 (n:Int)=(((sIx n 0 lo:Nat):Int),((sIx n n hi:Nat):Int)):=by
 have h1:¬((1:Int)<0):=by omega
 unfold Builtin.Slice.sliceAdjust
 simp only[h1,Wd]
 refine Prod.ext ?_ ?_
 ·cases lo with
  |none=>rfl
  |some v=>exact Qhz v n 0
 ·cases hi with
  |none=>rfl
  |some v=>exact Qhz v n n
theorem QgB(i j:Nat):Builtin.Slice.slicePlaces (i:Int) (j:Int) 1=j-i:=by
 unfold Builtin.Slice.slicePlaces
 have h1:(1:Int) > 0:=by omega
 simp only[h1,Rv,Int.ediv_one]
 split <;> omega
theorem Qc0{v:Value}{o:Option Int}{Q:Option Int->Shared->Prop}(p:IsPart v o)(h:Q o s):wpAny (model prog w) A (Builtin.Slice.slicePartIndex v) Q E s:=by
 cases p with
 |none=>exact slicePart_none h
 |int i t=>exact slicePart_int h
theorem sliceApplied_gen{sl:Addr}{vl vu:Value}{lo hi:Option Int}{n:Nat}{Q:Int×Int×Nat->Shared->Prop}(hs:s.heap.IsSliceOf sl vl vu .none)(pl:IsPart vl lo)(pu:IsPart vu hi)(h:Q (((sIx n 0 lo:Nat):Int),1,sIx n n hi-sIx n 0 lo) s):wpAny (model prog w) A (Builtin.Slice.sliceApplied (.ref sl) (pure (n:Int))) Q E s:=by
 obtain⟨os,hos,hcs,hds⟩:=id hs
 unfold Builtin.Slice.sliceApplied Builtin.Slice.sliceFields
 refine Ua (Ua (UM hos hds (x:=vl) rfl (Ua (UM hos hds (x:=vu) rfl (Ua (UM hos hds (x:=.none) rfl (Ui ?_)))))))
 refine Ua (slicePart_none ?_)
 show wpAny _ _ (if ((1:Int) == 0)=true then _ else _) _ _ s
 rw[Ud (by decide)]
 refine Ua (Qc0 pl (Ua (Qc0 pu (Ua (Ui ?_)))))
 show wpAny _ _ (match Builtin.Slice.sliceAdjust lo hi 1 (n:Int) with|(lo,hi)=>pure (lo,(1:Int),Builtin.Slice.slicePlaces lo hi 1)) _ _ s
 rw[QgA lo hi n]
 show wpAny _ _ (pure (((sIx n 0 lo:Nat):Int),(1:Int),Builtin.Slice.slicePlaces ((sIx n 0 lo:Nat):Int) ((sIx n n hi:Nat):Int) 1)) _ _ s
 rw[QgB]
 exact Ui h
theorem Qju(xs:Array Value)(i k:Nat):((List.range k).filterMap λ(m:Nat)=>xs[((i:Int)+(m:Int)*1).toNat]?).toArray=((xs.toList.drop i).take k).toArray:=by
 have e:(λ(m:Nat)=>xs[((i:Int)+(m:Int)*1).toNat]?)=λm=>xs[i+m]?:=by
  funext m
  have:((i:Int)+(m:Int)*1).toNat=i+m:=by omega
  rw[this]
 rw[e]
 have:=pick_run xs i k
 rw[List.filterMap_map]at this
 have e2:((λx=>xs[x]?) ∘ λx=>i+x)=λm=>xs[i+m]?:=rfl
 rw[e2]at this
 rw[this]
theorem getItem_tuple_cut{t sl:Addr}{items:Array Value}{vl vu:Value}{lo hi:Option Int}{Q:Value->Shared->Prop}(ht:IsTup s.heap t items)(hs:s.heap.IsSliceOf sl vl vu .none)(pl:IsPart vl lo)(pu:IsPart vu hi)(hw:¬(sIx items.size 0 lo=0/\sIx items.size items.size hi=items.size))(h:Q (.ref s.heap.objs.size) {s with heap:=s.heap.push {cls:=.type "tuple",data:=.seq ((items.toList.drop (sIx items.size 0 lo)).take (sIx items.size items.size hi-sIx items.size 0 lo)).toArray} })(hsz:items.size<=sizeLine):wpAny (model prog w) A (getItem (.ref t) (.ref sl)) Q E s:=by
 have htake:sizeOk (.seq ((items.toList.drop (sIx items.size 0 lo)).take (sIx items.size items.size hi-sIx items.size 0 lo)).toArray):=by
  show((items.toList.drop (sIx items.size 0 lo)).take (sIx items.size items.size hi-sIx items.size 0 lo)).toArray.size<=sizeLine
  rw[Uf,TD,TF,TX]
  omega
 have hj:sIx items.size items.size hi<=items.size:=QmT _ _ (Uh _) hi
 obtain⟨os,hos,hcs,hds⟩:=id hs
 have hTs:s.TypeIs (.ref sl) "slice":=⟨os,hos,hcs⟩
 unfold getItem
 try with_reducible refine To ?_
 first|refine Ua (Ui ?_)|skip
 refine Ua (wpAny_sequenceKey ht.typeIs (by decide) ?_)
 refine Ua (U2 (name:=Str.ofString "__getitem__") ht.typeIs UO
  (TH UO ht.typeIs entry_tuple_getitem ?_ (args_tuple_getitem _ _)))
 show wpAny _ _ (Builtin.Tuple.tupleItemsOf (.ref t) >>= _) _ _ s
 refine Ua (tupleItemsOf_ ht ?_)
 refine Ua (We hTs ?_)
 rw[Uc (by decide)]
 refine Ua (sliceApplied_gen hs pl pu ?_)
 have hno:¬((((sIx items.size 0 lo:Nat):Int) == 0 && (1:Int) == 1 && (sIx items.size items.size hi-sIx items.size 0 lo) == items.size)=true):=by
  intro q
  rw[UH,UH]at q
  have q1:((sIx items.size 0 lo:Nat):Int)=0:=eq_of_beq q.1.1
  have q2:sIx items.size items.size hi-sIx items.size 0 lo=items.size:=eq_of_beq q.2
  exact hw ⟨by omega,by omega⟩
 show wpAny _ _ (if (((sIx items.size 0 lo:Nat):Int) == 0 && (1:Int) == 1 && (sIx items.size items.size hi-sIx items.size 0 lo) == items.size)=true then _ else _) _ _ s
 rw[Ud hno,Qju]
 first
  |exact Ua (m:=Builtin.Tuple.tupleExact _) (U5 (Ui ⟨_,rfl,Ui h⟩) htake)
  |exact Ua (m:=Builtin.Tuple.tupleExact _) (U5 (Ua (Ui (Ui ⟨_,rfl,Ui h⟩))) htake)
  |exact Ua (Ua (m:=Builtin.Tuple.tupleExact _) (U5 (Ui (Ui ⟨_,rfl,Ui h⟩)) htake))
  |exact Ua (Ua (m:=Builtin.Tuple.tupleExact _) (U5 (Ui ⟨_,rfl,Ui h⟩) htake))
end
end HT
namespace L2
open PySem PySem.Spec PyProof.Rows
section
noncomputable abbrev TO:=St->Hp->(Option Int->Hp->Prop)->Prop
noncomputable def PO(X:Cx)(e:Option Expr)(t:TO):Prop :=
 ∀(pins:List (Addr×Obj))(s:Shared)(σ:St)(H:Hp)(Q:Option Int->Hp->Prop),Inv X pins σ H s->t σ H Q ->
  wpAny (model X.prog X.w) X.A (evalPart e X.env) (λu s'=>∃o H',Inv X pins σ H' s'/\IsPart u o/\Q o H') X.xe s
noncomputable def Qll:TO:=λ_ H Q=>Q none H
noncomputable def Qon(t:TE):TO:=λσ H Q=>t σ H λx H1=>∃i,x=.int i/\Q (some i) H1
theorem intsAre_of{ns:List Int}:∀{us:List Value},Vals (ns.map V.int) us->IntsAre us ns:=by
 induction ns with
 |nil=>intro us r;rw[List.map_nil]at r;cases r;exact .nil
 |cons n ns ih =>
  intro us r
  rw[UG]at r
  cases r with
  |cons r1 r2 =>
   obtain⟨t,e⟩:=r1
   subst e
   exact .cons n t (ih r2)
section
variable{X:Cx}{e:Expr}{te:TE}{lo hi:Option Expr}{tl th:TO}{pos p2:Pos}
theorem Qlm:PO X none Qll:=by
 intro pins s σ H Q I h
 rw[evalPart_none]
 exact Ui ⟨none,H,I,.none,h⟩
theorem Qln(h:PE X e te):PO X (some e) (Qon te):=by
 intro pins s σ H Q I hw
 rw[evalPart_some]
 refine thn (h pins s σ H _ I hw) λu s1 ⟨x,H1,I1,r1,q1⟩=>?_
 obtain⟨i,rfl,q⟩:=q1
 obtain⟨t,rfl⟩:=r1
 exact⟨some i,H1,I1,.int i t,q⟩
noncomputable def SlR(X:Cx)(r:V->Option Int->Option Int->Hp->VK->Prop):Prop :=
 ∀(pins:List (Addr×Obj))(s:Shared)(σ:St)(H:Hp)(x:V)(v vl vu:Value)(lo hi:Option Int)(sl:Addr)(Q:VK),Inv X pins σ H s->RelV x v->s.heap.IsSliceOf sl vl vu .none->IsPart vl lo->IsPart vu hi->r x lo hi H Q ->
  ∃T id,typeLookup (.type T) "__getitem__" = pure (some (.builtin id))/\s.TypeIs v T/\wpAny (model X.prog X.w) X.A (getItem v (.ref sl)) (EP X pins σ Q) X.xe s
theorem SlR.or{r r':V->Option Int->Option Int->Hp->VK->Prop}(h:SlR X r)(h':SlR X r'):SlR X (λx lo hi H Q=>r x lo hi H Q\/r' x lo hi H Q):=by
 intro pins s σ H x v vl vu lo hi sl Q I rx hs pl pu q
 rcases q with q|q
 ·exact h pins s σ H x v vl vu lo hi sl Q I rx hs pl pu q
 ·exact h' pins s σ H x v vl vu lo hi sl Q I rx hs pl pu q
noncomputable def tSl(r:V->Option Int->Option Int->Hp->VK->Prop)(te:TE)(tl th:TO):TE:=λσ H Q=>te σ H λx H1=>tl σ H1 λl H2=>th σ H2 λu H3=>r x l u H3 Q
theorem Qjv{r:V->Option Int->Option Int->Hp->VK->Prop}(hr:SlR X r)(he:PE X e te)(hl:PO X lo tl)(hu:PO X hi th):PE X (.Subscript e (.Slice lo hi none p2) pos) (tSl r te tl th):=by
 intro pins s σ H Q I h
 refine Subscript_ (thn (he pins s σ H _ I h) λv s1 ⟨x,H1,I1,r1,q1⟩=>?_)
 refine wpAny_Slice (thn (hl pins s1 σ H1 _ I1 q1) λvl s2 ⟨l,H2,I2,pl,q2⟩=>thn (hu pins s2 σ H2 _ I2 q2) λvu s3 ⟨u,H3,I3,pu,q3⟩=>?_)
 rw[evalPart_none]
 refine Ui ?_
 have I4:Inv X pins σ H3 {s3 with heap:=s3.heap.push {cls:=.type "slice",data:=.fields #[vl,vu,.none]} }:=I3.kept (t':=s3.toks) λb ob q=>Ub _ q
 obtain⟨T,id,hT,ht,hg⟩:=hr pins {s3 with heap:=s3.heap.push {cls:=.type "slice",data:=.fields #[vl,vu,.none]} } σ H3 x v vl vu l u s3.heap.objs.size Q I4 r1 (Heap.IsSliceOf.new ..) pl pu q3
 show wpAny (model X.prog X.w) X.A (subscriptTail e (.Slice lo hi none p2) v (.ref s3.heap.objs.size)) (EP X pins σ Q) X.xe {s3 with heap:=s3.heap.push {cls:=.type "slice",data:=.fields #[vl,vu,.none]} }
 exact tail_any (ops:=[.ref s3.heap.objs.size,v]) ht hT hg (by with_unfolding_all rfl)
noncomputable def cutV(xs:List V)(lo hi:Option Int):List V:=(xs.drop (HT.sIx xs.length 0 lo)).take (HT.sIx xs.length xs.length hi-HT.sIx xs.length 0 lo)
theorem QbW(xs:List V)(lo hi:Option Int):(cutV xs lo hi).length<=xs.length:=by
 unfold cutV
 rw[TD,TF]
 omega
noncomputable def rSlT(K:Frag):V->Option Int->Option Int->Hp->VK->Prop:=λx lo hi H Q=>∃a xs,x=.ref a/\SqT K H a xs /\
 ¬(HT.sIx xs.length 0 lo=0/\HT.sIx xs.length xs.length hi=xs.length)/\∀p,H p=none->Q (.ref p) (upd H p (.tup (cutV xs lo hi)))
theorem sl_tup:SlR X (rSlT X.K):=by
 intro pins s σ H x v vl vu lo hi sl Q I rx hs pl pu h
 obtain⟨a,xs,rfl,hx,hw,q⟩:=h
 cases rx
 obtain⟨its,r,ht,hz⟩:=I.tuple hx
 have hlen:its.toArray.size=xs.length:=by rw[Uf];exact r.length.symm
 refine⟨"tuple",_,UO.lookup,ht.typeIs,?_⟩
 refine HT.getItem_tuple_cut ht hs pl pu (by rw[hlen];exact hw) ?_ (by rw[hlen];exact hz)
 rw[hlen]
 refine⟨.ref s.heap.objs.size,_,I.laid (t':=s.toks) (o:=.tup (cutV xs lo hi)) (λb ob q=>Ub _ q) (Uh _) ?_,rfl,q _ (I.hok.fresh (Uh _))⟩
 exact⟨Uv (QbW xs lo hi) hz,_,(r.drop (HT.sIx xs.length 0 lo)).take (HT.sIx xs.length xs.length hi-HT.sIx xs.length 0 lo),IsTup.new _ _⟩
noncomputable def QmU(K:Frag):R2:=λx y H Q=>∃a b xs ys,x=.ref a/\y=.ref b/\SqT K H a xs/\SqT K H b ys/\xs≠[]/\xs.length+ys.length<=sizeLine /\
 (ys=[]->Q (.ref a) H)/\(ys≠[]->∀p,H p=none->Q (.ref p) (upd H p (.tup (xs++ys))))
theorem Vals.nil_iff{xs:List V}{us:List Value}(r:Vals xs us):us=[]↔xs=[]:=by
 cases r with
 |nil=>simp
 |cons _ _=>simp
theorem Qlo:OpR X (binaryOp .Add) (QmU X.K):=by
 intro pins s σ H x y v u Q I rx ry h
 obtain⟨a,b,xs,ys,rfl,rfl,ha,hb,hx,hz,q1,q2⟩:=h
 cases rx
 cases ry
 obtain⟨its,r1,p1,_⟩:=I.tuple ha
 obtain⟨its2,r2,p2,_⟩:=I.tuple hb
 refine HT.cat_tup p1 p2 (λz=>hx (r1.nil_iff.mp z)) (λz=>⟨.ref a,H,I,rfl,q1 (r2.nil_iff.mp z)⟩) (λz=>?_) (by rw[<-r1.length,<-r2.length];exact hz)
 refine⟨.ref s.heap.objs.size,_,I.laid (t':=s.toks) (o:=.tup (xs++ys)) (λb ob q=>Ub _ q) (Uh _) ?_,rfl,q2 (λw=>z (r2.nil_iff.mpr w)) _ (I.hok.fresh (Uh _))⟩
 exact⟨by rw[Ux];exact hz,_,r1.append r2,IsTup.new _ _⟩
end
end
section
noncomputable def ixN(n:Nat)(i:Int):Option Nat:=if 0<=i then (if i<n then some i.toNat else none) else if -(n:Int)<=i then some (i+n).toNat else none
noncomputable def atI{α:Type}(xs:List α)(i:Int):Option α:=(ixN xs.length i).bind λj=>xs[j]?
theorem QhA{n:Nat}{i:Int}{j:Nat}(h:ixN n i=some j):seqIndex? i n=some j/\j<n /\ -(n:Int)<=i/\i<n:=by
 unfold ixN at h
 by_cases h0:0<=i
 ·rw[Uc h0]at h
  by_cases h1:i<n
  ·rw[Uc h1]at h
   have e:i.toNat=j:=Option.some.inj h
   exact⟨by rw[seqIndex_of h0 h1,e],by omega,by omega,h1⟩
  ·rw[Ud h1]at h;cases h
 ·rw[Ud h0]at h
  by_cases h1 : -(n:Int)<=i
  ·rw[Uc h1]at h
   have e:(i+n).toNat=j:=Option.some.inj h
   exact⟨by rw[seqIndex_neg (by omega) h1,e],by omega,h1,by omega⟩
  ·rw[Ud h1]at h;cases h
theorem QeU{α:Type}{xs:List α}{i:Int}{v:α}(h:atI xs i=some v):∃j,seqIndex? i xs.length=some j/\xs[j]?=some v/\j<xs.length /\ -(xs.length:Int)<=i/\i<xs.length:=by
 unfold atI at h
 cases e:ixN xs.length i with
 |none=>rw[e]at h;cases h
 |some j =>
  rw[e]at h
  obtain⟨h1,h2,h3,h4⟩:=QhA e
  exact⟨j,h1,h,h2,h3,h4⟩
def Qdf(b:Expr):Prop:=∀o i,subscripted b false o i=operate [o,i] (getItem o i)
noncomputable def IxR(X:Cx)(r:R2):Prop :=
 ∀(value slice:Expr)(pins:List (Addr×Obj))(s:Shared)(σ:St)(H:Hp)(x y:V)(v u:Value)(Q:VK),Inv X pins σ H s->RelV x v->RelV y u->r x y H Q ->
  subscripted slice false v u=operate [v,u] (getItem v u)->wpAny (model X.prog X.w) X.A (subscriptTail value slice v u) (EP X pins σ Q) X.xe s
noncomputable def MtR(X:Cx)(id:String)(r:V->List V->Hp->VK->Prop):Prop :=
 ∀(pins:List (Addr×Obj))(s:Shared)(σ:St)(H:Hp)(x:V)(xs:List V)(v:Value)(us:List Value)(Q:VK),Inv X pins σ H s->RelV x v->Vals xs us->r x xs H Q ->
  wpAny (model X.prog X.w) X.A (call (.builtin id) (v::us)) (EP X pins σ Q) X.xe s
section
variable{X:Cx}{a b:Expr}{ta tb:TE}{pos:Pos}
theorem IxR.or{r r':R2}(h:IxR X r)(h':IxR X r'):IxR X (λx y H Q=>r x y H Q\/r' x y H Q):=by
 intro value slice pins s σ H x y v u Q I rx ry q hs
 rcases q with q|q
 ·exact h value slice pins s σ H x y v u Q I rx ry q hs
 ·exact h' value slice pins s σ H x y v u Q I rx ry q hs
theorem MtR.or{id:String}{r r':V->List V->Hp->VK->Prop}(h:MtR X id r)(h':MtR X id r'):MtR X id (λx xs H Q=>r x xs H Q\/r' x xs H Q):=by
 intro pins s σ H x xs v us Q I rx rs q
 rcases q with q|q
 ·exact h pins s σ H x xs v us Q I rx rs q
 ·exact h' pins s σ H x xs v us Q I rx rs q
theorem Qoo{r:R2}(hr:IxR X r)(ha:PE X a ta)(hb:PE X b tb)(hs:Qdf b):PE X (.Subscript a b pos) (tOp r ta tb):=by
 intro pins s σ H Q I h
 exact Subscript_ (binT ha hb I h λv u s2 x y H2 I2 rx ry q=>hr a b pins s2 σ H2 x y v u Q I2 rx ry q (hs _ _))
noncomputable def rIxL(K:Frag):R2:=λx y H Q=>∃p xs i v,x=.ref p/\y=.int i/\SqL K H p xs/\atI xs i=some v/\Q v H
noncomputable def rIxT(K:Frag):R2:=λx y H Q=>∃p xs i v,x=.ref p/\y=.int i/\SqT K H p xs/\atI xs i=some v/\Q v H
noncomputable def rIxS:R2:=λx y H Q=>∃z i c,x=.str z/\y=.int i/\z.length<=sizeLine/\atI z.cps.toList i=some c/\Q (.str ⟨#[c]⟩) H
theorem ix_list:IxR X (rIxL X.K):=by
 intro value slice pins s σ H x y v u Q I rx ry h hs
 obtain⟨p,xs,i,z,rfl,rfl,hq,he,q⟩:=h
 cases rx
 obtain⟨t,rfl⟩:=ry
 obtain⟨its,r,pl,hz⟩:=I.list hq
 obtain⟨j,h1,h2,h3,h4,h5⟩:=QeU he
 obtain⟨w,ew,rw'⟩:=r.get h2
 have hl:=r.length
 have hn:=QdY
 have fin:EP X pins σ Q w s:=⟨z,H,I,rw',q⟩
 by_cases h0:0<=i
 ·have hj:i.toNat=j:=by
   rw[seqIndex_of h0 h5]at h1
   exact Option.some.inj h1
  exact item_listR pl.isList h0 (by omega) (by rw[hj];simpa using ew) fin hs
 ·have hj:(i+(its.toArray.size:Int)).toNat=j:=by
   rw[seqIndex_neg (by omega) h4]at h1
   rw[Uf,<-hl]
   exact Option.some.inj h1
  exact subscriptTail_builtinR (x:=w) pl.isList.typeIs slot_list_getitem.lookup
   (wpAny_getItem_list_neg (Q:=λr s'=>r=w/\EP X pins σ Q r s') pl.isList (by omega) (by rw[Uf] <;> omega) (by omega) (by rw[hj];simpa using ew) ⟨rfl,fin⟩) hs
theorem ix_tup:IxR X (rIxT X.K):=by
 intro value slice pins s σ H x y v u Q I rx ry h hs
 obtain⟨p,xs,i,z,rfl,rfl,hq,he,q⟩:=h
 cases rx
 obtain⟨t,rfl⟩:=ry
 obtain⟨its,r,pl,hz⟩:=I.tuple hq
 obtain⟨j,h1,h2,h3,h4,h5⟩:=QeU he
 obtain⟨w,ew,rw'⟩:=r.get h2
 have hl:=r.length
 have hn:=QdY
 have fin:EP X pins σ Q w s:=⟨z,H,I,rw',q⟩
 exact subscriptTail_builtinR (x:=w) pl.typeIs slot_tuple_getitem.lookup
  (getItem_tuple (j:=j) (Q:=λr s'=>r=w/\EP X pins σ Q r s') pl (by omega) (by omega) (by rw[Uf,<-hl];exact h1) (by simpa using ew) ⟨rfl,fin⟩) hs
theorem QmV:IxR X rIxS:=by
 intro value slice pins s σ H x y v u Q I rx ry h hs
 obtain⟨z,i,c,rfl,rfl,hz,he,q⟩:=h
 obtain⟨t,rfl⟩:=rx
 obtain⟨t',rfl⟩:=ry
 obtain⟨j,h1,h2,h3,h4,h5⟩:=QeU he
 have hl:z.cps.toList.length=z.length:=by simp[Str.length]
 rw[hl]at h1 h4 h5
 have hn:=QdY
 exact tail_any (typeIs_str s z t) slot_str_getitem.lookup (getItem_str (c:=c) (by
  have e1:decide (i < -(2^63:Int))=false:=Ul (by omega)
  have e2:decide (i>=2^63)=false:=Ul (by omega)
  rw[e1,e2,Bool.or_false]) (by rw[h1];simpa using h2) ⟨.str ⟨#[c]⟩,H,I.tok _,⟨_,rfl⟩,q⟩) hs
noncomputable def rIx(K:Frag):R2:=λx y H Q=>rIxL K x y H Q\/rIxT K x y H Q\/rIxS x y H Q
theorem QmW:IxR X (rIx X.K):=ix_list.or (ix_tup.or QmV)
theorem QgC(its:List Value)(n j:Nat)(u:Value):Obj.mapSeq (·.setIfInBounds j u) {cls:=.type "list",data:=.seq its.toArray n} = {cls:=.type "list",data:=.seq (its.set j u).toArray n}:=by
 simp[Obj.mapSeq]
theorem Inv.lst{pins:List (Addr×Obj)}{σ:St}{H:Hp}{s:Shared}{p:Addr}{xs:List V}(I:Inv X pins σ H s)(h:H p=some (.lst xs)):
  ∃(its:List Value)(n:Nat),Vals xs its/\s.heap.get? p=some {cls:=.type "list",data:=.seq its.toArray n}/\xs.length<=sizeLine:=by
 obtain⟨z,its,n,r,e⟩:=I.hok p _ h
 exact⟨its,n,r,e,z⟩
theorem Inv.lstUpd{pins:List (Addr×Obj)}{σ:St}{H:Hp}{s:Shared}{p:Addr}{xs ys:List V}{its its':List Value}{n n':Nat}{f:Obj->Obj}(I:Inv X pins σ H s)(h:H p=some (.lst xs))(ho:s.heap.get? p=some {cls:=.type "list",data:=.seq its.toArray n})(hf:f {cls:=.type "list",data:=.seq its.toArray n} = {cls:=.type "list",data:=.seq its'.toArray n'})(r:Vals ys its')(hz:ys.length<=sizeLine)(t:Nat):
  Inv X pins σ (upd H p (.lst ys)) {s with heap:=s.heap.update p f,toks:=t}:=by
 have e:(s.heap.update p f).get? p=some {cls:=.type "list",data:=.seq its'.toArray n'}:=by
  rw[TM f ho (by rw[hf] <;> rfl),hf]
 refine I.write (x:=p) (e:=p) (by rw[h];trivial) (.inl rfl) (λb u hb q=>(UT _ _ (Ne.symm hb)).trans q) ⟨_,e⟩ ?_
 exact⟨hz,its',n',r,e⟩
noncomputable def Qop:V->V->V->Hp->(Hp->Prop)->Prop:=λo i v H Q=>∃p xs k j,o=.ref p/\i=.int k/\H p=some (.lst xs)/\ixN xs.length k=some j/\Q (upd H p (.lst (xs.set j v)))
theorem Qjw:PSet X Qop:=by
 intro pins s σ H o i v ov iv u Q I ro ri rv h
 obtain⟨p,xs,k,j,rfl,rfl,hp,hj,q⟩:=h
 cases ro
 obtain⟨t,rfl⟩:=ri
 obtain⟨its,n,r,ho,hz⟩:=I.lst hp
 obtain⟨h1,h2,h3,h4⟩:=QhA hj
 have hl:=r.length
 have hn:=QdY
 have I':Inv X pins σ (upd H p (.lst (xs.set j v))) {s with heap:=s.heap.update p (Obj.mapSeq (·.setIfInBounds j u))} :=
  I.lstUpd hp ho (QgC its n j u) (r.set rv j) (by rw[Ti];exact hz) s.toks
 by_cases h0:0<=k
 ·have hk:k.toNat=j:=by
   rw[seqIndex_of h0 h4]at h1
   exact Option.some.inj h1
  exact ki_setAt ho h0 (by omega) (by rw[Uf,<-hl];exact h4) (by rw[hk];exact⟨_,I',q⟩)
 ·have hk:(k+(its.toArray.size:Int)).toNat=j:=by
   rw[seqIndex_neg (by omega) h3]at h1
   rw[Uf,<-hl]
   exact Option.some.inj h1
  exact ki_setBack ho (by omega) (by rw[Uf,<-hl];exact h3) (by omega) (by rw[hk];exact⟨_,I',q⟩)
theorem Qd4(lo hi:Option Int)(n:Nat):(sliceBounds lo hi none n).1=((HT.sIx n 0 lo:Nat):Int)/\(sliceBounds lo hi none n).2.1=((HT.sIx n n hi:Nat):Int)/\(sliceBounds lo hi none n).2.2=1:=by
 refine⟨?_,?_,rfl⟩
 ·cases lo with
  |none=>simp[sliceBounds,HT.sIx]
  |some i =>
   simp only[sliceBounds,HT.sIx,Option.getD_none,show(1:Int) > 0 by decide,Rv]
   by_cases h:i<0
   ·simp only[h,Rv] <;> omega
   ·simp only[h,Wd] <;> omega
 ·cases hi with
  |none=>simp[sliceBounds,HT.sIx]
  |some i =>
   simp only[sliceBounds,HT.sIx,Option.getD_none,show(1:Int) > 0 by decide,Rv]
   by_cases h:i<0
   ·simp only[h,Rv] <;> omega
   ·simp only[h,Wd] <;> omega
theorem Qdg(its:List Value)(lo hi:Option Int):slicePick its.toArray lo hi none=((its.drop (HT.sIx its.length 0 lo)).take (HT.sIx its.length its.length hi-HT.sIx its.length 0 lo)).toArray:=by
 obtain⟨h1,h2,h3⟩:=Qd4 lo hi its.toArray.size
 unfold slicePick
 rw[h1,h2,h3]
 simp only[sliceRange_one,pick_run,Uf] <;> rfl
noncomputable def rSlL(K:Frag):V->Option Int->Option Int->Hp->VK->Prop:=λx lo hi H Q=>∃a xs,x=.ref a/\SqL K H a xs/\∀p,H p=none->Q (.ref p) (upd H p (.lst (cutV xs lo hi)))
theorem Qlp:SlR X (rSlL X.K):=by
 intro pins s σ H x v vl vu lo hi sl Q I rx hs pl pu h
 obtain⟨a,xs,rfl,hx,q⟩:=h
 cases rx
 obtain⟨its,r,ht,hz⟩:=I.list hx
 have hlen:=r.length
 refine⟨"list",_,slot_list_getitem.lookup,ht.isList.typeIs,?_⟩
 refine wpAny_getItem_list_slice ht.isList hs pl pu .none (by simp) ?_ (by rw[Uf] <;> omega)
 rw[Qdg,<-hlen]
 refine⟨.ref s.heap.objs.size,_,I.laid (t':=s.toks) (o:=.lst (cutV xs lo hi)) (λb ob q=>Ub _ q) (Uh _) ?_,rfl,q _ (I.hok.fresh (Uh _))⟩
 exact⟨Uv (QbW xs lo hi) hz,_,0,(r.drop (HT.sIx xs.length 0 lo)).take (HT.sIx xs.length xs.length hi-HT.sIx xs.length 0 lo),Uo _ rfl⟩
noncomputable def QcN:V->Bool
 |.non=>true
 |.bl _=>true
 |.int _=>true
 |.str _=>true
 |_=>false
noncomputable def eqV:V->V->Bool
 |.non,.non=>true
 |.bl a,.bl b=>a == b
 |.bl a,.int b=>(if a then 1 else 0) == b
 |.int a,.bl b=>a == (if b then 1 else 0)
 |.int a,.int b=>a == b
 |.str a,.str b=>a == b
 |_,_=>false
theorem QmX{A:Around}{s:Shared}{y x:V}{u v:Value}(ry:RelV y u)(rx:RelV x v)(fy:QcN y=true)(fx:QcN x=true):SeqAt.EqAt A s u v (eqV y x):=by
 cases y with
 |non =>
  cases ry
  cases x with
  |non=>cases rx;exact Wh _
  |bl b=>cases rx;exact SeqAt.EqAt.none_bool b
  |int b=>obtain⟨t,rfl⟩:=rx;exact SeqAt.EqAt.none_int b t
  |str b=>obtain⟨t,rfl⟩:=rx;exact SeqAt.EqAt.none_str b t
  |_=>exact absurd (show false=true from fx) Ue
 |bl a =>
  cases ry
  cases x with
  |non=>cases rx;exact SeqAt.EqAt.bool_none a
  |bl b=>cases rx;exact SeqAt.EqAt.bool_bool a b
  |int b=>obtain⟨t,rfl⟩:=rx;exact SeqAt.EqAt.bool_int a b t
  |str b=>obtain⟨t,rfl⟩:=rx;exact SeqAt.EqAt.bool_str a b t
  |_=>exact absurd (show false=true from fx) Ue
 |int a =>
  obtain⟨t',rfl⟩:=ry
  cases x with
  |non=>cases rx;exact SeqAt.EqAt.int_none a t'
  |bl b=>cases rx;exact SeqAt.EqAt.int_bool a t' b
  |int b=>obtain⟨t,rfl⟩:=rx;exact RI a t' b t
  |str b=>obtain⟨t,rfl⟩:=rx;exact SeqAt.EqAt.int_str a t' b t
  |_=>exact absurd (show false=true from fx) Ue
 |str a =>
  obtain⟨t',rfl⟩:=ry
  cases x with
  |non=>cases rx;exact SeqAt.EqAt.str_none a t'
  |bl b=>cases rx;exact SeqAt.EqAt.str_bool a t' b
  |int b=>obtain⟨t,rfl⟩:=rx;exact SeqAt.EqAt.str_int a t' b t
  |str b=>obtain⟨t,rfl⟩:=rx;exact SeqAt.EqAt.str_str a t' b t
  |_=>exact absurd (show false=true from fx) Ue
 |_=>exact absurd (show false=true from fy) Ue
noncomputable def eqU(x:V)(u:Value):Bool:=match u with
 |.none=>eqV .non x
 |.bool b=>eqV (.bl b) x
 |.int i _=>eqV (.int i) x
 |.str z _=>eqV (.str z) x
 |_=>false
theorem QkG{x y:V}{u:Value}(r:RelV y u)(f:QcN y=true):eqU x u=eqV y x:=by
 cases y with
 |non=>cases r;rfl
 |bl b=>cases r;rfl
 |int i=>obtain⟨t,rfl⟩:=r;rfl
 |str z=>obtain⟨t,rfl⟩:=r;rfl
 |_=>exact absurd (show false=true from f) Ue
theorem QeV{x:V}:∀{xs:List V}{us:List Value},Vals xs us->xs.all QcN=true->us.any (eqU x)=xs.any λy=>eqV y x
 |_,_,.nil,_=>rfl
 |y::xs,u::us,.cons r t,f=>by
  rw[Rl,UH]at f
  rw[Tp,Tp,QkG r f.1,QeV t f.2]
theorem Qdh{A:Around}{s:Shared}{x:V}{v:Value}(rx:RelV x v)(fx:QcN x=true):∀{xs:List V}{us:List Value},Vals xs us->xs.all QcN=true->∀u∈us,SeqAt.EqAt A s u v (eqU x u)
 |_,_,.nil,_=>λu hu=>by cases hu
 |y::xs,u::us,.cons r t,f=>λu' hu=>by
  rw[Rl,UH]at f
  rcases UL.mp hu with rfl|hu
  ·rw[QkG r f.1];exact QmX r rx f.1 fx
  ·exact Qdh rx fx t f.2 u' hu
noncomputable def inV(x:V)(xs:List V):Bool:=xs.any λy=>eqV y x
noncomputable def rIn(K:Frag)(neg:Bool):R2:=λx y H Q=>∃p xs,y=.ref p/\(SqL K H p xs\/SqT K H p xs)/\QcN x=true/\xs.all QcN=true/\Q (.bl (if neg then !inV x xs else inV x xs)) H
theorem QhB:OpR X (compareOp .In) (rIn X.K false):=by
 intro pins s σ H x y v u Q I rx ry h
 obtain⟨p,xs,rfl,hq,fx,fs,q⟩:=h
 cases ry
 rcases hq with hq|hq
 ·obtain⟨its,r,pl,hz⟩:=I.list hq
  refine SeqAt.in_listAt (eqU x) pl.isList (λw hw=>Qdh rx fx r fs w (by simpa using hw)) ⟨.bl _,H,I,rfl,?_⟩
  rw[show its.toArray.any (eqU x)=its.any (eqU x) by simp,QeV r fs]
  exact q
 ·obtain⟨its,r,pl,hz⟩:=I.tuple hq
  refine SeqAt.in_tupleAt (eqU x) pl (λw hw=>Qdh rx fx r fs w (by simpa using hw)) ⟨.bl _,H,I,rfl,?_⟩
  rw[show its.toArray.any (eqU x)=its.any (eqU x) by simp,QeV r fs]
  exact q
theorem Qd5:CallR X (.builtin "len") (λxs H Q=>∃p ys,xs=[.ref p]/\(SqL X.K H p ys\/SqT X.K H p ys)/\Q (.int ys.length) H):=by
 intro pins s σ H xs us Q I r h
 obtain⟨p,ys,rfl,hq,q⟩:=h
 obtain⟨u,rfl,rx⟩:=Qgv r
 cases rx
 have hn:=QdY
 rcases hq with hq|hq
 ·obtain⟨its,r',pl,hz⟩:=I.list hq
  have hlen:=r'.length
  exact Calls.call_len_list pl.isList (by simp only[Uf] <;> omega) ⟨.int ys.length,H,I.tok _,⟨s.toks+1,by rw[Uf,hlen]⟩,q⟩
 ·obtain⟨its,r',pl,hz⟩:=I.tuple hq
  have hlen:=r'.length
  exact len_tuple pl (by simp only[Uf] <;> omega) ⟨.int ys.length,H,I.tok _,⟨s.toks+1,by rw[Uf,hlen]⟩,q⟩
theorem CallR.or{f:Value}{r r':List V->Hp->VK->Prop}(h:CallR X f r)(h':CallR X f r'):CallR X f (λxs H Q=>r xs H Q\/r' xs H Q):=by
 intro pins s σ H xs us Q I rs q
 rcases q with q|q
 ·exact h pins s σ H xs us Q I rs q
 ·exact h' pins s σ H xs us Q I rs q
theorem Qd6:CallR X (.type "list") (λxs H Q=>∃p ys,xs=[.ref p]/\(SqL X.K H p ys\/SqT X.K H p ys)/\∀l,H l=none->Q (.ref l) (upd H l (.lst ys))):=by
 intro pins s σ H xs us Q I r h
 obtain⟨p,ys,rfl,hq,q⟩:=h
 obtain⟨u,rfl,rx⟩:=Qgv r
 cases rx
 have fin:∀(its:List Value),Vals ys its->ys.length<=sizeLine->∀(h':Heap)(c':Nat),(∀b o',s.heap.get? b=some o'->h'.get? b=some o') ->
   h'.get? s.heap.objs.size=some {cls:=.type "list",dict:=none,data:=.seq its.toArray c',slots:=#[]}->EP X pins σ Q (.ref s.heap.objs.size) {s with heap:=h'}:=λits r' hz h' c' kp e =>
  ⟨.ref s.heap.objs.size,_,I.laid (t':=s.toks) kp (Uh _) (show ObjOk X.prog X.w _ h' _ (.lst ys) from ⟨hz,its,c',r',e⟩),rfl,q _ (I.hok.fresh (Uh _))⟩
 rcases hq with hq|hq
 ·obtain⟨its,r',pl,hz⟩:=I.list hq
  have hlen:=r'.length
  obtain⟨o,ho,hc,n,hd⟩:=pl.isList
  exact call_list_seq p (.inl rfl) ho hc hd (λh' c' kp e=>fin its r' hz h' c' kp e) (by simp only[Uf] <;> omega)
 ·obtain⟨its,r',pl,hz⟩:=I.tuple hq
  have hlen:=r'.length
  obtain⟨o,ho,hc,n,hd⟩:=pl
  exact call_list_seq p (.inr rfl) ho hc hd (λh' c' kp e=>fin its r' hz h' c' kp e) (by simp only[Uf] <;> omega)
theorem Qdi:CallR X (.type "tuple") (λxs H Q=>∃p ys,xs=[.ref p]/\((SqL X.K H p ys/\∀l,H l=none->Q (.ref l) (upd H l (.tup ys)))\/(SqT X.K H p ys/\Q (.ref p) H))):=by
 intro pins s σ H xs us Q I r h
 obtain⟨p,ys,rfl,h⟩:=h
 obtain⟨u,rfl,rx⟩:=Qgv r
 cases rx
 rcases h with⟨hq,q⟩|⟨hq,q⟩
 ·obtain⟨its,r',pl,hz⟩:=I.list hq
  have hlen:=r'.length
  refine call_tuple_list pl.isList (λh' kp=>?_) (by simp only[Uf] <;> omega)
  have I1:Inv X pins σ H {s with heap:=h'}:=I.kept (t':=s.toks) kp
  have I2:Inv X pins σ (upd H h'.objs.size (.tup ys)) {s with heap:=h'.push {cls:=.type "tuple",data:=.seq its.toArray} } :=
   I1.laid (t':=s.toks) (λb o e=>Ub _ e) (Uh _) (show ObjOk X.prog X.w _ _ _ (.tup ys) from ⟨hz,its,r',IsTup.new _ _⟩)
  exact⟨.ref h'.objs.size,_,I2,rfl,q _ (I1.hok.fresh (Uh _))⟩
 ·obtain⟨its,r',pl,hz⟩:=I.tuple hq
  exact call_tuple_same pl ⟨.ref p,H,I,rfl,q⟩
def tyV(K:Frag)(T:String)(x:V)(H:Hp):Prop:=match x with
 |.str _=>T = "str"
 |.int _=>T = "int"
 |.ref p=>(T = "list" /\ ∃xs,SqL K H p xs)\/(T = "tuple" /\ ∃o,K.lookup p=some o/\o.cls=.type "tuple" /\ o.dict=none) \/
   (T = "dict" /\ ((∃kvs,H p=some (.dK kvs))\/∃kvs,H p=some (.dT kvs)))\/(T = "set" /\ ∃S n,H p=some (.set S n))
 |_=>False
theorem QkH{pins:List (Addr×Obj)}{σ:St}{H:Hp}{s:Shared}{T:String}{x:V}{v:Value}(I:Inv X pins σ H s)(r:RelV x v)(ty:tyV X.K T x H):
  s.TypeIs v T/\∀a,v=.ref a->∃ob,s.heap.get? a=some ob/\ob.dict=none:=by
 cases x with
 |str z =>
  obtain⟨t,rfl⟩:=r
  cases (show T = "str" from ty)
  exact⟨typeIs_str s z t,λ_ e=>nomatch e⟩
 |int i =>
  obtain⟨t,rfl⟩:=r
  cases (show T = "int" from ty)
  exact⟨typeIs_int s i t,λ_ e=>nomatch e⟩
 |ref p =>
  cases r
  rcases ty with⟨rfl,xs,hq⟩|⟨rfl,o,hk,hc,hd⟩|⟨rfl,hk⟩|⟨rfl,S,n,hk⟩
  ·obtain⟨its,_,pl,_⟩:=I.list hq
   refine⟨pl.isList.typeIs,λa e=>?_⟩
   cases e
   obtain⟨o,n,e,c,hd,_⟩:=pl
   exact⟨o,e,hd⟩
  ·refine⟨⟨o,I.kIn p o hk,hc⟩,λa e=>?_⟩
   cases e
   exact⟨o,I.kIn _ o hk,hd⟩
  ·have z:∃o,s.heap.get? p=some o/\o.ExactDict:=by
    rcases hk with⟨kvs,hk⟩|⟨kvs,hk⟩
    ·obtain⟨_,_,_,_,o,_,_,e,ex,_⟩:=I.hok p _ hk
     exact⟨o,e,ex⟩
    ·obtain⟨_,_,_,_,o,_,_,e,ex,_⟩:=I.hok p _ hk
     exact⟨o,e,ex⟩
   obtain⟨o,e,ex⟩:=z
   refine⟨⟨o,e,ex.1⟩,λa e2=>?_⟩
   cases e2
   exact⟨o,e,ex.2.1⟩
  ·obtain⟨o,_,_,_,e,ex,_⟩:=I.hok p _ hk
   refine⟨⟨o,e,ex.1⟩,λa e2=>?_⟩
   cases e2
   exact⟨o,e,ex.2.1⟩
 |_=>exact False.elim ty
noncomputable def tBM0(K:Frag)(T:String)(r:V->List V->Hp->VK->Prop)(to:TE):TE:=λσ H Q=>to σ H λx H1=>tyV K T x H1/\r x [] H1 Q
noncomputable def tBM(K:Frag)(T:String)(r:V->List V->Hp->VK->Prop)(to:TE)(t:TA):TE:=λσ H Q=>to σ H λx H1=>tyV K T x H1/\t σ H1 λxs H2=>r x xs H2 Q
variable{o e:Expr}{es:List Expr}{to:TE}{t:TA}{name:Str}{apos cpos:Pos}{T id:String}{r:V->List V->Hp->VK->Prop}
theorem QkI(pa:PlainAttrs T)(slot:Slot T name id)(hty:typeOf (.builtin id)=pure (.type "method_descriptor"))(hm:MtR X id r)(ho:PE X o to)(hbase:attributeBase o name X.env (eval o X.env)=eval o X.env:=by rfl)(hline:(apos.endLine == cpos.line)=true:=by rfl):PE X (.Call (.Attribute o name apos) [] [] cpos) (tBM0 X.K T r to):=by
 intro pins s σ H Q I h
 refine wpAny_Call_method0_late hbase hline (thn (ho pins s σ H _ I h) λv s1 ⟨x,H1,I1,r1,ty,q1⟩=>?_)
 obtain⟨h1,h2⟩:=QkH I1 r1 ty
 exact⟨T,id,pa,slot,hty,h1,h2,Calls.callWith_builtin rfl (PySem.evalArgs_none (hm pins s1 σ H1 x [] v [] Q I1 r1 .nil q1))⟩
theorem Qlq(pa:PlainAttrs T)(slot:Slot T name id)(hty:typeOf (.builtin id)=pure (.type "method_descriptor"))(hm:MtR X id r)(ho:PE X o to)(ha:PA X (e::es) t)(hbase:attributeBase o name X.env (eval o X.env)=eval o X.env:=by rfl)(hfew:((backTo cpos (starEach (e::es) X.env)).all (λx=>!x.1) && (backToKw cpos (keywordEach [] X.env)).all (λx=>x.1.isSome)
   && decide ((e::es).length+([]:List Keyword).length+(if ([]:List Keyword).isEmpty then 0 else 1)<30))=true:=by rfl)(hline:(apos.endLine == cpos.line)=true:=by rfl)(hs:starEach (e::es) X.env=(false,eval e X.env)::starEach es X.env:=by rfl)(hplain:(backTo cpos (starEach es X.env)).any (·.1)=false:=by rfl):
  PE X (.Call (.Attribute o name apos) (e::es) [] cpos) (tBM X.K T r to t):=by
 intro pins s σ H Q I h
 refine wpAny_Call_method_late hbase hfew hline rfl (thn (ho pins s σ H _ I h) λv s1 ⟨x,H1,I1,r1,ty,q1⟩=>?_)
 obtain⟨h1,h2⟩:=QkH I1 r1 ty
 refine⟨T,id,pa,slot,hty,h1,h2,?_⟩
 have hA:=ha cpos pins s1 σ H1 _ I1 q1
 rw[hs]at hA ⊢
 refine Calls.callWith_builtin (by show(false || (backTo cpos (starEach es X.env)).any (·.1))=false;rw[hplain] <;> rfl) (Calls.evalArgs_plain ?_)
 exact thn hA λus s2 ⟨vs,H2,I2,r2,q2⟩=>hm pins s2 σ H2 x vs v us Q I2 r1 r2 q2
end
end
section
noncomputable def MtM(X:Cx)(id:String)(r:V->List V->Hp->VK->Prop):Prop :=
 ∀(pins:List (Addr×Obj))(s:Shared)(σ:St)(H:Hp)(x:V)(xs:List V)(v:Value)(us:List Value)(Q:VK),Inv X pins σ H s->RelV x v->Vals xs us->r x xs H Q ->
  wpAny (model X.prog X.w) X.A (call (.builtin id) (v::us)) (EP X pins σ Q) X.xe s
theorem Vals.one:∀{x:V}{us:List Value},Vals [x] us->∃u,us=[u]/\RelV x u
 |_,_,.cons r .nil=>⟨_,rfl,r⟩
theorem Vals.two:∀{x y:V}{us:List Value},Vals [x,y] us->∃u v,us=[u,v]/\RelV x u/\RelV y v
 |_,_,_,.cons r (.cons q .nil)=>⟨_,_,rfl,r,q⟩
theorem Vals.zero:∀{us:List Value},Vals [] us->us=[]
 |_,.nil=>rfl
theorem Vals.dropLast{xs:List V}{us:List Value}(h:Vals xs us):Vals xs.dropLast us.dropLast:=by
 induction h with
 |nil=>exact .nil
 |cons r t ih =>
  cases t with
  |nil=>exact .nil
  |cons q t'=>exact .cons r ih
theorem Vals.eraseIdx:∀{xs:List V}{us:List Value}(i:Nat),Vals xs us->Vals (xs.eraseIdx i) (us.eraseIdx i)
 |_,_,_,.nil=>.nil
 |_,_,0,.cons _ t=>t
 |_,_,i+1,.cons r t=>.cons r (Vals.eraseIdx i t)
theorem Vals.reverse{xs:List V}{us:List Value}(h:Vals xs us):Vals xs.reverse us.reverse:=by
 induction h with
 |nil=>exact .nil
 |cons r t ih=>rw[Tx,Tx];exact Vals.append ih (.cons r .nil)
theorem Vals.rep{xs:List V}{us:List Value}(h:Vals xs us):∀k:Nat,Vals (List.replicate k xs).flatten (List.replicate k us).flatten
 |0=>.nil
 |k+1=>by
  rw[UQ,UQ,Tz,Tz]
  exact Vals.append h (Vals.rep h k)
theorem QgD{α:Type}(l:List α):l.eraseIdx (l.length-1)=l.dropLast:=by
 induction l with
 |nil=>rfl
 |cons a r ih =>
  cases r with
  |nil=>rfl
  |cons b r =>
   have e:(a::b::r).length-1=((b::r).length-1)+1:=by
    have h1:(a::b::r).length=r.length+2:=rfl
    have h2:(b::r).length=r.length+1:=rfl
    omega
   rw[e,List.eraseIdx_cons_succ,ih]
   all_goals rfl
theorem Qd7(its:List Value):∀(k:Nat)(acc:List Value),
  List.foldl (λx1 x2=>x1++x2) acc.toArray (List.replicate k its.toArray)=(acc++(List.replicate k its).flatten).toArray
 |0,acc=>by simp
 |k+1,acc=>by
  have e:acc.toArray++its.toArray=(acc++its).toArray:=by simp
  have e2:(acc++its)++(List.replicate k its).flatten=acc++(List.replicate (k+1) its).flatten:=by
   rw[UQ,Tz,List.append_assoc]
  rw[<-e2,<-Qd7 its k (acc++its),<-e,UQ,List.foldl_cons]
section
variable{X:Cx}{pins:List (Addr×Obj)}{σ:St}{H:Hp}{s:Shared}{l b:Addr}{xs ys zs:List V}
theorem Inv.lset{its its':List Value}{n:Nat}{f:Array Value->Array Value}{t':Nat}(I:Inv X pins σ H s)(hH:H l=some (.lst xs))(e:s.heap.get? l=some {cls:=.type "list",data:=.seq its.toArray n})(hf:f its.toArray=its'.toArray)(hv:Vals ys its')(hz:ys.length<=sizeLine):
  Inv X pins σ (upd H l (.lst ys)) {s with heap:=s.heap.update l (Obj.mapSeq f),toks:=t'}:=by
 have q:=PySem.IsL.update e f
 rw[hf]at q
 refine I.write (x:=l) (e:=l) (by rw[hH];exact trivial) (.inl rfl) (λb' u hb hu=>(UT s.heap (Obj.mapSeq f) (Ne.symm hb)).trans hu) ⟨_,q⟩ ?_
 exact⟨hz,its',_,hv,q⟩
theorem Inv.lnew{its:List Value}{t':Nat}(I:Inv X pins σ H s)(hv:Vals ys its)(hz:ys.length<=sizeLine):
  Inv X pins σ (upd H s.heap.objs.size (.lst ys)) {s with heap:=s.heap.push {cls:=.type "list",data:=.seq its.toArray},toks:=t'} :=
 I.laid (λ_ _ q=>Ub _ q) (Uh _) ⟨hz,its,0,hv,Uo _ rfl⟩
theorem Inv.fresh(I:Inv X pins σ H s):H s.heap.objs.size=none:=I.hok.fresh (Uh _)
theorem Inv.lstM(I:Inv X pins σ H s)(hH:H l=some (.lst xs)):xs.length<=sizeLine/\∃(its:List Value)(n:Nat),Vals xs its/\xs.length=its.length/\s.heap.get? l=some {cls:=.type "list",data:=.seq its.toArray n}:=by
 obtain⟨z,its,n,r,e⟩:=I.hok l _ hH
 exact⟨z,its,n,r,r.length,e⟩
theorem Qjx{n:Nat}(h:n<=sizeLine):Builtin.List.listTooLong n=false:=by
 unfold Builtin.List.listTooLong
 exact Ul (by omega)
end
section
variable{X:Cx}
noncomputable def Qlr:V->List V->Hp->VK->Prop:=λx vs H Q=>∃l xs y,x=.ref l/\vs=[y]/\H l=some (.lst xs)/\xs.length<sizeLine/\Q .non (upd H l (.lst (xs++[y])))
theorem QhC:MtM X "list.append" Qlr:=by
 intro pins s σ H x vs v us Q I rx rv h
 obtain⟨l,xs,y,rfl,rfl,hH,hz,q⟩:=h
 cases rx
 obtain⟨u,rfl,ru⟩:=rv.one
 obtain⟨z,its,n,r,hl,e⟩:=I.lstM hH
 refine Rm F.slot_list_append ⟨_,e,rfl⟩ F.entry_list_append (F.args_list_append_2 _ _) (PySem.list_append l its.toArray n u (by rw[Uf];omega)) ⟨e,?_⟩
 refine⟨.non,_,I.lset (its':=its++[u]) hH e (by simp) (r.append (.cons ru .nil)) ?_,rfl,q⟩
 rw[Ux,Rg]
 omega
noncomputable def rPop:V->List V->Hp->VK->Prop:=λx vs H Q=>∃l xs y,x=.ref l/\vs=[]/\H l=some (.lst xs)/\xs[xs.length-1]?=some y/\Q y (upd H l (.lst xs.dropLast))
theorem QmY:MtM X "list.pop" rPop:=by
 intro pins s σ H x vs v us Q I rx rv h
 obtain⟨l,xs,y,rfl,rfl,hH,hy,q⟩:=h
 cases rx
 have hus:=rv.zero
 subst hus
 obtain⟨z,its,n,r,hl,e⟩:=I.lstM hH
 obtain⟨u,hu,ru⟩:=r.get hy
 have hy':its.toArray[its.toArray.size-1]?=some u:=by
  show its.toArray[its.length-1]?=some u
  rw[<-Wk,<-hl]
  exact hu
 refine Rm F.slot_list_pop ⟨_,e,rfl⟩ F.entry_list_pop (F.args_list_pop_1 _) (MeetsSeq.list_pop_last l its.toArray n u hy' (by rw[Uf];omega)) ⟨e,?_⟩
 refine⟨y,_,I.lset (its':=its.dropLast) hH e ?_ r.dropLast ?_,ru,q⟩
 ·show its.toArray.eraseIdxIfInBounds (its.toArray.size-1)=its.dropLast.toArray
  rw[Uf,List.eraseIdxIfInBounds_toArray,QgD]
 ·rw[List.length_dropLast]
  omega
noncomputable def QmZ:V->List V->Hp->VK->Prop:=λx vs H Q=>∃l xs,x=.ref l/\vs=[]/\H l=some (.lst xs)/\Q .non (upd H l (.lst []))
theorem mt_clear:MtM X "list.clear" QmZ:=by
 intro pins s σ H x vs v us Q I rx rv h
 obtain⟨l,xs,rfl,rfl,hH,q⟩:=h
 cases rx
 have hus:=rv.zero
 subst hus
 obtain⟨z,its,n,r,hl,e⟩:=I.lstM hH
 refine Rm F.slot_list_clear ⟨_,e,rfl⟩ F.entry_list_clear (F.args_list_clear_1 _) (RC l its.toArray n (by rw[Uf];omega)) ⟨e,?_⟩
 exact⟨.non,_,I.lset (its':=[]) (ys:=[]) hH e rfl .nil (Ts _),rfl,q⟩
noncomputable def rCat:R2:=λx y H Q=>∃l b xs zs,x=.ref l/\y=.ref b/\H l=some (.lst xs)/\H b=some (.lst zs)/\xs.length+zs.length<=sizeLine/\∀p,H p=none->Q (.ref p) (upd H p (.lst (xs++zs)))
theorem Qm0:OpR X (binaryOp .Add) rCat:=by
 intro pins s σ H x y v u Q I rx ry h
 obtain⟨l,b,xs,zs,rfl,rfl,hH,hB,hz,q⟩:=h
 cases rx
 cases ry
 obtain⟨z,its,n,r,hl,e⟩:=I.lstM hH
 obtain⟨z2,its2,n2,r2,hl2,e2⟩:=I.lstM hB
 refine PySem.P.add_list e e2 ?_ (by rw[Uf,Uf];omega)
 have ea:its.toArray++its2.toArray=(its++its2).toArray:=by simp
 rw[ea]
 exact⟨.ref _,_,I.lnew (t':=s.toks) (r.append r2) (by rw[Ux];omega),rfl,q _ I.fresh⟩
noncomputable def rRep:R2:=λx y H Q=>∃l k xs,x=.ref l/\y=.int k/\H l=some (.lst xs) /\ -(2^63)<=k/\k<2^63/\xs.length*k.toNat<=sizeLine /\
 ∀p,H p=none->Q (.ref p) (upd H p (.lst (List.replicate k.toNat xs).flatten))
theorem Qls{α:Type}(xs:List α)(k:Nat):(List.replicate k xs).flatten.length=k*xs.length:=by
 induction k with
 |zero=>simp
 |succ k ih=>rw[UQ,Tz,Ux,ih,Nat.succ_mul,Nat.add_comm]
theorem Qm1:OpR X (binaryOp .Mult) rRep:=by
 intro pins s σ H x y v u Q I rx ry h
 obtain⟨l,k,xs,rfl,rfl,hH,h1,h2,hz,q⟩:=h
 cases rx
 obtain⟨t,rfl⟩:=ry
 obtain⟨z,its,n,r,hl,e⟩:=I.lstM hH
 have hlen:its.toArray.size*k.toNat<=sizeLine:=by rw[Uf,<-hl];exact hz
 have hcap:¬its.toArray.size*k.toNat > (2^63-1) / 8:=by
  have:(sizeLine:Nat)<=(2^63-1) / 8:=by decide
  omega
 have hfit:¬(!Builtin.List.listFitsIndex k)=true:=by
  rw[fitsIndex_both h1 h2]
  exact Ue
 have hlong:¬Builtin.List.listTooLong (its.toArray.size*k.toNat)=true:=by
  rw[Qjx hlen]
  exact Ue
 have hnew:List.foldl (λx1 x2=>x1++x2) #[] (List.replicate (if its.toArray.isEmpty=true then 0 else k.toNat) its.toArray)=(List.replicate k.toNat its).flatten.toArray:=by
  have f0:∀m:Nat,List.foldl (λx1 x2=>x1++x2) #[] (List.replicate m its.toArray)=(List.replicate m its).flatten.toArray:=λm=>by
   have:=Qd7 its m []
   rw[List.nil_append]at this
   exact this
  rw[f0]
  cases its with
  |nil=>simp
  |cons a r'=>rw[Ud (by simp)]
 refine wpAny_binaryOp_repeat_ref (T:="list") (U:="int") (by decide) ⟨_,e,rfl⟩ (λs'=>typeIs_int s' k t) noFill_list_mul F.fills_int_mul F.slot_int_rmul repeat_list F.slot_int_index.lookup
  (Rm F.slot_int_rmul (typeIs_int s k t) F.entry_int_rmul (F.args_int_rmul_2 _ _) (int___rmul___int_list k t l its.toArray n)
   ⟨e,rfl,⟨_,e,rfl⟩,Rm F.slot_list_mul ⟨_,e,rfl⟩ F.entry_list_mul (F.args_list_mul_2 _ _) (AutoListH.list___mul___list_int_3 l its.toArray n k t hfit hcap hlong) ⟨e,?_⟩⟩)
 rw[hnew]
 exact⟨.ref _,_,I.lnew (t':=s.toks) (r.rep k.toNat) (by rw[Qls,Nat.mul_comm];exact hz),rfl,q _ I.fresh⟩
end
section
variable{prog:Program}{w:World}{A:Around}{E:Value->Shared->Prop}{s:Shared}
theorem splice_eq(its its2:List Value)(a c:Nat):its.toArray.extract 0 a++its2.toArray++its.toArray.extract c its.toArray.size=(its.take a++its2++its.drop c).toArray:=by
  apply Array.toList_inj.mp
  first
    | (simp
       exact Rb (by simp))
    |simp[Rb]
    |simp
end
section
variable{X:Cx}
end
end
end L2
namespace Att
open PySem PySem.W PySem.Calls PyProof.Rows
theorem QbX{P:Params}{h:Heap}:∀(ns:List Int)(vs:List Value),WellAll P h vs (ns.map WData.int)->IntsAre vs ns:=by
 intro ns
 induction ns with
 |nil =>
  intro vs w
  rw[List.map_nil]at w
  cases w
  exact .nil
 |cons n ns ih =>
  intro vs w
  rw[UG]at w
  cases w with
  |cons a b =>
   cases a
   exact .cons _ _ (ih _ b)
theorem QhD{l:OpenLaw}{n:Nat}(hn:l.most=some n){P:Params}{h:Heap}{args:List WData}{vals:List Value}(hpre:l.row.toRowW.claim.pre args=true)(hwl:WellAll P h vals args):
  ∃a vs ns,vals=[Value.ref a]/\args=[WData.list (ns.map WData.int)]/\h.get? a=some {cls:=.type "list",data:=.seq vs.toArray}/\IntsAre vs ns/\ns.length<=n:=by
 have hsh:WShape.hasAll [] args [.list .int]=true:=(pre_splitW hpre).1
 have hc:l.pre.holds [] {args:=args}=true:=(pre_splitW hpre).2
 obtain⟨d,r,rfl,h1,h2⟩:=hasAllW_cons hsh
 obtain rfl:=hasAllW_nil h2
 obtain⟨xs,rfl,h3⟩:=hasW_list h1
 obtain⟨ns,rfl⟩:=items_int h3
 have hlen:ns.length<=n:=by
  unfold OpenLaw.pre at hc
  have h4:(WTm.not (.lt (.lit (.int (n:Int))) (.len (.arg 0)))).holds [] {args:=[.list (ns.map .int)]}=true:=by
   have h4:=(holds_andW hc).1
   rw[hn]at h4
   exact h4
  have h5:=condW_of h4 (w_not (w_lt w_lit (w_len_list (w_arg rfl))))
  rw[Um]at h5
  refine Rh λq=>?_
  have q':(n:Int)<((ns.length:Nat):Int):=by omega
  first
   | (rw[Uz q']at h5;exact absurd h5 (by decide))
   | (simp at h5;omega)
 cases hwl with
 |cons w1 w2 =>
  cases w2
  cases w1 with
  |list ho hall=>exact⟨_,_,ns,rfl,rfl,ho,QbX ns _ hall,hlen⟩
theorem QhE(l:OpenLaw)(args:List WData):l.row.toRowW.claim.post args (.bool true) args=true :=
 postW_of (r:=l.row.toRowW) (X:=(true == true))
  (show WShape.has [] (.bool true) .bool=true by first|rfl|decide|simp[WShape.has,WShape.arms,WShape.armsAll])
  (show(WTm.eq .res (.lit (.bool true))).value [] {args:=args,res:=some (.bool true),after:=args}=some (.bool (true == true)) from w_eq_bool (w_res rfl) w_lit) rfl
theorem attach_call{l:OpenLaw}{n:Nat}{q:Program}{loose:List Str}{XP:(Str->Option Value)->Heap->Prop}{YP:World->Heap->Prop}{d:DefRec}(hn:l.most=some n)(hdf:d.params.defaults=[])(call:∀(w:World) (s₀ s₁:Shared) (mg mb:Str->Option Value) (fa:Addr) (o:Obj) (pm cd doc:Value) (a:Addr) (vs:List Value) (ns:List Int),
   Ground q loose [] XP w s₀ mg mb s₁.heap->YP w s₁.heap ->
   s₁.heap.get? fa=some o->o.data=.func (docDef d.name d.params d.body d.scope pm cd doc)->s₁.heap.CodeRec cd d.name->mg d.name=some (.ref fa) ->
   s₁.heap.get? a=some {cls:=.type "list",data:=.seq vs.toArray}->IntsAre vs ns->ns.length<=n->s₁.gens = #[] ->
   codeAny (model l.prog w) callerA (.call (.ref fa) ⟨[.ref a],[]⟩) (λr s'=>r=.ok (.ret (.bool true))/\OldK s₁.heap s'.heap/\s'.os=s₁.os/\AllBare s'.gens) s₁):
  WalkO q loose XP YP l.row.toRowW d [] (λf vs=>PySem.call f vs):=by
 intro w s₀ s₁ mg mb G Y fa o pm cd doc dV kV ho hd hcd hD hmg hg args vals as hpre hlay hrd hwl hlo
 obtain rfl:dV=.none:=Dflts.none hD hdf
 obtain rfl:kV=.none:=Dflts.noKw hD
 obtain⟨a,vs,ns,rfl,rfl,hobj,hints,hlen⟩:=QhD hn hpre hwl
 refine enter_call (Wf (call w s₀ s₁ mg mb fa o pm cd doc a vs ns G Y ho (fd_plain hd) hcd hmg hobj hints hlen hg) λr s' hq=>?_)
 obtain⟨rfl,h2,h3,h4⟩:=hq
 exact⟨.inl ⟨.bool true,.bool true,[],rfl,λ_=>rfl,.bool true,QhE l _,λ_=>⟨List.Pairwise.nil,λ_ hm=>(nomatch hm)⟩⟩,h2,h3,h4⟩
section
variable{prog:Program}{w:World}{A:Around}{E:Value->Shared->Prop}{s:Shared}{K:Frag}
end
end Att
namespace L2
open PySem PySem.Spec PyProof.Rows
section
theorem Qd8:∀{vs:List Value}{ns:List Int},IntsAre vs ns->Vals (ns.map V.int) vs
 |_,_,.nil=>.nil
 |_,_,.cons n t h=>.cons ⟨t,rfl⟩ (Qd8 h)
def Only(H:Hp):Prop:=∀b,H b=none\/∃o xs,H b=some (.frz o (.lst xs))
theorem Qjy{P:Program}{w:World}{K:Frag}{mg mb:Str->Option Value}{CX:CXT}{k:Nat}{fa a:Addr}{fd:FuncData}{x:Str}{sp:Sp}{s₁:Shared}{vs:List Value}{ns:List Int}(KX:K.In s₁.heap)(hns:s₁.heap.Ns mainGlobals mg)(hb:s₁.heap.Ns builtinsNs mb)(hbb:∀x:Str,x ≠ "__name__" -> mb x=bootBuiltins x)(hlim:s₁.heap.NoLimit)(hg:s₁.gens = #[])(ha:s₁.heap.get? a=some {cls:=.type "list",data:=.seq vs.toArray})(hi:IntsAre vs ns)(hl:ns.length<=sizeLine)(hr:Room k callerA)(F:∀base:Heap,K.In base->base.Ns mainGlobals mg->FnOk P w K mg base CX k fa fd [x] sp)(hbind:∀(s:Shared) (u:Value),BindsTo s fd ⟨[u],[]⟩ [(x,u)])(hsp:∀H:Hp,Only H->SqL K H a (ns.map V.int)->sp [.ref a] H (λv _=>v=.bl true) λ_ _ _=>False)(hCX:∀H e s',CX [] H s₁ (λ_ _ _=>False) e s'->False):
  codeAny (model P w) callerA (.call (.ref fa) ⟨[.ref a],[]⟩) (λr s'=>r=.ok (.ret (.bool true))/\OldK s₁.heap s'.heap/\s'.os=s₁.os/\AllBare s'.gens) s₁:=by
 have rv:=Qd8 hi
 have lenV:=hi.length
 -- from an abstract heap in which nothing but the script may be tracked
 have core:∀H:Hp,Only H->SqL K H a (ns.map V.int)->HOk P w H s₁.heap->(∀b,H b≠none->b=a)->(H a≠none->K.lookup a=none) ->
   codeAny (model P w) callerA (.call (.ref fa) ⟨[.ref a],[]⟩) (λr s'=>r=.ok (.ret (.bool true))/\OldK s₁.heap s'.heap/\s'.os=s₁.os/\AllBare s'.gens) s₁:=by
  intro H hO hS hok hA hK
  have base_of:∀{b:Addr}{o:Obj},s₁.heap.get? b=some o->H b=none->(hidT s₁.heap H).get? b=some o:=λe n=>Qjk e n
  have noA:∀{b:Addr}{o:Obj}{es:Array DictEntry}{ep:Nat},s₁.heap.get? b=some o->o.data=.dict es ep->H b=none:=λ{b o es ep} e d=>by
   cases q:H b with
   |none=>rfl
   |some u =>
    have e':b=a:=hA b (by rw[q];simp)
    subst e'
    rw[ha]at e;cases e
    have d':Data.seq vs.toArray _=Data.dict es ep:=d
    cases d'
  have nsK:∀{b:Addr}{m:Str->Option Value},s₁.heap.Ns b m->(hidT s₁.heap H).Ns b m:=λ{b m} ⟨o,es,ep,e,d,r⟩=>⟨o,es,ep,base_of e (noA e d),d,r⟩
  have hKb:K.In (hidT s₁.heap H):=λb o e=>base_of (KX b o e) (by
   cases q:H b with
   |none=>rfl
   |some u =>
    have e':b=a:=hA b (by rw[q];simp)
    subst e'
    rw[hK (by rw[q];simp)]at e;cases e)
  have hM:Mod K mg (hidT s₁.heap H):=⟨hKb,nsK hns,⟨mb,nsK hb,hbb⟩,let ⟨mc,h1,h2⟩:=hlim;⟨mc,nsK h1,h2⟩⟩
  have e0:Env0 P w K mg (hidT s₁.heap H) callerA [] s₁ H:=⟨rfl,hM,λb o e=>Qk4 e,Nat.le_of_eq (Qhj _ _),trivial,λb hb=>absurd (show b∈([]:List Addr) from hb) (by simp),hok,.of_eq hg⟩
  refine Wf ((F _ hKb (nsK hns)).run callerA [] s₁ H ⟨[.ref a],[]⟩ [.ref a] [.ref a] _ _ hr e0 (hbind s₁ (.ref a)) (.cons rfl .nil) (hsp H hO hS)) λr s' h=>?_
  cases r with
  |error e=>exact(hCX H e s' h).elim
  |ok fl =>
   cases fl with
   |next=>exact False.elim h
   |brk=>exact False.elim h
   |cont=>exact False.elim h
   |ret u =>
    obtain⟨v,H',os,bare,un,hok',r',q⟩:=h
    have q':v=.bl true:=q
    subst q'
    obtain rfl:u=Value.bool true:=r'
    refine⟨rfl,OldK.of_keep λb o e=>?_,os,bare⟩
    cases q:H b with
    |none=>exact un.keep b o e q (by intro z;exact absurd (show b∈([]:List Addr) from z) (by simp)) (by simp)
    |some u =>
     rcases hO b with z|⟨ob,xs,z⟩
     ·rw[q]at z;cases z
     ·have z2:=un.frzs b ob _ z
      obtain⟨e1,_⟩:=hok b _ z
      obtain⟨e2,_⟩:=hok' b _ z2
      rw[e]at e1;cases e1
      exact e2
 cases hk:K.lookup a with
 |some o =>
  -- the script is one of the module's own objects
  have e:=KX a o hk
  rw[ha]at e
  cases e
  refine core (λ_=>none) (λ_=>.inl rfl) (.inr ⟨_,vs.toArray,_,hk,rfl,rfl,rfl,by rw[Uf,lenV];exact hl,by simpa using rv⟩) (λb u z=>by have z':(none:Option HO)=some u:=z;cases z') (λb z=>absurd rfl z) λz=>absurd rfl z
 |none =>
  refine core (λb=>if b=a then some (.frz {cls:=.type "list",data:=.seq vs.toArray} (.lst (ns.map V.int))) else none) (λb=>?_) (.inl (.inr ⟨{cls:=.type "list",data:=.seq vs.toArray},Uc rfl⟩)) (λb u z=>?_) (λb z=>?_) λ_=>hk
  ·by_cases hb:b=a
   ·exact .inr ⟨_,_,Uc hb⟩
   ·exact .inl (Ud hb)
  ·by_cases hb:b=a
   ·have z':=(Uc hb).symm.trans z
    cases z'
    subst hb
    exact⟨ha,by rw[Um];exact hl,vs,_,rv,ha⟩
   ·have z':=(Ud hb).symm.trans z
    cases z'
  ·by_cases hb:b=a
   ·exact hb
   ·exact absurd (Ud hb) z
end
section
theorem walk_of{l:PySem.W.OpenLaw}{n k:Nat}{q:Program}{loose:List Str}{XP:(Str->Option Value)->Heap->Prop}{YP:World->Heap->Prop}{d:DefRec}{K:Params->Frag}{CX:World->CXT}{sp:World->Sp}{x:Str}(hn:l.most=some n)(hn2:n<=sizeLine)(hdf:d.params.defaults=[])(hr:Room k callerA)(hY:∀(w:World) (h:Heap),YP w h->(K w.params).In h)(F:∀(w:World) (mg:Str->Option Value) (fa:Addr) (h:Heap),(K w.params).In h->h.Ns mainGlobals mg->mg d.name=some (.ref fa) ->
   ∃fd:FuncData,(∀(s:Shared) (u:Value),BindsTo s fd ⟨[u],[]⟩ [(x,u)]) /\
    ∀base:Heap,(K w.params).In base->base.Ns mainGlobals mg->FnOk l.prog w (K w.params) mg base (CX w) k fa fd [x] (sp w))(hsp:∀(w:World) (H:Hp) (a:Addr) (ns:List Int),ns.length<=n->Only H->SqL (K w.params) H a (ns.map V.int)->sp w [.ref a] H (λv _=>v=.bl true) λ_ _ _=>False)(hCX:∀(w:World) (H:Hp) (s:Shared) (e:Value) (s':Shared),CX w [] H s (λ_ _ _=>False) e s'->False):
  PySem.W.WalkO q loose XP YP l.row.toRowW d [] (λf vs=>PySem.call f vs):=by
 refine Att.attach_call hn hdf λw s₀ s₁ mg mb fa o pm cd doc a vs ns G Y ho hd hcd hmg hobj hints hlen hg=>?_
 have KX:=hY w _ Y
 obtain⟨fd,hb,hF⟩:=F w mg fa _ KX G.T.g hmg
 exact Qjy KX G.T.g G.T.b G.T.builtins G.T.nolimit hg hobj hints (Uv hlen hn2) hr hF hb (λH hO hS=>hsp w H a ns hlen hO hS) λH e s'=>hCX w H s₁ e s'
end
section
noncomputable def QbY(s:Stmt)(j:Nat):Stmt:=match s with
 |.ClassDef _ _ _ body _ _ _ _ _ _ _=>body.getD j (.Pass ⟨0,0,0,0⟩)
 |_=>.Pass ⟨0,0,0,0⟩
noncomputable def Yq(s:Stmt):Arguments:=match s with
 |.FunctionDef _ a _ _ _ _ _ _ _ _=>a
 |_=>{posonlyargs:=[],args:=[],vararg:=none,kwonlyargs:=[],kw_defaults:=[],kwarg:=none,defaults:=[]}
noncomputable def ZR(s:Stmt):List Stmt:=match s with
 |.FunctionDef _ _ b _ _ _ _ _ _ _=>b
 |_=>[]
noncomputable def Qg(s:Stmt):Scope:=match s with
 |.FunctionDef _ _ _ _ _ _ sc _ _ _=>sc
 |_=>{kind:=.function,names:=[],isGenerator:=false,isCoroutine:=false}
noncomputable abbrev CX0:CXT:=λ_ _ _ _ _ _=>False
structure Fun(K:Frag)(x qual:Str)(st:Stmt)(f:Addr)(fd:FuncData):Prop where
 ex:∃(oc:Value)(od:Option Addr)(kV doc pm:Value)(an:Option Addr)(cdv ct:Value)(osl:Array (Option Value)),
  fd=fnOf x qual (Yq st) (ZR st) (Qg st) .none kV doc pm an cdv ct/\K.lookup f=some ⟨oc,od,.func fd,osl⟩/\codeIn K cdv qual=true
 kp:keepIn K (.ref f)=true
section
variable{P:Program}{w:World}{K:Frag}{mg:Str->Option Value}{base:Heap}
theorem Fun.ok{x qual:Str}{st:Stmt}{f:Addr}{fd:FuncData}{N ps:List Str}{k:Nat}{sp:Sp}(F:Fun K x qual st f fd)(S:FnScope N ps (Qg st))(len:∀vs H Q E,sp vs H Q E->vs.length=ps.length)(hbody:∀(cdv:Value) (A:Around) (outer:List Env) (s:Shared) (H:Hp) (vs:List V) (Q:VK) (E:XK),Room k (A.deeper (envOfC qual (Qg st) s.heap.objs.size f cdv))->sp vs H Q E ->
   ∃t,PSs (cxOf CX0 P w K mg base N qual (Qg st) f cdv A outer s H E).nox (ZR st) t/\t {nx:=λ_ H'=>Q .non H',rt:=Q} (start N vs) H):FnOk P w K mg base CX0 (k+1) f fd ps sp:=by
 obtain⟨oc,od,kV,doc,pm,an,cdv,ct,osl,rfl,lk,hcd⟩:=F.ex
 refine QmS lk hcd S len λA outer s H vs Q E hr hsp=>?_
 obtain⟨t,h,q⟩:=hbody cdv A outer s H vs Q E hr hsp
 exact⟨t,h.nox,q⟩
theorem Fun.binds{x qual:Str}{st:Stmt}{f:Addr}{fd:FuncData}{ps:List Str}(F:Fun K x qual st f fd)(h:∀(kV doc pm:Value) (an:Option Addr) (cdv ct:Value) (us:List Value),us.length=ps.length->bindArgs (fnOf x qual (Yq st) (ZR st) (Qg st) .none kV doc pm an cdv ct) ⟨us,[]⟩=pure (ps.zip us)):Binds K fd ps []:=by
 obtain⟨oc,od,kV,doc,pm,an,cdv,ct,osl,rfl,lk,hcd⟩:=F.ex
 exact .all (h kV doc pm an cdv ct)
theorem Qc1{x qual:Str}{st:Stmt}{f:Addr}{oc:Value}{od an:Option Addr}{osl:Array (Option Value)}{kV doc pm cdv ct:Value}(l:K.lookup f=some ⟨oc,od,.func (fnOf x qual (Yq st) (ZR st) (Qg st) .none kV doc pm an cdv ct),osl⟩)(c:codeIn K cdv qual=true)(k:keepIn K (.ref f)=true):Fun K x qual st f (fnOf x qual (Yq st) (ZR st) (Qg st) .none kV doc pm an cdv ct):=⟨⟨oc,od,kV,doc,pm,an,cdv,ct,osl,rfl,l,c⟩,k⟩
end
section
variable{X:Cx}
end
def Same(H H':Hp):Prop:=∀b o,H b=some o->H' b=some o
theorem Same.refl(H:Hp):Same H H:=λ_ _ h=>h
theorem Same.trans{H H1 H2:Hp}(a:Same H H1)(b:Same H1 H2):Same H H2:=λc o h=>b c o (a c o h)
theorem Same.free{H H':Hp}(e:Same H H'){l:Addr}(h:H' l=Option.none):H l=Option.none:=by
 cases q:H l with
 |none=>rfl
 |some o =>
  rw[e l o q]at h
  cases h
theorem Same.seq{K:Frag}{H H':Hp}{a:Addr}{xs:List V}(e:Same H H')(h:SqL K H a xs):SqL K H' a xs:=by
 rcases h with(h|⟨o,h⟩)|h
 ·exact .inl (.inl (e _ _ h))
 ·exact .inl (.inr ⟨o,e _ _ h⟩)
 ·exact .inr h
end
end L2
set_option maxHeartbeats 4000000
namespace L3
open PySem
noncomputable abbrev Xc:=Nat×Option Nat
inductive D where
 |non|bl (b:Bool)|int (i:Int)|str (s:Str)|ref (n:Nat)|tup (ds:List D)|fl (ds:List D)
inductive GO where
 |lst (ds:List D)|ins (c:Nat) (fs:List (Str×D))|dct (kvs:List (Sum Int Str×D))|exc (x:Xc)
noncomputable abbrev G:=List GO
noncomputable abbrev S3:=List (Option D)
inductive Res(α:Type) where
 |ok (a:α) (g:G)|raise (x:Xc) (g:G)|stuck
noncomputable def Res.bind{α β:Type}:Res α->(α->G->Res β)->Res β
 |.ok a g,k=>k a g
 |.raise e g,_=>.raise e g
 |.stuck,_=>.stuck
inductive Out where
 |nx (σ:S3) (g:G)|rt (d:D) (g:G)|bk (σ:S3) (g:G)|ct (σ:S3) (g:G)|raise (x:Xc) (σ:S3) (g:G)|stuck
noncomputable abbrev ME:=S3->G->Res D
noncomputable abbrev MT:=S3->G->Res Bool
noncomputable abbrev MA:=S3->G->Res (List D)
noncomputable abbrev MS:=S3->G->Out
noncomputable abbrev MF:=List D->G->Res D
theorem Res.bind_ok{α β:Type}(a:α)(g:G)(k:α->G->Res β):(Res.ok a g).bind k=k a g:=rfl
noncomputable def SZ:Nat:=1000000
noncomputable def mVar(i:Nat):ME:=λσ g=>match σ[i]? with
 |some (some d)=>.ok d g
 |_=>.stuck
noncomputable def mLit(d:D):ME:=λ_ g=>.ok d g
noncomputable def mOp1(f:D->G->Res D)(a:ME):ME:=λσ g=>(a σ g).bind f
noncomputable def mOp2(f:D->D->G->Res D)(a b:ME):ME:=λσ g=>(a σ g).bind λx g1=>(b σ g1).bind λy g2=>f x y g2
noncomputable def mNil:MA:=λ_ g=>.ok [] g
noncomputable def Qb(a:ME)(r:MA):MA:=λσ g=>(a σ g).bind λx g1=>(r σ g1).bind λxs g2=>.ok (x::xs) g2
noncomputable def mOpA(f:List D->G->Res D)(a:MA):ME:=λσ g=>(a σ g).bind f
noncomputable def Qk(a:ME):MT:=λσ g=>(a σ g).bind λd g1=>match d with
 |.bl b=>.ok b g1
 |_=>.stuck
noncomputable def Jm(a:MT):MT:=λσ g=>(a σ g).bind λb g1=>.ok (!b) g1
noncomputable def JZ(a b:MT):MT:=λσ g=>(a σ g).bind λc g1=>if c=true then b σ g1 else .ok false g1
noncomputable def mOrT(a b:MT):MT:=λσ g=>(a σ g).bind λc g1=>if c=true then .ok true g1 else b σ g1
noncomputable def mNot(a:ME):ME:=λσ g=>(a σ g).bind λd g1=>match d with
 |.bl b=>.ok (.bl (!b)) g1
 |_=>.stuck
noncomputable def mAnd(a b:ME):ME:=λσ g=>(a σ g).bind λd g1=>match d with
 |.bl c=>if c=true then b σ g1 else .ok (.bl false) g1
 |_=>.stuck
noncomputable def mIfE(c:MT)(a b:ME):ME:=λσ g=>(c σ g).bind λt g1=>if t=true then a σ g1 else b σ g1
noncomputable def Qc2(f f':D->D->G->Res D)(a b c:ME):ME:=λσ g=>(a σ g).bind λx g1=>(b σ g1).bind λy g2=>(f x y g2).bind λz g3=>match z with
 |.bl true=>(c σ g3).bind λw g4=>f' y w g4
 |.bl false=>.ok (.bl false) g3
 |_=>.stuck
noncomputable def QB:MS:=λσ g=>.nx σ g
noncomputable def mSeq(a b:MS):MS:=λσ g=>match a σ g with
 |.nx σ' g'=>b σ' g'
 |o=>o
noncomputable def Zh(a:ME):MS:=λσ g=>match a σ g with
 |.ok _ g'=>.nx σ g'
 |.raise e g'=>.raise e σ g'
 |.stuck=>.stuck
noncomputable def mRet(a:ME):MS:=λσ g=>match a σ g with
 |.ok d g'=>.rt d g'
 |.raise e g'=>.raise e σ g'
 |.stuck=>.stuck
noncomputable def Qlt:MS:=λ_ g=>.rt .non g
noncomputable def mIf(c:MT)(a b:MS):MS:=λσ g=>match c σ g with
 |.ok t g'=>if t=true then a σ g' else b σ g'
 |.raise e g'=>.raise e σ g'
 |.stuck=>.stuck
noncomputable def QbZ:MS:=λ_ _=>.stuck
noncomputable def Yx(c:Nat)(a:MA):MS:=λσ g=>match a σ g with
 |.ok ds g'=>if ds.length<=SZ then .raise (c,none) σ g' else .stuck
 |.raise e g'=>.raise e σ g'
 |.stuck=>.stuck
structure MH where
 cs:List Nat
 no:List Nat
 nm:Option Nat
 suite:MS
noncomputable def QkJ(i:Nat):Out->Out
 |.nx σ g=>.nx (σ.set i none) g
 |.rt d g=>.rt d g
 |_=>.stuck
noncomputable def runH:List MH->Xc->S3->G->Out
 |[],x,σ,g=>.raise x σ g
 |h::r,x,σ,g=>if x.1∈h.cs then (match h.nm with
  |none=>(match h.suite σ g with
   |.nx σ' g'=>.nx σ' g'
   |.rt d g'=>.rt d g'
   |_=>.stuck)
  |some i=>QkJ i (h.suite (σ.set i (some (.ref g.length))) (g++[.exc x]))) else if x.1∈h.no then runH r x σ g else .stuck
noncomputable def mTry(b:MS)(hs:List MH):MS:=λσ g=>match b σ g with
 |.raise x σ' g'=>runH hs x σ' g'
 |o=>o
noncomputable abbrev MG:=D->S3->Option S3
noncomputable def gSet(i:Nat):MG:=λd σ=>some (σ.set i (some d))
noncomputable def QeW:List MG->List D->S3->Option S3
 |[],[],σ=>some σ
 |t::ts,d::ds,σ=>(t d σ).bind λσ'=>QeW ts ds σ'
 |_,_,_=>none
noncomputable def Yl(ts:List MG):MG:=λd σ=>match d with
 |.tup ds=>QeW ts ds σ
 |_=>none
noncomputable def mAsg(t:MG)(a:ME):MS:=λσ g=>match a σ g with
 |.ok d g'=>(match t d σ with
  |some σ'=>.nx σ' g'
  |none=>.stuck)
 |.raise e g'=>.raise e σ g'
 |.stuck=>.stuck
structure Src where
 at':G->Nat->Option (Option D)
 top:Nat
noncomputable abbrev MI:=S3->G->Res Src
noncomputable def forL(src:Src)(t:MG)(body:MS):Nat->Nat->S3->G->Out
 |0,_,_,_=>.stuck
 |f+1,i,σ,g=>match src.at' g i with
  |some (some d)=>(match t d σ with
   |some σ1=>(match body σ1 g with
    |.nx σ2 g2=>forL src t body f (i+1) σ2 g2
    |.ct σ2 g2=>forL src t body f (i+1) σ2 g2
    |.bk σ2 g2=>.nx σ2 g2
    |o=>o)
   |none=>.stuck)
  |some none=>.nx σ g
  |none=>.stuck
noncomputable def mFor(it:MI)(t:MG)(body:MS):MS:=λσ g=>match it σ g with
 |.ok src g'=>forL src t body (src.top+1) 0 σ g'
 |.raise e g'=>.raise e σ g'
 |.stuck=>.stuck
noncomputable def ZH(c:MT)(body:MS):Nat->S3->G->Out
 |0,_,_=>.stuck
 |f+1,σ,g=>match c σ g with
  |.ok true g1=>(match body σ g1 with
   |.nx σ2 g2=>ZH c body f σ2 g2
   |.ct σ2 g2=>ZH c body f σ2 g2
   |.bk σ2 g2=>.nx σ2 g2
   |o=>o)
  |.ok false g1=>.nx σ g1
  |.raise e g1=>.raise e σ g1
  |.stuck=>.stuck
open Classical in
noncomputable def Qb0(c:MT)(body:MS):MS:=λσ g=>if h:∃f,ZH c body f σ g≠.stuck then ZH c body h.choose σ g else .stuck
noncomputable def Jn(src:Src)(t:MG)(c:MT)(e:ME):Nat->Nat->S3->G->List D->Res (List D)
 |0,_,_,_,_=>.stuck
 |f+1,i,σ,g,acc=>match src.at' g i with
  |some (some d)=>(match t d σ with
   |some σ1=>(match c σ1 g with
    |.ok b g1=>if b=true then (match e σ1 g1 with
     |.ok y g2=>Jn src t c e f (i+1) σ1 g2 (acc++[y])
     |_=>.stuck) else Jn src t c e f (i+1) σ1 g1 acc
    |_=>.stuck)
   |none=>.stuck)
  |some none=>.ok acc g
  |none=>.stuck
noncomputable def capt(n:Nat)(cap:List Nat)(σ:S3):S3:=List.replicate n none++cap.map λi=>(σ[i]?).getD none
noncomputable def newL(ds:List D)(g:G):Res D:=if ds.length<=SZ then .ok (.ref g.length) (g++[.lst ds]) else .stuck
noncomputable def pTup(xs:List D)(g:G):Res D:=if xs.length<=SZ then .ok (.tup xs) g else .stuck
noncomputable def YH(it:MI)(n:Nat)(cap:List Nat)(t:MG)(c:MT)(e:ME):ME:=λσ g=>match it σ g with
 |.ok src g1=>if src.top<=SZ then (match Jn src t c e (src.top+1) 0 (capt n cap σ) g1 []with
  |.ok ds g2=>.ok (.ref g2.length) (g2++[.lst ds])
  |_=>.stuck) else .stuck
 |_=>.stuck
noncomputable def Yr:MT:=λ_ g=>.ok true g
noncomputable def mDef(k n:Nat)(body:MS):MF:=λds g=>if ds.length=k then (match body (ds.map some++List.replicate n none) g with
 |.nx _ g'=>.ok .non g'
 |.rt d g'=>.ok d g'
 |.raise e _ g'=>.raise e g'
 |_=>.stuck) else .stuck
noncomputable def Ql(f:MF)(a:MA):ME:=λσ g=>(a σ g).bind f
noncomputable def QcO(cc:Nat)(m:Str)(f:MF)(o:ME)(a:MA):ME:=λσ g=>(o σ g).bind λx g1=>match x with
 |.ref n=>(match g1[n]? with
  |some (.ins c fs)=>if c=cc/\fs.lookup m=none then (a σ g1).bind λxs g2=>f (.ref n::xs) g2 else .stuck
  |_=>.stuck)
 |_=>.stuck
noncomputable def Qdj(c:Nat)(f:MF)(a:MA):ME:=λσ g=>(a σ g).bind λxs g1=>(f (.ref g1.length::xs) (g1++[.ins c []])).bind λd g2=>match d with
 |.non=>.ok (.ref g1.length) g2
 |_=>.stuck
noncomputable def Yb(cs:List Nat)(f:Str)(o:ME):ME:=mOp1 (λx g=>match x with
 |.ref n=>(match g[n]? with
  |some (.ins c fs)=>if c∈cs then (match fs.lookup f with
   |some d=>.ok d g
   |none=>.stuck) else .stuck
  |_=>.stuck)
 |_=>.stuck) o
noncomputable def putG(f:Str)(v:D):List (Str×D)->List (Str×D)
 |[]=>[(f,v)]
 | (g,x)::r=>if g=f then (g,v)::r else (g,x)::putG f v r
noncomputable def QW(cs:List Nat)(f:Str)(o v:ME):MS:=λσ g=>match v σ g with
 |.ok y g1=>(match o σ g1 with
  |.ok (.ref n) g2=>(match g2[n]? with
   |some (.ins c fs)=>if c∈cs/\fs.length<100 then .nx σ (g2.set n (.ins c (putG f y fs))) else .stuck
   |_=>.stuck)
  |.raise e g'=>.raise e σ g'
  |_=>.stuck)
 |.raise e g'=>.raise e σ g'
 |.stuck=>.stuck
noncomputable def ixD(n:Nat)(i:Int):Option Nat:=if 0<=i then (if i<n then some i.toNat else none) else if -(n:Int)<=i then some (i+n).toNat else none
noncomputable def Z1(o i v:ME):MS:=λσ g=>match v σ g with
 |.ok y g1=>(match o σ g1 with
  |.ok (.ref n) g2=>(match i σ g2 with
   |.ok (.int k) g3=>(match g3[n]? with
    |some (.lst ds)=>(match ixD ds.length k with
     |some j=>.nx σ (g3.set n (.lst (ds.set j y)))
     |none=>.stuck)
    |_=>.stuck)
   |.raise e g'=>.raise e σ g'
   |_=>.stuck)
  |.raise e g'=>.raise e σ g'
  |_=>.stuck)
 |.raise e g'=>.raise e σ g'
 |.stuck=>.stuck
noncomputable def J0(d:D)(g:G):Res Src:=match d with
 |.tup ds=>.ok ⟨λ_ i=>some ds[i]?,ds.length⟩ g
 |.fl ds=>.ok ⟨λ_ i=>some ds[i]?,ds.length⟩ g
 |.ref n=>(match g[n]? with
  |some (.lst ds)=>.ok ⟨λg i=>(match g[n]? with|some (.lst es)=>some es[i]? | _=>none),ds.length⟩ g
  |_=>.stuck)
 |_=>.stuck
noncomputable def QM(a:ME):MI:=λσ g=>(a σ g).bind J0
noncomputable def QX(lo:Int)(n:Nat):Src:=⟨λ_ i=>some (if i<n then some (.int (lo+i)) else none),n⟩
def inR(j:Int):Prop:=-(2^62)<=j/\j<2^62
noncomputable instance (j:Int):Decidable (inR j):=inferInstanceAs (Decidable (_/\_))
noncomputable def Qs(a:ME):MI:=λσ g=>(a σ g).bind λd g1=>match d with
 |.int j=>if inR j then .ok (QX 0 j.toNat) g1 else .stuck
 |_=>.stuck
noncomputable def QG(g:G):D->Option (Bool×List D)
 |.tup ds=>some (false,ds)
 |.fl ds=>some (true,ds)
 |.ref n=>(match g[n]? with
  |some (.lst ds)=>some (true,ds)
  |_=>none)
 |_=>none
noncomputable def Qbq(d1 d2:D)(g:G):Res Src:=match QG g d1,QG g d2 with
 |some (_,xs),some (_,ys)=>.ok ⟨λg i=>(match QG g d1,QG g d2 with
  |some (_,xs),some (_,ys)=>(match xs[i]?,ys[i]? with
   |some x,some y=>some (some (.tup [x,y]))
   |_,_=>some none)
  |_,_=>none),min xs.length ys.length⟩ g
 |_,_=>.stuck
noncomputable def Qax(a b:ME):MI:=λσ g=>(a σ g).bind λx g1=>(b σ g1).bind λy g2=>Qbq x y g2
noncomputable def pAdd(x y:D)(g:G):Res D:=match x,y with
 |.int i,.int j=>.ok (.int (i+j)) g
 |.tup xs,.tup ys=>if xs.length+ys.length<=SZ then .ok (.tup (xs++ys)) g else .stuck
 |.ref n,.ref m=>(match g[n]?,g[m]? with
  |some (.lst xs),some (.lst ys)=>if xs.length+ys.length<=SZ then .ok (.ref g.length) (g++[.lst (xs++ys)]) else .stuck
  |_,_=>.stuck)
 |_,_=>.stuck
noncomputable def pSub(x y:D)(g:G):Res D:=match x,y with
 |.int i,.int j=>.ok (.int (i-j)) g
 |_,_=>.stuck
def cM(i:Int):Prop:=-(2^64)<i/\i<2^64
noncomputable instance (j:Int):Decidable (cM j):=inferInstanceAs (Decidable (_/\_))
noncomputable def pMul(x y:D)(g:G):Res D:=match x,y with
 |.int i,.int j=>if cM i\/cM j then .ok (.int (i*j)) g else .stuck
 |.ref n,.int k=>(match g[n]? with
  |some (.lst ds)=>if (0<=k/\k<1073741824)/\ds.length*k.toNat<=SZ then .ok (.ref g.length) (g++[.lst (List.replicate k.toNat ds).flatten]) else .stuck
  |_=>.stuck)
 |_,_=>.stuck
noncomputable def QN(x y:D)(g:G):Res D:=match x,y with
 |.int i,.int j=>if 0<j/\j<1073741824 then .ok (.int (i/j)) g else .stuck
 |_,_=>.stuck
noncomputable def pMod(x y:D)(g:G):Res D:=match x,y with
 |.int i,.int j=>if 0<j then .ok (.int (i%j)) g else .stuck
 |_,_=>.stuck
noncomputable def pNeg(x:D)(g:G):Res D:=match x with
 |.int i=>.ok (.int (-i)) g
 |_=>.stuck
noncomputable def pCmp(r:Int->Int->Bool)(x y:D)(g:G):Res D:=match x,y with
 |.int i,.int j=>.ok (.bl (r i j)) g
 |_,_=>.stuck
noncomputable def pLt:=pCmp λi j=>decide (i<j)
noncomputable def pLe:=pCmp λi j=>decide (i<=j)
noncomputable def pGt:=pCmp λi j=>decide (j<i)
noncomputable def pGe:=pCmp λi j=>decide (j<=i)
noncomputable def b2I(b:Bool):Int:=if b then 1 else 0
noncomputable def eqGs(eq:D->D->Option Bool):List D->List D->Option Bool
 |[],[]=>some true
 |x::xs,y::ys=>(match eq x y,eqGs eq xs ys with
  |some a,some b=>some (a && b)
  |_,_=>none)
 |_,_=>some false
noncomputable def eqI:Nat->D->D->Option Bool
 |0,x,y=>(match x,y with
  |.int i,.int j=>some (i == j)
  |_,_=>none)
 |f+1,x,y=>(match x,y with
  |.int i,.int j=>some (i == j)
  |.tup xs,.tup ys=>eqGs (eqI f) xs ys
  |_,_=>none)
noncomputable def eqT(g:G)(x y:D):Option Bool:=match x,y with
 |.int i,.int j=>some (i == j)
 |.str s,.str t=>some (s == t)
 |.bl a,.bl b=>some (a == b)
 |.tup xs,.tup ys=>eqGs (eqI 2) xs ys
 |.tup _,.str _=>some false
 |.non,.int _=>some false
 |.ref n,.ref m=>(match g[n]?,g[m]? with
  |some (.lst xs),some (.lst ys)=>if xs.length=ys.length then eqGs (eqI 2) xs ys else some false
  |_,_=>none)
 |_,_=>none
noncomputable def pEq(x y:D)(g:G):Res D:=match eqT g x y with
 |some b=>.ok (.bl b) g
 |none=>.stuck
noncomputable def Qd9:List D->Option (List Int)
 |[]=>some []
 |.int i::r=>(Qd9 r).map (i :: ·)
 |_::_=>none
noncomputable def eqR(g:G)(x y:D):Option Bool:=match x,y with
 |.ref n,.ref m=>(match g[n]?,g[m]? with
  |some (.lst xs),some (.lst ys)=>if xs.length=ys.length then eqGs (eqI 2) xs ys else some false
  |_,_=>none)
 |_,_=>eqI 2 x y
noncomputable def neT(g:G)(x y:D):Option Bool:=match x,y with
 |.int i,.int j=>some (i == j)
 |.int _,.non=>some false
 |.str s,.str t=>some (s == t)
 |.tup xs,.tup ys=>eqGs (eqR g) xs ys
 |.bl a,.bl b=>some (a == b)
 |.ref n,.ref m=>(match g[n]?,g[m]? with
  |some (.lst xs),some (.lst ys)=>if xs.length=ys.length then eqGs (eqI 2) xs ys else some false
  |_,_=>none)
 |_,_=>none
noncomputable def pNe(x y:D)(g:G):Res D:=match neT g x y with
 |some b=>.ok (.bl (!b)) g
 |none=>.stuck
noncomputable def isNon:D->Bool
 |.non=>true
 |_=>false
noncomputable def pIs(x y:D)(g:G):Res D:=match y with
 |.non=>.ok (.bl (isNon x)) g
 |_=>.stuck
noncomputable def QaQ(x y:D)(g:G):Res D:=match y with
 |.non=>.ok (.bl (!isNon x)) g
 |_=>.stuck
noncomputable def atD{α:Type}(xs:List α)(i:Int):Option α:=(ixD xs.length i).bind λj=>xs[j]?
noncomputable def pIx(x y:D)(g:G):Res D:=match x,y with
 |.tup ds,.int i=>(match atD ds i with
  |some d=>.ok d g
  |none=>.stuck)
 |.fl ds,.int i=>(match atD ds i with
  |some d=>.ok d g
  |none=>.stuck)
 |.ref n,.int i=>(match g[n]? with
  |some (.lst ds)=>(match atD ds i with
   |some d=>.ok d g
   |none=>.stuck)
  |_=>.stuck)
 |.str s,.int i=>if s.length<=SZ then (match atD s.cps.toList i with
  |some c=>.ok (.str ⟨#[c]⟩) g
  |none=>.stuck) else .stuck
 |_,_=>.stuck
noncomputable def sIxD(n d:Nat):Option Int->Nat
 |none=>d
 |some v=>if v<0 then (v+(n:Int)).toNat else min v.toNat n
noncomputable def cutD{α:Type}(xs:List α)(lo hi:Option Int):List α:=(xs.drop (sIxD xs.length 0 lo)).take (sIxD xs.length xs.length hi-sIxD xs.length 0 lo)
noncomputable def JW(x:D)(lo hi:Option Int)(g:G):Res D:=match x with
 |.tup ds=>.ok (.tup (cutD ds lo hi)) g
 |.fl ds=>.ok (.ref g.length) (g++[.lst (cutD ds lo hi)])
 |.ref n=>(match g[n]? with
  |some (.lst ds)=>.ok (.ref g.length) (g++[.lst (cutD ds lo hi)])
  |_=>.stuck)
 |_=>.stuck
noncomputable abbrev MO:=S3->G->Res (Option Int)
noncomputable def Zi:MO:=λ_ g=>.ok none g
noncomputable def Jc(a:ME):MO:=λσ g=>(a σ g).bind λd g1=>match d with
 |.int i=>.ok (some i) g1
 |_=>.stuck
noncomputable def ZU(a:ME)(lo hi:MO):ME:=λσ g=>(a σ g).bind λx g1=>(lo σ g1).bind λl g2=>(hi σ g2).bind λh g3=>JW x l h g3
noncomputable def pLen(x:D)(g:G):Res D:=match x with
 |.tup ds=>.ok (.int ds.length) g
 |.fl ds=>.ok (.int ds.length) g
 |.ref n=>(match g[n]? with
  |some (.lst ds)=>.ok (.int ds.length) g
  |_=>.stuck)
 |_=>.stuck
noncomputable def QaR(x:D)(g:G):Res D:=match x with
 |.tup ds=>.ok (.tup ds) g
 |.fl ds=>.ok (.tup ds) g
 |.ref n=>(match g[n]? with
  |some (.lst ds)=>.ok (.tup ds) g
  |_=>.stuck)
 |_=>.stuck
noncomputable def Qba(x:D)(g:G):Res D:=match x with
 |.tup ds=>.ok (.ref g.length) (g++[.lst ds])
 |.fl ds=>.ok (.ref g.length) (g++[.lst ds])
 |.ref n=>(match g[n]? with
  |some (.lst ds)=>.ok (.ref g.length) (g++[.lst ds])
  |_=>.stuck)
 |_=>.stuck
noncomputable def pInt(x:D)(g:G):Res D:=match x with
 |.int i=>.ok (.int i) g
 |.bl b=>.ok (.int (if b then 1 else 0)) g
 |_=>.stuck
noncomputable def Zv(o e:ME):ME:=λσ g=>(o σ g).bind λx g1=>match x with
 |.ref n=>(match g1[n]? with
  |some (.lst _)=>(e σ g1).bind λy g2=>(match g2[n]? with
   |some (.lst ds)=>if ds.length<SZ then .ok .non (g2.set n (.lst (ds++[y]))) else .stuck
   |_=>.stuck)
  |_=>.stuck)
 |_=>.stuck
noncomputable def pPop(x:D)(g:G):Res D:=match x with
 |.ref n=>(match g[n]? with
  |some (.lst ds)=>(match ds[ds.length-1]? with
   |some y=>.ok y (g.set n (.lst ds.dropLast))
   |none=>.stuck)
  |_=>.stuck)
 |_=>.stuck
inductive Ty where
 |non|bool|int|str|tuple|list|dict
 deriving DecidableEq
noncomputable def Ty.name:Ty->String
 |.non => "NoneType" |.bool => "bool" |.int => "int" |.str => "str" |.tuple => "tuple" |.list => "list" |.dict => "dict"
noncomputable def tyLe(t c:Ty):Bool:=t == c || (t == .bool && c == .int)
noncomputable def tyOf(g:G):D->Option Ty
 |.non=>some .non
 |.bl _=>some .bool
 |.int _=>some .int
 |.str _=>some .str
 |.tup _=>some .tuple
 |.fl _=>some .list
 |.ref n=>(match g[n]? with
  |some (.lst _)=>some .list
  |some (.dct _)=>some .dict
  |_=>none)
noncomputable def Z8(c:Ty)(x:D)(g:G):Res D:=match tyOf g x with
 |some t=>.ok (.bl (tyLe t c)) g
 |none=>.stuck
noncomputable def Qay(all cs:List Nat)(x:D)(g:G):Res D:=match x with
 |.ref n=>(match g[n]? with
  |some (.exc e)=>if e.1∈all then .ok (.bl (decide (e.1∈cs))) g else .stuck
  |_=>.stuck)
 |.non=>.ok (.bl false) g
 |_=>.stuck
noncomputable def allB:List D->Option Bool
 |[]=>some true
 |.bl b::r=>(allB r).map (b && ·)
 |_::_=>none
noncomputable def pAll(x:D)(g:G):Res D:=match x with
 |.ref n=>(match g[n]? with
  |some (.lst ds)=>(match allB ds with
   |some b=>.ok (.bl b) g
   |none=>.stuck)
  |_=>.stuck)
 |_=>.stuck
noncomputable def QcP:D->Bool
 |.non=>true
 |.bl _=>true
 |.int _=>true
 |.str _=>true
 |_=>false
noncomputable def eqF(x y:D):Bool:=match x,y with
 |.non,.non=>true
 |.bl a,.bl b=>a == b
 |.int i,.int j=>i == j
 |.str s,.str t=>s == t
 |.bl a,.int j=>b2I a == j
 |.int i,.bl b=>i == b2I b
 |_,_=>false
noncomputable def pIn(neg:Bool)(x y:D)(g:G):Res D:=match QG g y with
 |some (_,ds)=>if QcP x=true/\ds.all QcP=true then .ok (.bl (if neg=true then !(ds.any λd=>eqF d x) else ds.any λd=>eqF d x)) g else .stuck
 |none=>.stuck
end L3
namespace L3
open PySem PySem.Spec PyProof.Rows L2
def SqF(K:Frag)(H:Hp)(a:Addr)(xs:List V):Prop:=(∃o,H a=some (.frz o (.lst xs)))\/SqL K (λ_=>none) a xs
theorem SqF.sq{K:Frag}{H:Hp}{a:Addr}{xs:List V}(h:SqF K H a xs):SqL K H a xs:=by
 rcases h with⟨o,h⟩|(h|⟨o,h⟩)|h
 ·exact .inl (.inr ⟨o,h⟩)
 ·cases h
 ·cases h
 ·exact .inr h
mutual
inductive Den(K:Frag)(μ:List Addr)(H:Hp):V->D->Prop where
 |non:Den K μ H .non .non
 |bl (b:Bool):Den K μ H (.bl b) (.bl b)
 |int (i:Int):Den K μ H (.int i) (.int i)
 |str (x:Str):Den K μ H (.str x) (.str x)
 |ref {n:Nat} {a:Addr} (h:μ[n]?=some a):Den K μ H (.ref a) (.ref n)
 |tup {a:Addr} {vs:List V} {ds:List D} (h:SqT K H a vs) (hs:Dens K μ H vs ds):Den K μ H (.ref a) (.tup ds)
 |fl {a:Addr} {vs:List V} {ds:List D} (h:SqF K H a vs) (hs:Dens K μ H vs ds):Den K μ H (.ref a) (.fl ds)
inductive Dens(K:Frag)(μ:List Addr)(H:Hp):List V->List D->Prop where
 |nil:Dens K μ H [] []
 |cons {v:V} {d:D} {vs:List V} {ds:List D} (h:Den K μ H v d) (hs:Dens K μ H vs ds):Dens K μ H (v::vs) (d::ds)
end
structure Ext(K:Frag)(μ:List Addr)(H:Hp)(μ':List Addr)(H':Hp):Prop where
 pre:∃t,μ'=μ++t
 tup:∀a xs,SqT K H a xs->SqT K H' a xs
 fl:∀a xs,SqF K H a xs->SqF K H' a xs
section
variable{K:Frag}{ca:Nat->Addr}{μ μ' μ'':List Addr}{H H' H'':Hp}
theorem Ext.refl:Ext K μ H μ H:=⟨⟨[],by simp⟩,λ_ _ h=>h,λ_ _ h=>h⟩
theorem Ext.trans(a:Ext K μ H μ' H')(b:Ext K μ' H' μ'' H''):Ext K μ H μ'' H'':=by
 obtain⟨t,e⟩:=a.pre
 obtain⟨u,f⟩:=b.pre
 exact⟨⟨t++u,by rw[f,e,List.append_assoc]⟩,λx xs h=>b.tup x xs (a.tup x xs h),λx xs h=>b.fl x xs (a.fl x xs h)⟩
theorem Ext.at(e:Ext K μ H μ' H'){n:Nat}{a:Addr}(h:μ[n]?=some a):μ'[n]?=some a:=by
 obtain⟨t,rfl⟩:=e.pre
 have hl:n<μ.length:=(Uj.mp h).1
 rw[Uw hl]
 exact h
mutual
theorem Den.mono(e:Ext K μ H μ' H'):∀{v:V}{d:D},Den K μ H v d->Den K μ' H' v d
 |_,_,.non=>.non
 |_,_,.bl b=>.bl b
 |_,_,.int i=>.int i
 |_,_,.str x=>.str x
 |_,_,.ref h=>.ref (e.at h)
 |_,_,.tup h hs=>.tup (e.tup _ _ h) (Dens.mono e hs)
 |_,_,.fl h hs=>.fl (e.fl _ _ h) (Dens.mono e hs)
theorem Dens.mono(e:Ext K μ H μ' H'):∀{vs:List V}{ds:List D},Dens K μ H vs ds->Dens K μ' H' vs ds
 |_,_,.nil=>.nil
 |_,_,.cons h hs=>.cons (Den.mono e h) (Dens.mono e hs)
end
theorem Dens.length:∀{vs:List V}{ds:List D},Dens K μ H vs ds->vs.length=ds.length
 |_,_,.nil=>rfl
 |_,_,.cons _ t=>by rw[UR,UR,Dens.length t]
theorem Dens.get:∀{vs:List V}{ds:List D}{i:Nat}{d:D},Dens K μ H vs ds->ds[i]?=some d->∃v,vs[i]?=some v/\Den K μ H v d
 |_,_,_,_,.nil,e=>by simp at e
 |_,_,0,_,.cons r _,e=>by simp at e;subst e;exact⟨_,rfl,r⟩
 |_,_,i+1,x,.cons _ t,e=>by
  obtain⟨u,h1,h2⟩:=Dens.get (i:=i) (d:=x) t (by simpa using e)
  exact⟨u,by simpa using h1,h2⟩
theorem Dens.getV:∀{vs:List V}{ds:List D}{i:Nat}{v:V},Dens K μ H vs ds->vs[i]?=some v->∃d,ds[i]?=some d/\Den K μ H v d
 |_,_,_,_,.nil,e=>by simp at e
 |_,_,0,_,.cons r _,e=>by simp at e;subst e;exact⟨_,rfl,r⟩
 |_,_,i+1,x,.cons _ t,e=>by
  obtain⟨u,h1,h2⟩:=Dens.getV (i:=i) (v:=x) t (by simpa using e)
  exact⟨u,by simpa using h1,h2⟩
theorem Dens.append:∀{vs ws:List V}{ds es:List D},Dens K μ H vs ds->Dens K μ H ws es->Dens K μ H (vs++ws) (ds++es)
 |_,_,_,_,.nil,h=>h
 |_,_,_,_,.cons a b,h=>.cons a (Dens.append b h)
theorem Dens.set{x:V}{u:D}(r:Den K μ H x u):∀{xs:List V}{us:List D}(i:Nat),Dens K μ H xs us->Dens K μ H (xs.set i x) (us.set i u)
 |_,_,_,.nil=>.nil
 |_,_,0,.cons _ t=>.cons r t
 |_,_,i+1,.cons q t=>.cons q (Dens.set r i t)
theorem Dens.take:∀{xs:List V}{us:List D}(n:Nat),Dens K μ H xs us->Dens K μ H (xs.take n) (us.take n)
 |_,_,0,_=>.nil
 |_,_,_+1,.nil=>.nil
 |_,_,n+1,.cons r t=>.cons r (Dens.take n t)
theorem Dens.drop:∀{xs:List V}{us:List D}(n:Nat),Dens K μ H xs us->Dens K μ H (xs.drop n) (us.drop n)
 |_,_,0,r=>r
 |_,_,_+1,.nil=>.nil
 |_,_,n+1,.cons _ t=>Dens.drop n t
theorem Dens.ints(ns:List Int):Dens K μ H (ns.map V.int) (ns.map D.int):=by
 induction ns with
 |nil=>exact .nil
 |cons n r ih=>exact .cons (.int n) ih
noncomputable def FRel(K:Frag)(μ:List Addr)(H:Hp):List (Str×V)->List (Str×D)->Prop:=Paired λp q=>p.1=q.1/\Den K μ H p.2 q.2
noncomputable def KRel(K:Frag)(μ:List Addr)(H:Hp):List (Key×V)->List (Key×D)->Prop:=Paired λp q=>p.1=q.1/\Den K μ H p.2 q.2
def XOb(ca:Nat->Addr)(x:Xc)(o:Obj):Prop:=o.cls=.ref (ca x.1)/\o.dict=none
theorem XOb.map{ca:Nat->Addr}{x:Xc}{o:Obj}(h:XOb ca x o)(f:Array Value->Array Value):XOb ca x (o.mapFields f):=by
 obtain⟨c,d,dt,sl⟩:=o
 cases dt <;> exact h
noncomputable def XO(ca:Nat->Addr)(a:Addr)(x:Xc):HO:=.ext λh=>∃o vs,h.get? a=some o/\XOb ca x o/\o.data=.fields vs
noncomputable def ORep(K:Frag)(ca:Nat->Addr)(μ:List Addr)(H:Hp)(a:Addr):GO->Prop
 |.dct ks=>∃kv,H a=some (.dK kv)/\KRel K μ H kv ks
 |.exc x=>H a=some (XO ca a x)
 |.lst ds=>∃vs,H a=some (.lst vs)/\Dens K μ H vs ds
 |.ins c fs=>∃dx fv,H a=some (.ins (ca c) dx fv)/\FRel K μ H fv fs
structure GRep(K:Frag)(ca:Nat->Addr)(μ:List Addr)(H:Hp)(g:G):Prop where
 len:μ.length=g.length
 nd:μ.Nodup
 obj:∀(n:Nat)(a:Addr)(o:GO),μ[n]?=some a->g[n]?=some o->ORep K ca μ H a o
structure Rep(K:Frag)(ca:Nat->Addr)(μ:List Addr)(σ3:S3)(g:G)(σ:L2.St)(H:Hp):Prop where
 g:GRep K ca μ H g
 len:σ.length=σ3.length
 st:∀(i:Nat)(d:D),σ3[i]?=some (some d)->∃v,σ[i]?=some (some v)/\Den K μ H v d
theorem FRel.mono(e:Ext K μ H μ' H'){fv:List (Str×V)}{fs:List (Str×D)}(h:FRel K μ H fv fs):FRel K μ' H' fv fs:=Paired.imp' (λ_ _ q=>⟨q.1,q.2.mono e⟩) h
theorem KRel.mono(e:Ext K μ H μ' H'){fv:List (Key×V)}{fs:List (Key×D)}(h:KRel K μ H fv fs):KRel K μ' H' fv fs:=Paired.imp' (λ_ _ q=>⟨q.1,q.2.mono e⟩) h
theorem Rep.go{σ3:S3}{g g':G}{σ:L2.St}(r:Rep K ca μ σ3 g σ H)(e:Ext K μ H μ' H')(h:GRep K ca μ' H' g'):Rep K ca μ' σ3 g' σ H' :=
 ⟨h,r.len,λi d z=>by obtain⟨v,h1,h2⟩:=r.st i d z;exact⟨v,h1,h2.mono e⟩⟩
theorem GRep.addr{g:G}(r:GRep K ca μ H g){n:Nat}{o:GO}(h:g[n]?=some o):∃a,μ[n]?=some a/\ORep K ca μ H a o:=by
 have hl:n<g.length:=(Uj.mp h).1
 have hm:n<μ.length:=by rw[r.len];exact hl
 exact⟨μ[n],by simp[hm],r.obj n _ o (by simp[hm]) h⟩
theorem ORep.is{a:Addr}{o:GO}(h:ORep K ca μ H a o):∃u,H a=some u:=by
 cases o with
 |lst ds=>obtain⟨_,h,_⟩:=h;exact⟨_,h⟩
 |ins c fs=>obtain⟨_,_,h,_⟩:=h;exact⟨_,h⟩
 |dct ks=>obtain⟨_,h,_⟩:=h;exact⟨_,h⟩
 |exc x=>exact⟨_,h⟩
theorem GRep.known{g:G}(r:GRep K ca μ H g){a:Addr}(h:a∈μ):∃u,H a=some u:=by
 obtain⟨n,hn⟩:=List.getElem?_of_mem h
 have hl:n<μ.length:=(Uj.mp hn).1
 have hg:n<g.length:=by rw[<-r.len];exact hl
 exact(r.obj n a g[n] hn (by simp[hg])).is
theorem Zj{p:Addr}{o:HO}(hp:H p=none):Ext K μ H μ (upd H p o):=⟨⟨[],by simp⟩,λa xs h=>by
 rcases h with(h|⟨u,h⟩)|h
 ·exact .inl (.inl (by rw[Qr (QQ h hp)];exact h))
 ·exact .inl (.inr ⟨u,by rw[Qr (QQ h hp)];exact h⟩)
 ·exact .inr h,λa xs h=>by
 rcases h with⟨u,h⟩|h
 ·exact .inl ⟨u,by rw[Qr (QQ h hp)];exact h⟩
 ·exact .inr h⟩
theorem ORep.mono{a:Addr}{o:GO}(e:Ext K μ H μ' H')(ha:∀u,H a=some u->H' a=some u)(h:ORep K ca μ H a o):ORep K ca μ' H' a o:=by
 cases o with
 |lst ds=>obtain⟨vs,h,q⟩:=h;exact⟨vs,ha _ h,q.mono e⟩
 |ins c fs=>obtain⟨dx,fv,h,q⟩:=h;exact⟨dx,fv,ha _ h,q.mono e⟩
 |dct ks=>obtain⟨kv,h,q⟩:=h;exact⟨kv,ha _ h,q.mono e⟩
 |exc x=>exact ha _ h
theorem GRep.new{g:G}{p:Addr}{o:HO}(r:GRep K ca μ H g)(hp:H p=none):GRep K ca μ (upd H p o) g :=
 ⟨r.len,r.nd,λn a u h1 h2=>(r.obj n a u h1 h2).mono (Zj hp) λz hz=>by rw[Qr (QQ hz hp)];exact hz⟩
theorem Qp{p:Addr}{o:HO}(hp:H p=none):Ext K μ H (μ++[p]) (upd H p o):=⟨⟨[p],rfl⟩,(Zj (μ:=μ) hp).tup,(Zj (μ:=μ) hp).fl⟩
theorem GRep.push{g:G}{p:Addr}{o:HO}{u:GO}(r:GRep K ca μ H g)(hp:H p=none)(ho:ORep K ca (μ++[p]) (upd H p o) p u):GRep K ca (μ++[p]) (upd H p o) (g++[u]):=by
 have nm:p∉μ:=λh=>by
  obtain⟨z,hz⟩:=r.known h
  rw[hp]at hz;cases hz
 refine⟨by rw[Ux,Ux,r.len];rfl,?_,λn a w h1 h2=>?_⟩
 ·rw[List.nodup_append]
  exact⟨r.nd,by simp,λx hx y hy e=>nm (by rw[Uu.mp hy]at e;rw[<-e];exact hx)⟩
 ·by_cases hn:n<g.length
  ·rw[Uw hn]at h2
   rw[Uw (by rw[r.len];exact hn)]at h1
   exact(r.obj n a w h1 h2).mono (Qp hp) λz hz=>by rw[Qr (QQ hz hp)];exact hz
  ·rw[UD (by omega)]at h2
   rw[UD (by rw[r.len];omega)]at h1
   have e0:n-g.length=0:=by
    have:=(Uj.mp h2).1
    simp at this;omega
   rw[e0]at h2
   rw[r.len,e0]at h1
   simp at h1 h2
   subst h1 h2
   exact ho
theorem J4{a:Addr}{o o':HO}(h:H a=some o)(no:∀xs,o≠.tup xs)(nf:∀b u,o≠.frz b u):Ext K μ H μ (upd H a o'):=⟨⟨[],by simp⟩,λb xs hb=>by
 rcases hb with(z|⟨u,z⟩)|z
 ·exact .inl (.inl (by rw[Qr (Qk3 z h (Ne.symm (no xs)))];exact z))
 ·exact .inl (.inr ⟨u,by rw[Qr (Qk3 z h (Ne.symm (nf u _)))];exact z⟩)
 ·exact .inr z,λb xs hb=>by
 rcases hb with⟨u,z⟩|z
 ·exact .inl ⟨u,by rw[Qr (Qk3 z h (Ne.symm (nf u _)))];exact z⟩
 ·exact .inr z⟩
theorem GRep.set{g:G}{n:Nat}{a:Addr}{o o':HO}{u:GO}(r:GRep K ca μ H g)(hn:μ[n]?=some a)(h:H a=some o)(no:∀xs,o≠.tup xs)(nf:∀b u,o≠.frz b u)(ho:ORep K ca μ (upd H a o') a u):
  GRep K ca μ (upd H a o') (g.set n u):=by
 refine⟨by rw[Ti,r.len],r.nd,λm b w h1 h2=>?_⟩
 by_cases e:m=n
 ·subst e
  rw[hn]at h1;cases h1
  have hl:m<g.length:=by
   rw[<-r.len];exact(Uj.mp hn).1
  rw[UZ hl]at h2;cases h2
  exact ho
 ·rw[Ug (Ne.symm e)]at h2
  have nb:b≠a:=λz=>by
   subst z
   have e1:=(Uj.mp h1)
   have e2:=(Uj.mp hn)
   obtain⟨l1,q1⟩:=e1
   obtain⟨l2,q2⟩:=e2
   exact e ((List.getElem_inj r.nd).mp (q1.trans q2.symm))
  exact(r.obj m b w h1 h2).mono (J4 h no nf) λz hz=>by rw[Qr nb];exact hz
noncomputable abbrev XS:=Xc->L2.St->Hp->Prop
noncomputable def FpW(X:Cx)(pins:List (Addr×Obj))(H:Hp)(b:Addr):Prop :=
 H b=none/\b≠X.env.locals/\b∉X.fs/\(b∈X.ex\/X.s₀.heap.get? b=none)/\(∀x c,X.env.cells.lookup x=some c->c≠b)/\∀p∈X.pn++pins,p.1≠b
structure Fl(X:Cx)(ca:Nat->Addr)(a:Addr)(x:Xc)(H:Hp)(h:Heap):Prop where
 fp:FpW X [] H a
 ln:x.2=none
 ex:∃oe vs,h.get? a=some oe/\XOb ca x oe/\oe.data=.fields vs/\1<vs.size /\
  (vs[1]?=some .none\/∃T oT ts,vs[1]?=some (.ref T)/\T≠a/\FpW X [] H T/\h.get? T=some oT/\oT.data=.fields ts/\3<ts.size/\(ts[3]?=some .none\/ts[3]?=some (rawInt X.env.locals)))
noncomputable def XE(X:Cx)(ca:Nat->Addr)(Φ:XS):Value->Shared->Prop:=λv s=>∃a x σ H,v=.ref a/\Inv X [] σ H s/\Fl X ca a x H s.heap/\Φ x σ H
noncomputable abbrev xon(X:Cx)(pn:List (Addr×Obj)):Cx:={X with pn:=pn,xe:=λ_ _=>False}
noncomputable abbrev xat(X:Cx)(ca:Nat->Addr)(pn:List (Addr×Obj))(Φ:XS):Cx:={X with pn:=pn,xe:=XE (xon X pn) ca Φ}
def RaP(K:Frag)(ca:Nat->Addr)(Φ:XS)(σ:L2.St)(H:Hp)(μ:List Addr)(x:Xc)(g':G):Prop:=∀H' μ',Ext K μ H μ' H'->GRep K ca μ' H' g'->Φ x σ H'
noncomputable def Post(K:Frag)(ca:Nat->Addr)(Φ:XS)(σ:L2.St)(Q:VK)(H:Hp)(μ:List Addr):Res D->Prop
 |.ok d g'=>∀v H' μ',Ext K μ H μ' H'->GRep K ca μ' H' g'->Den K μ' H' v d->Q v H'
 |.raise x g'=>RaP K ca Φ σ H μ x g'
 |.stuck=>False
noncomputable def PostT(K:Frag)(ca:Nat->Addr)(Φ:XS)(σ:L2.St)(Q:Bool->Hp->Prop)(H:Hp)(μ:List Addr):Res Bool->Prop
 |.ok b g'=>∀H' μ',Ext K μ H μ' H'->GRep K ca μ' H' g'->Q b H'
 |.raise x g'=>RaP K ca Φ σ H μ x g'
 |.stuck=>False
noncomputable def PostA(K:Frag)(ca:Nat->Addr)(Φ:XS)(σ:L2.St)(Q:List V->Hp->Prop)(H:Hp)(μ:List Addr):Res (List D)->Prop
 |.ok ds g'=>∀vs H' μ',Ext K μ H μ' H'->GRep K ca μ' H' g'->Dens K μ' H' vs ds->Q vs H'
 |.raise x g'=>RaP K ca Φ σ H μ x g'
 |.stuck=>False
noncomputable def PostS(K:Frag)(ca:Nat->Addr)(Φ:XS)(E:Ends)(H:Hp)(μ:List Addr):Out->Prop
 |.nx σ3 g'=>∀σ' H' μ',Ext K μ H μ' H'->Rep K ca μ' σ3 g' σ' H'->E.nx σ' H'
 |.bk σ3 g'=>∀σ' H' μ',Ext K μ H μ' H'->Rep K ca μ' σ3 g' σ' H'->E.bk σ' H'
 |.ct σ3 g'=>∀σ' H' μ',Ext K μ H μ' H'->Rep K ca μ' σ3 g' σ' H'->E.ct σ' H'
 |.rt d g'=>∀v H' μ',Ext K μ H μ' H'->GRep K ca μ' H' g'->Den K μ' H' v d->E.rt v H'
 |.raise x σ3 g'=>∀σ' H' μ',Ext K μ H μ' H'->Rep K ca μ' σ3 g' σ' H'->Φ x σ' H'
 |.stuck=>False
noncomputable def up(K:Frag)(ca:Nat->Addr)(Φ:XS)(m:ME):TE:=λσ H Q=>∃σ3 g μ,Rep K ca μ σ3 g σ H/\Post K ca Φ σ Q H μ (m σ3 g)
noncomputable def upT(K:Frag)(ca:Nat->Addr)(Φ:XS)(m:MT):TT:=λσ H Q=>∃σ3 g μ,Rep K ca μ σ3 g σ H/\PostT K ca Φ σ Q H μ (m σ3 g)
noncomputable def upA(K:Frag)(ca:Nat->Addr)(Φ:XS)(m:MA):TA:=λσ H Q=>∃σ3 g μ,Rep K ca μ σ3 g σ H/\PostA K ca Φ σ Q H μ (m σ3 g)
noncomputable def upS(K:Frag)(ca:Nat->Addr)(Φ:XS)(m:MS):TS:=λE σ H=>∃σ3 g μ,Rep K ca μ σ3 g σ H/\PostS K ca Φ E H μ (m σ3 g)
def PE3(ca:Nat->Addr)(X:Cx)(e:Expr)(m:ME):Prop:=∀pn Φ,PE (xat X ca pn Φ) e (up X.K ca Φ m)
def PT3(ca:Nat->Addr)(X:Cx)(e:Expr)(m:MT):Prop:=∀pn Φ,PT (xat X ca pn Φ) e (upT X.K ca Φ m)
def PW3(ca:Nat->Addr)(X:Cx)(e:Expr)(m:MT):Prop:=∀pn Φ,PW (xat X ca pn Φ) e (upT X.K ca Φ m)
def PA3(ca:Nat->Addr)(X:Cx)(es:List Expr)(m:MA):Prop:=∀pn Φ,PA (xat X ca pn Φ) es (upA X.K ca Φ m)
def PS3(ca:Nat->Addr)(X:Cx)(st:Stmt)(m:MS):Prop:=∀pn Φ,PS (xat X ca pn Φ) st (upS X.K ca Φ m)
def PSs3(ca:Nat->Addr)(X:Cx)(sts:List Stmt)(m:MS):Prop:=∀pn Φ,PSs (xat X ca pn Φ) sts (upS X.K ca Φ m)
variable{Φ:XS}{σ:L2.St}
theorem RaP.go{x:Xc}{g':G}(e:Ext K μ H μ' H')(h:RaP K ca Φ σ H μ x g'):RaP K ca Φ σ H' μ' x g':=λH2 μ2 e2=>h H2 μ2 (e.trans e2)
theorem Post.go{Q:VK}{r:Res D}(e:Ext K μ H μ' H')(h:Post K ca Φ σ Q H μ r):Post K ca Φ σ Q H' μ' r:=by
 cases r with
 |ok d g'=>exact λv H2 μ2 e2=>h v H2 μ2 (e.trans e2)
 |raise _ _=>exact RaP.go e h
 |stuck=>exact h
theorem PostT.go{Q:Bool->Hp->Prop}{r:Res Bool}(e:Ext K μ H μ' H')(h:PostT K ca Φ σ Q H μ r):PostT K ca Φ σ Q H' μ' r:=by
 cases r with
 |ok d g'=>exact λH2 μ2 e2=>h H2 μ2 (e.trans e2)
 |raise _ _=>exact RaP.go e h
 |stuck=>exact h
theorem PostA.go{Q:List V->Hp->Prop}{r:Res (List D)}(e:Ext K μ H μ' H')(h:PostA K ca Φ σ Q H μ r):PostA K ca Φ σ Q H' μ' r:=by
 cases r with
 |ok d g'=>exact λv H2 μ2 e2=>h v H2 μ2 (e.trans e2)
 |raise _ _=>exact RaP.go e h
 |stuck=>exact h
theorem PostS.go{E:Ends}{r:Out}(e:Ext K μ H μ' H')(h:PostS K ca Φ E H μ r):PostS K ca Φ E H' μ' r:=by
 cases r with
 |nx _ _=>exact λv H2 μ2 e2=>h v H2 μ2 (e.trans e2)
 |bk _ _=>exact λv H2 μ2 e2=>h v H2 μ2 (e.trans e2)
 |ct _ _=>exact λv H2 μ2 e2=>h v H2 μ2 (e.trans e2)
 |rt _ _=>exact λv H2 μ2 e2=>h v H2 μ2 (e.trans e2)
 |raise _ _ _=>exact λv H2 μ2 e2=>h v H2 μ2 (e.trans e2)
 |stuck=>exact h
theorem Post.pure{Q:VK}{g:G}{v:V}{d:D}(h:Post K ca Φ σ Q H μ (.ok d g))(r:GRep K ca μ H g)(q:Den K μ H v d):Q v H:=h v H μ .refl r q
theorem RaP.stmt{x:Xc}{σ3:S3}{g g':G}{E:Ends}(R:Rep K ca μ σ3 g σ H)(h:PostS K ca Φ E H μ (.raise x σ3 g')):RaP K ca Φ σ H μ x g':=λH' μ' e r=>h σ H' μ' e (R.go e r)
theorem QeX{m:ME}{α:Type}{k:D->G->Res α}{σ3:S3}{g:G}(R:Rep K ca μ σ3 g σ H){P:Res α->Hp->List Addr->Prop}(hp:P ((m σ3 g).bind k) H μ)(hst:∀H μ,¬P .stuck H μ)(hra:∀e g H μ,P (.raise e g) H μ->RaP K ca Φ σ H μ e g)(hgo:∀r H μ H' μ',Ext K μ H μ' H'->P r H μ->P r H' μ'):
  up K ca Φ m σ H λx H1=>∃d g1 μ1,Ext K μ H μ1 H1/\Rep K ca μ1 σ3 g1 σ H1/\Den K μ1 H1 x d/\P (k d g1) H1 μ1:=by
 refine⟨σ3,g,μ,R,?_⟩
 cases hm:m σ3 g with
 |ok d g1 =>
  rw[hm]at hp
  exact λv H1 μ1 e1 r1 d1=>⟨d,g1,μ1,e1,R.go e1 r1,d1,hgo _ _ _ _ _ e1 hp⟩
 |raise e g1=>rw[hm]at hp;exact hra _ _ _ _ hp
 |stuck=>rw[hm]at hp;exact(hst _ _ hp).elim
theorem Jo{m:ME}{k:D->G->Res D}{σ3:S3}{g:G}{Q:VK}(R:Rep K ca μ σ3 g σ H)(hp:Post K ca Φ σ Q H μ ((m σ3 g).bind k)):
  up K ca Φ m σ H λx H1=>∃d g1 μ1,Ext K μ H μ1 H1/\Rep K ca μ1 σ3 g1 σ H1/\Den K μ1 H1 x d/\Post K ca Φ σ Q H1 μ1 (k d g1) :=
 QeX (P:=λr H μ=>Post K ca Φ σ Q H μ r) R hp (λ_ _ h=>h) (λ_ _ _ _ h=>h) λ_ _ _ _ _ e h=>h.go e
theorem Qm2{m:ME}{k:D->G->Res Bool}{σ3:S3}{g:G}{Q:Bool->Hp->Prop}(R:Rep K ca μ σ3 g σ H)(hp:PostT K ca Φ σ Q H μ ((m σ3 g).bind k)):
  up K ca Φ m σ H λx H1=>∃d g1 μ1,Ext K μ H μ1 H1/\Rep K ca μ1 σ3 g1 σ H1/\Den K μ1 H1 x d/\PostT K ca Φ σ Q H1 μ1 (k d g1) :=
 QeX (P:=λr H μ=>PostT K ca Φ σ Q H μ r) R hp (λ_ _ h=>h) (λ_ _ _ _ h=>h) λ_ _ _ _ _ e h=>h.go e
theorem Qoq{m:ME}{k:D->G->Res (List D)}{σ3:S3}{g:G}{Q:List V->Hp->Prop}(R:Rep K ca μ σ3 g σ H)(hp:PostA K ca Φ σ Q H μ ((m σ3 g).bind k)):
  up K ca Φ m σ H λx H1=>∃d g1 μ1,Ext K μ H μ1 H1/\Rep K ca μ1 σ3 g1 σ H1/\Den K μ1 H1 x d/\PostA K ca Φ σ Q H1 μ1 (k d g1) :=
 QeX (P:=λr H μ=>PostA K ca Φ σ Q H μ r) R hp (λ_ _ h=>h) (λ_ _ _ _ h=>h) λ_ _ _ _ _ e h=>h.go e
theorem QfI{m:MT}{α:Type}{k:Bool->G->Res α}{σ3:S3}{g:G}(R:Rep K ca μ σ3 g σ H){P:Res α->Hp->List Addr->Prop}(hp:P ((m σ3 g).bind k) H μ)(hst:∀H μ,¬P .stuck H μ)(hra:∀e g H μ,P (.raise e g) H μ->RaP K ca Φ σ H μ e g)(hgo:∀r H μ H' μ',Ext K μ H μ' H'->P r H μ->P r H' μ'):
  upT K ca Φ m σ H λb H1=>∃g1 μ1,Ext K μ H μ1 H1/\Rep K ca μ1 σ3 g1 σ H1/\P (k b g1) H1 μ1:=by
 refine⟨σ3,g,μ,R,?_⟩
 cases hm:m σ3 g with
 |ok d g1 =>
  rw[hm]at hp
  exact λH1 μ1 e1 r1=>⟨g1,μ1,e1,R.go e1 r1,hgo _ _ _ _ _ e1 hp⟩
 |raise e g1=>rw[hm]at hp;exact hra _ _ _ _ hp
 |stuck=>rw[hm]at hp;exact(hst _ _ hp).elim
theorem Qm3{m:MT}{k:Bool->G->Res D}{σ3:S3}{g:G}{Q:VK}(R:Rep K ca μ σ3 g σ H)(hp:Post K ca Φ σ Q H μ ((m σ3 g).bind k)):
  upT K ca Φ m σ H λb H1=>∃g1 μ1,Ext K μ H μ1 H1/\Rep K ca μ1 σ3 g1 σ H1/\Post K ca Φ σ Q H1 μ1 (k b g1) :=
 QfI (P:=λr H μ=>Post K ca Φ σ Q H μ r) R hp (λ_ _ h=>h) (λ_ _ _ _ h=>h) λ_ _ _ _ _ e h=>h.go e
theorem QhF{m:MT}{k:Bool->G->Res Bool}{σ3:S3}{g:G}{Q:Bool->Hp->Prop}(R:Rep K ca μ σ3 g σ H)(hp:PostT K ca Φ σ Q H μ ((m σ3 g).bind k)):
  upT K ca Φ m σ H λb H1=>∃g1 μ1,Ext K μ H μ1 H1/\Rep K ca μ1 σ3 g1 σ H1/\PostT K ca Φ σ Q H1 μ1 (k b g1) :=
 QfI (P:=λr H μ=>PostT K ca Φ σ Q H μ r) R hp (λ_ _ h=>h) (λ_ _ _ _ h=>h) λ_ _ _ _ _ e h=>h.go e
theorem QfJ{m:MA}{α:Type}{k:List D->G->Res α}{σ3:S3}{g:G}(R:Rep K ca μ σ3 g σ H){P:Res α->Hp->List Addr->Prop}(hp:P ((m σ3 g).bind k) H μ)(hst:∀H μ,¬P .stuck H μ)(hra:∀e g H μ,P (.raise e g) H μ->RaP K ca Φ σ H μ e g)(hgo:∀r H μ H' μ',Ext K μ H μ' H'->P r H μ->P r H' μ'):
  upA K ca Φ m σ H λxs H1=>∃ds g1 μ1,Ext K μ H μ1 H1/\Rep K ca μ1 σ3 g1 σ H1/\Dens K μ1 H1 xs ds/\P (k ds g1) H1 μ1:=by
 refine⟨σ3,g,μ,R,?_⟩
 cases hm:m σ3 g with
 |ok d g1 =>
  rw[hm]at hp
  exact λv H1 μ1 e1 r1 d1=>⟨d,g1,μ1,e1,R.go e1 r1,d1,hgo _ _ _ _ _ e1 hp⟩
 |raise e g1=>rw[hm]at hp;exact hra _ _ _ _ hp
 |stuck=>rw[hm]at hp;exact(hst _ _ hp).elim
theorem Qea{m:MA}{k:List D->G->Res D}{σ3:S3}{g:G}{Q:VK}(R:Rep K ca μ σ3 g σ H)(hp:Post K ca Φ σ Q H μ ((m σ3 g).bind k)):
  upA K ca Φ m σ H λxs H1=>∃ds g1 μ1,Ext K μ H μ1 H1/\Rep K ca μ1 σ3 g1 σ H1/\Dens K μ1 H1 xs ds/\Post K ca Φ σ Q H1 μ1 (k ds g1) :=
 QfJ (P:=λr H μ=>Post K ca Φ σ Q H μ r) R hp (λ_ _ h=>h) (λ_ _ _ _ h=>h) λ_ _ _ _ _ e h=>h.go e
theorem Qm4{m:MA}{k:List D->G->Res (List D)}{σ3:S3}{g:G}{Q:List V->Hp->Prop}(R:Rep K ca μ σ3 g σ H)(hp:PostA K ca Φ σ Q H μ ((m σ3 g).bind k)):
  upA K ca Φ m σ H λxs H1=>∃ds g1 μ1,Ext K μ H μ1 H1/\Rep K ca μ1 σ3 g1 σ H1/\Dens K μ1 H1 xs ds/\PostA K ca Φ σ Q H1 μ1 (k ds g1) :=
 QfJ (P:=λr H μ=>PostA K ca Φ σ Q H μ r) R hp (λ_ _ h=>h) (λ_ _ _ _ h=>h) λ_ _ _ _ _ e h=>h.go e
theorem Q5{m:ME}{Q Q':VK}(h:up K ca Φ m σ H Q)(i:∀x H1,Q x H1->Q' x H1):up K ca Φ m σ H Q':=by
 obtain⟨σ3,g,μ,R,p⟩:=h
 refine⟨σ3,g,μ,R,?_⟩
 cases hm:m σ3 g with
 |ok d g1=>rw[hm]at p;exact λv H1 μ1 e r q=>i _ _ (p v H1 μ1 e r q)
 |raise e g1=>rw[hm]at p;exact p
 |stuck=>rw[hm]at p;exact p
theorem QbF{m:MT}{Q Q':Bool->Hp->Prop}(h:upT K ca Φ m σ H Q)(i:∀x H1,Q x H1->Q' x H1):upT K ca Φ m σ H Q':=by
 obtain⟨σ3,g,μ,R,p⟩:=h
 refine⟨σ3,g,μ,R,?_⟩
 cases hm:m σ3 g with
 |ok d g1=>rw[hm]at p;exact λH1 μ1 e r=>i _ _ (p H1 μ1 e r)
 |raise e g1=>rw[hm]at p;exact p
 |stuck=>rw[hm]at p;exact p
theorem Qam{m:MA}{Q Q':List V->Hp->Prop}(h:upA K ca Φ m σ H Q)(i:∀x H1,Q x H1->Q' x H1):upA K ca Φ m σ H Q':=by
 obtain⟨σ3,g,μ,R,p⟩:=h
 refine⟨σ3,g,μ,R,?_⟩
 cases hm:m σ3 g with
 |ok d g1=>rw[hm]at p;exact λv H1 μ1 e r q=>i _ _ (p v H1 μ1 e r q)
 |raise e g1=>rw[hm]at p;exact p
 |stuck=>rw[hm]at p;exact p
end
theorem Za{X:Cx}{e:Expr}{t t':TE}(h:PE X e t)(i:∀σ H Q,t' σ H Q->t σ H Q):PE X e t':=λpins s σ H Q I q=>h pins s σ H Q I (i σ H Q q)
theorem QeY{X:Cx}{e:Expr}{t t':TT}(h:PT X e t)(i:∀σ H Q,t' σ H Q->t σ H Q):PT X e t':=λpins s σ H Q I q=>h pins s σ H Q I (i σ H Q q)
theorem QhG{X:Cx}{e:Expr}{t t':TT}(h:PW X e t)(i:∀σ H Q,t' σ H Q->t σ H Q):PW X e t':=λw pins s σ H Q I q=>h w pins s σ H Q I (i σ H Q q)
theorem QhH{X:Cx}{e:List Expr}{t t':TA}(h:PA X e t)(i:∀σ H Q,t' σ H Q->t σ H Q):PA X e t':=λp pins s σ H Q I q=>h p pins s σ H Q I (i σ H Q q)
theorem Ys{X:Cx}{e:Stmt}{t t':TS}(h:PS X e t)(i:∀D σ H,t' D σ H->t D σ H):PS X e t':=λpins s σ H D I q=>h pins s σ H D I (i D σ H q)
theorem QfK{X:Cx}{e:List Stmt}{t t':TS}(h:PSs X e t)(i:∀D σ H,t' D σ H->t D σ H):PSs X e t':=λpins s σ H D I q=>h pins s σ H D I (i D σ H q)
section
variable{X:Cx}{ca:Nat->Addr}{a b c e:Expr}{es rest:List Expr}{ma mb me:ME}{tc ta tb:MT}{mr:MA}{pos:Pos}
theorem Qa(i:Nat){x:Str}(hN:X.N[i]?=some x:=by rfl)(hv:Vis X.env.scope x:=by first|exact Or.inl rfl|exact Or.inr (Or.inl rfl)|exact Or.inr (Or.inr rfl))(hd:(x == ("__debug__" : Str))=false:=by decide)(hcd:(x == ("__classdict__" : Str))=false:=by decide):PE3 ca X (.Name x pos) (mVar i) :=
 λpn Φ=>Za (Qmq (X:=xat X ca pn Φ) hN hv hd hcd) λσ H Q hQ=>by
  obtain⟨σ3,g,μ,R,p⟩:=hQ
  unfold mVar at p
  cases e:σ3[i]? with
  |none=>rw[e]at p;exact p.elim
  |some o =>
   cases o with
   |none=>rw[e]at p;exact p.elim
   |some d =>
    rw[e]at p
    obtain⟨v,h1,h2⟩:=R.st i d e
    exact⟨v,h1,p v H μ .refl R.g h2⟩
theorem QhI{v:V}{d:D}(h:∀pn Φ,PE (xat X ca pn Φ) e (tC v))(hd:∀K μ H,Den K μ H v d):PE3 ca X e (mLit d) :=
 λpn Φ=>Za (h pn Φ) λ_ H _ ⟨_,_,μ,R,p⟩=>p v H μ .refl R.g (hd _ _ _)
theorem Qe{i:Int}{j:Nat}:PE3 ca X (.Constant (.int i) j pos) (mLit (.int i)):=QhI (λ_ _=>Qmr) λ_ _ _=>.int i
theorem J5{x:Str}{j:Nat}:PE3 ca X (.Constant (.str x) j pos) (mLit (.str x)):=QhI (λ_ _=>Qmt) λ_ _ _=>.str x
theorem r_bl{x:Bool}{j:Nat}:PE3 ca X (.Constant (.bool x) j pos) (mLit (.bl x)):=QhI (λ_ _=>Qn9) λ_ _ _=>.bl x
theorem Qb1{j:Nat}:PE3 ca X (.Constant .none j pos) (mLit .non):=QhI (λ_ _=>Qms) λ_ _ _=>.non
theorem QkK{x:Str}{v:V}{u:Value}{d:D}(hm:X.mg x=some u)(r:RelV v u)(hd':∀K μ H,Den K μ H v d)(hg:Gl X x:=by rfl)(hd:(x == ("__debug__" : Str))=false:=by decide):PE3 ca X (.Name x pos) (mLit d) :=
 QhI (λpn Φ=>Qhl (X:=xat X ca pn Φ) hg hm r hd) hd'
noncomputable def JD(K:Frag)(ca:Nat->Addr)(r:R2)(f:D->D->G->Res D):Prop :=
 ∀(Φ:XS)(σ:L2.St)(H:Hp)(μ:List Addr)(g:G)(x y:V)(dx dy:D)(Q:VK),GRep K ca μ H g->Den K μ H x dx->Den K μ H y dy->Post K ca Φ σ Q H μ (f dx dy g)->r x y H Q
theorem QfL{K:Frag}{Φ:XS}{r:R2}{f:D->D->G->Res D}(hp:JD K ca r f)(σ:L2.St)(H:Hp)(Q:VK)(h:up K ca Φ (mOp2 f ma mb) σ H Q):tOp r (up K ca Φ ma) (up K ca Φ mb) σ H Q:=by
 obtain⟨σ3,g,μ,R,p⟩:=h
 refine Q5 (Jo R p) λx H1 ⟨dx,g1,μ1,e1,R1,q1,p1⟩=>?_
 refine Q5 (Jo R1 p1) λy H2 ⟨dy,g2,μ2,e2,R2,q2,p2⟩=>?_
 exact hp Φ σ H2 μ2 g2 x y dx dy Q R2.g (q1.mono e2) q2 p2
theorem QhJ{op:Operator}{r:R2}{f:D->D->G->Res D}(ho:∀pn Φ,OpR (xat X ca pn Φ) (binaryOp op) r)(hp:JD X.K ca r f)(ha:PE3 ca X a ma)(hb:PE3 ca X b mb):PE3 ca X (.BinOp a op b pos) (mOp2 f ma mb) :=
 λpn Φ=>Za (Qoj (ho pn Φ) (ha pn Φ) (hb pn Φ)) (QfL hp)
theorem QgE{op:CmpOp}{r:R2}{f:D->D->G->Res D}(ho:∀pn Φ,OpR (xat X ca pn Φ) (compareOp op) r)(hp:JD X.K ca r f)(ha:PE3 ca X a ma)(hb:PE3 ca X b mb)(hm:behindInMarks op b=false):PE3 ca X (.Compare a [op] [b] pos) (mOp2 f ma mb) :=
 λpn Φ=>Za (Qlg (ho pn Φ) (ha pn Φ) (hb pn Φ) hm) (QfL hp)
theorem r_ix{r:R2}{f:D->D->G->Res D}(ho:∀pn Φ,IxR (xat X ca pn Φ) r)(hp:JD X.K ca r f)(ha:PE3 ca X a ma)(hb:PE3 ca X b mb)(hs:Qdf b:=by exact λ_ _=>rfl):PE3 ca X (.Subscript a b pos) (mOp2 f ma mb) :=
 λpn Φ=>Za (Qoo (ho pn Φ) (ha pn Φ) (hb pn Φ) hs) (QfL hp)
theorem r_un{op:UnaryOp}{r:V->Hp->VK->Prop}{f:D->G->Res D}(ho:∀pn Φ,UnR (xat X ca pn Φ) (unaryOp op) r)(hp:∀(Φ:XS) (σ:L2.St) (H:Hp) (μ:List Addr) (g:G) (x:V) (dx:D) (Q:VK),GRep X.K ca μ H g->Den X.K μ H x dx->Post X.K ca Φ σ Q H μ (f dx g)->r x H Q)(ha:PE3 ca X a ma):PE3 ca X (.UnaryOp op a pos) (mOp1 f ma) :=
 λpn Φ=>Za (Qok (ho pn Φ) (ha pn Φ)) λσ H Q ⟨σ3,g,μ,R,p⟩=>Q5 (Jo R p) λx H1 ⟨dx,g1,μ1,e1,R1,q1,p1⟩=>hp Φ σ H1 μ1 g1 x dx Q R1.g q1 p1
theorem Qj:PA3 ca X [] mNil:=λpn Φ=>QhH (QdZ (X:=xat X ca pn Φ)) λ_ H _ ⟨_,_,μ,R,p⟩=>p [] H μ .refl R.g .nil
theorem Jp(ha:PE3 ca X e me)(hr:PA3 ca X es mr)(hs:starEach (e::es) X.env=(false,eval e X.env)::starEach es X.env:=by rfl):PA3 ca X (e::es) (Qb me mr) :=
 λpn Φ=>QhH (JC (X:=xat X ca pn Φ) (ha pn Φ) (hr pn Φ) hs) λσ H Q ⟨σ3,g,μ,R,p⟩=>Q5 (Qoq R p) λx H1 ⟨d,g1,μ1,e1,R1,q1,p1⟩ =>
  Qam (Qm4 R1 p1) λxs H2 ⟨ds,g2,μ2,e2,R2,q2,p2⟩=>p2 (x::xs) H2 μ2 .refl R2.g (.cons (q1.mono e2) q2)
theorem Ym(ha:PE3 ca X a ma)(he:∀whole,isTrue a X.env whole=(do let v <-whole;standAt a.pos;holding [v] (truthy v)):=by intro _;rfl):PT3 ca X a (Qk ma) :=
 λpn Φ=>QeY (Qmu (X:=xat X ca pn Φ) (ha pn Φ) he) λσ H Q ⟨σ3,g,μ,R,p⟩=>Q5 (Qm2 R p) λx H1 hQ=>by
  obtain⟨d,g1,μ1,e1,R1,q1,p1⟩:=hQ
  cases q1 with
  |bl b=>exact⟨b,rfl,p1 H1 μ1 .refl R1.g⟩
  |_=>exact p1.elim
theorem J7{op:CmpOp}{r:R2}{f:D->D->G->Res D}(ho:∀pn Φ,OpR (xat X ca pn Φ) (compareOp op) r)(hp:JD X.K ca r f)(ha:PE3 ca X a ma)(hb:PE3 ca X b mb)(hm:behindInMarks op b=false):PT3 ca X (.Compare a [op] [b] pos) (Qk (mOp2 f ma mb)) :=
 λpn Φ=>QeY (Qlh (ho pn Φ) (ha pn Φ) (hb pn Φ) hm) λσ H Q hQ=>by
  obtain⟨σ3,g,μ,R,p⟩:=hQ
  have q:up X.K ca Φ (mOp2 f ma mb) σ H λx H'=>∃k,x=.bl k/\Q k H':=Q5 (Qm2 R p) λx H1 hQ=>by
   obtain⟨d,g1,μ1,e1,R1,q1,p1⟩:=hQ
   cases q1 with
   |bl b=>exact⟨b,rfl,p1 H1 μ1 .refl R1.g⟩
   |_=>exact p1.elim
  exact QfL hp σ H _ q
theorem Qaz(ha:PT3 ca X a ta):PT3 ca X (.UnaryOp .Not a pos) (Jm ta) :=
 λpn Φ=>QeY (Qmx (X:=xat X ca pn Φ) (ha pn Φ)) λσ H Q ⟨σ3,g,μ,R,p⟩=>QbF (QhF R p) λb H1 ⟨g1,μ1,e1,R1,p1⟩=>p1 H1 μ1 .refl R1.g
theorem Qbb(ha:PT3 ca X a ta):PW3 ca X (.BoolOp .And [a] pos) ta:=λpn Φ=>Qk6 (X:=xat X ca pn Φ) (ha pn Φ)
theorem QaS(ha:PT3 ca X a ta):PW3 ca X (.BoolOp .Or [a] pos) ta:=λpn Φ=>Qmv (X:=xat X ca pn Φ) (ha pn Φ)
theorem Qb2(ha:PT3 ca X a ta)(hb:PW3 ca X (.BoolOp .And (b::rest) pos) tb):PW3 ca X (.BoolOp .And (a::b::rest) pos) (JZ ta tb) :=
 λpn Φ=>QhG (Qmw (X:=xat X ca pn Φ) (ha pn Φ) (hb pn Φ)) λσ H Q ⟨σ3,g,μ,R,p⟩=>QbF (QhF R p) λb H1 hQ=>by
  obtain⟨g1,μ1,e1,R1,p1⟩:=hQ
  cases b with
  |true=>rw[Uc rfl]at p1 ⊢;exact⟨σ3,g1,μ1,R1,p1⟩
  |false=>rw[Ud Ue]at p1 ⊢;exact p1 H1 μ1 .refl R1.g
theorem Qdk(ha:PT3 ca X a ta)(hb:PW3 ca X (.BoolOp .Or (b::rest) pos) tb):PW3 ca X (.BoolOp .Or (a::b::rest) pos) (mOrT ta tb) :=
 λpn Φ=>QhG (Qoa (X:=xat X ca pn Φ) (ha pn Φ) (hb pn Φ)) λσ H Q ⟨σ3,g,μ,R,p⟩=>QbF (QhF R p) λb H1 hQ=>by
  obtain⟨g1,μ1,e1,R1,p1⟩:=hQ
  cases b with
  |true=>rw[Uc rfl]at p1 ⊢;exact p1 H1 μ1 .refl R1.g
  |false=>rw[Ud Ue]at p1 ⊢;exact⟨σ3,g1,μ1,R1,p1⟩
theorem r_w(h:PW3 ca X e ta):PT3 ca X e ta:=λpn Φ=>(h pn Φ).pt
theorem Qlu(ha:PE3 ca X a ma):PE3 ca X (.UnaryOp .Not a pos) (mNot ma) :=
 λpn Φ=>Za (QmA (X:=xat X ca pn Φ) (ha pn Φ)) λσ H Q ⟨σ3,g,μ,R,p⟩=>Q5 (Jo R p) λx H1 hQ=>by
  obtain⟨d,g1,μ1,e1,R1,q1,p1⟩:=hQ
  cases q1 with
  |bl b=>exact⟨b,rfl,p1 _ H1 μ1 .refl R1.g (.bl _)⟩
  |_=>exact p1.elim
theorem Qdl{op:BoolOp}(ha:PE3 ca X a ma):PE3 ca X (.BoolOp op [a] pos) ma:=λpn Φ=>Qmy (X:=xat X ca pn Φ) (ha pn Φ)
theorem Qbw(ha:PE3 ca X a ma)(hb:PE3 ca X (.BoolOp .And (b::rest) pos) mb):PE3 ca X (.BoolOp .And (a::b::rest) pos) (mAnd ma mb) :=
 λpn Φ=>Za (Qmz (X:=xat X ca pn Φ) (ha pn Φ) (hb pn Φ)) λσ H Q ⟨σ3,g,μ,R,p⟩=>Q5 (Jo R p) λx H1 hQ=>by
  obtain⟨d,g1,μ1,e1,R1,q1,p1⟩:=hQ
  cases q1 with
  |bl b =>
   refine⟨b,rfl,?_⟩
   cases b with
   |true=>rw[Uc rfl];exact⟨σ3,g1,μ1,R1,p1⟩
   |false=>rw[Ud Ue];exact p1 _ H1 μ1 .refl R1.g (.bl _)
  |_=>exact p1.elim
theorem QeZ(hc:PT3 ca X c tc)(ha:PE3 ca X a ma)(hb:PE3 ca X b mb):PE3 ca X (.IfExp c a b pos) (mIfE tc ma mb) :=
 λpn Φ=>Za (Qjl (X:=xat X ca pn Φ) (hc pn Φ) (ha pn Φ) (hb pn Φ)) λσ H Q ⟨σ3,g,μ,R,p⟩=>QbF (Qm3 R p) λb H1 hQ=>by
  obtain⟨g1,μ1,e1,R1,p1⟩:=hQ
  cases b with
  |true=>rw[Uc rfl]at p1 ⊢;exact⟨σ3,g1,μ1,R1,p1⟩
  |false=>rw[Ud Ue]at p1 ⊢;exact⟨σ3,g1,μ1,R1,p1⟩
theorem JE:SZ<=sizeLine:=by rw[RS];decide
theorem Dens.sz{K:Frag}{μ:List Addr}{H:Hp}{vs:List V}{ds:List D}(h:Dens K μ H vs ds)(z:ds.length<=SZ):vs.length<=sizeLine:=by rw[h.length];exact Uv z JE
theorem Zl{k:Nat}(h:PA3 ca X es mr):PE3 ca X (.Tuple es k pos) (mOpA pTup mr) :=
 λpn Φ=>Za (QkF (X:=xat X ca pn Φ) (h pn Φ)) λσ H Q ⟨σ3,g,μ,R,p⟩=>Qam (Qea R p) λxs H1 hQ=>by
  obtain⟨ds,g1,μ1,e1,R1,q1,p1⟩:=hQ
  unfold pTup at p1
  by_cases z:ds.length<=SZ
  ·rw[Uc z]at p1
   exact⟨q1.sz z,λt ht=>p1 _ _ μ1 (Zj ht) (R1.g.new ht) (.tup (.of Qn) (q1.mono (Zj ht)))⟩
  ·rw[Ud z]at p1;exact p1.elim
theorem Jq(h:PA3 ca X es mr):PE3 ca X (.List es pos) (mOpA newL mr) :=
 λpn Φ=>Za (QmR (X:=xat X ca pn Φ) (h pn Φ)) λσ H Q ⟨σ3,g,μ,R,p⟩=>Qam (Qea R p) λxs H1 hQ=>by
  obtain⟨ds,g1,μ1,e1,R1,q1,p1⟩:=hQ
  unfold newL at p1
  by_cases z:ds.length<=SZ
  ·rw[Uc z]at p1
   refine⟨q1.sz z,λt ht=>p1 _ _ (μ1++[t]) (Qp ht) (R1.g.push ht ⟨xs,Qn,q1.mono (Qp ht)⟩) (.ref ?_)⟩
   rw[<-R1.g.len];simp
  ·rw[Ud z]at p1;exact p1.elim
end
section
variable{X:Cx}{ca:Nat->Addr}{pins:List (Addr×Obj)}{σ:L2.St}{H:Hp}{s:Shared}{a:Addr}{x:Xc}{E:Value->Shared->Prop}
theorem QkL{pn:List (Addr×Obj)}{Φ:XS}(I:Inv (xat X ca pn Φ) pins σ H s):Inv (xon X pn) pins σ H s:=(Inv.wish I λ_ _=>False)
theorem QfM{b:Addr}{H':Hp}(I:Inv X pins σ H s)(hb:s.heap.get? b=none)(hn:H' b=none):FpW X pins H' b:=by
 refine⟨hn,λz=>?_,λz=>?_,?_,λx c e z=>?_,λp hp z=>?_⟩
 ·obtain⟨m,⟨o,_,_,ho,_⟩,_⟩:=I.loc
  rw[z,ho]at hb;cases hb
 ·obtain⟨_,o,ho,_⟩:=I.funs.mem z
  rw[ho]at hb;cases hb
 ·by_cases hx:b∈X.ex
  ·exact .inl hx
  ·refine .inr ?_
   cases q:X.s₀.heap.get? b with
   |none=>rfl
   |some o =>
    obtain⟨o',e'⟩:=I.base.there b o q hx
    rw[e']at hb;cases hb
 ·obtain⟨v,o,ho,_⟩:=I.cell x c e
  rw[z,hb]at ho;cases ho
 ·rw[<-z,(I.pin p hp).1]at hb;cases hb
theorem Qeb{H':Hp}{h':Heap}{g':Array GenState}{t':Nat}{d':Drawn}{ch:List Addr}(I:Inv X pins σ H s)(hch:∀b∈ch,(b∈X.ex\/X.s₀.heap.get? b=none)/\b≠X.env.locals/\(∀x c,X.env.cells.lookup x=some c->c≠b)/\∀p∈X.pn++pins,p.1≠b)(keep:∀b o,b≠X.env.locals->b∉X.fs->b∉ch->s.heap.get? b=some o->H b=none->h'.get? b=some o)(slot:∀b o,b≠X.env.locals->b∈X.fs->b∉ch->s.heap.get? b=some o->H b=none->∃sl,h'.get? b=some {o with slots:=sl})(free:∀b o,b∉ch->s.heap.get? b=some o->H b=none->H' b=none)(there:∀b o,b∉ch->s.heap.get? b=some o->∃o',h'.get? b=some o')(tups:∀b xs,H b=some (.tup xs)->H' b=some (.tup xs))(frzs:∀b o u,H b=some (.frz o u)->H' b=some (.frz o u))(tbls:∀b ps,H b=some (.tbl ps)->∃more,H' b=some (.tbl (ps++more)))(ns:∀m,s.heap.Ns X.env.locals m->h'.Ns X.env.locals m)(hok:HOk X.prog X.w H' h')(hg:AllBare g'):
  Inv X pins σ H' {s with heap:=h',gens:=g',drawn:=d',toks:=t'}:=by
 have neL:∀b o,X.s₀.heap.get? b=some o->b≠X.env.locals:=λb o e=>UA (Ut (Uk e) I.ok.above)
 have neC:∀b o,X.s₀.heap.get? b=some o->b∉X.ex->b∉ch:=λb o e hx hb=>by
  rcases(hch b hb).1 with z|z
  ·exact hx z
  ·rw[z]at e;cases e
 have cellK:∀x c,X.env.cells.lookup x=some c->∀v,s.heap.IsCell c v->h'.IsCell c v:=λx c e v hQ=>by
  obtain⟨o,ho,hd⟩:=hQ
  have nch:c∉ch:=λz=>(hch c z).2.2.1 x c e rfl
  by_cases hc:c∈X.fs
  ·obtain⟨sl,q⟩:=slot c o (I.cne x c e) hc nch ho (I.freeC x c e)
   exact⟨_,q,hd⟩
  ·exact⟨o,keep c o (I.cne x c e) hc nch ho (I.freeC x c e),hd⟩
 refine⟨I.ok,I.os,hg,⟨λb o e n hb hx=>?_,λb o e n hb hx=>?_,λb o e n hx=>?_,λb o e hx=>?_,λb xs e=>tups b xs (I.base.tups b xs e),λb o xs e=>frzs b o xs (I.base.frzs b o xs e),λb ps e=>?_⟩,?_,λx c e=>?_,?_,λx c e=>?_,λp hp=>?_,hok,I.len⟩
 ·exact keep b o (neL b o e) hb (neC b o e hx) (I.base.keep b o e n hb hx) (I.base.free b o e n hx)
 ·obtain⟨sl,e1⟩:=I.base.slot b o e n hb hx
  obtain⟨sl',e2⟩:=slot b _ (neL b o e) hb (neC b o e hx) e1 (I.base.free b o e n hx)
  exact⟨sl',e2⟩
 ·obtain⟨o',e1⟩:=I.base.there b o e hx
  exact free b o' (neC b o e hx) e1 (I.base.free b o e n hx)
 ·obtain⟨o',e1⟩:=I.base.there b o e hx
  exact there b o' (neC b o e hx) e1
 ·obtain⟨m1,e1⟩:=I.base.tbls b ps e
  obtain⟨m2,e2⟩:=tbls b _ e1
  exact⟨m1++m2,by rw[e2,RE]⟩
 ·obtain⟨m,hn,hl⟩:=I.loc
  refine⟨m,ns m hn,λi x v e1 e2 e3=>?_⟩
  obtain⟨u,r,l⟩:=hl i x v e1 e2 e3
  refine⟨u,r,?_⟩
  rcases l with l|⟨k,c,e,z⟩
  ·exact .inl l
  ·exact .inr ⟨k,c,e,cellK x c e _ z⟩
 ·obtain⟨v,z⟩:=I.cell x c e
  exact⟨v,cellK x c e v z⟩
 ·obtain⟨m,⟨o,_,_,ho,_⟩,_⟩:=I.loc
  exact free _ o (λz=>(hch _ z).2.1 rfl) ho I.free
 ·obtain⟨v,o,ho,hd⟩:=I.cell x c e
  exact free c o (λz=>(hch c z).2.2.1 x c e rfl) ho (I.freeC x c e)
 ·obtain⟨e,n,ne,nf,d⟩:=I.pin p hp
  have nch:p.1∉ch:=λz=>(hch p.1 z).2.2.2 p hp rfl
  exact⟨keep p.1 p.2 ne nf nch e n,free p.1 p.2 nch e n,ne,nf,d⟩
theorem QfN{ch:List Addr}{h':Heap}(I:Inv X pins σ H s)(hch:∀b∈ch,FpW X pins H b)(keep:∀b o,b∉ch->b≠X.env.locals->b∉X.fs->s.heap.get? b=some o->h'.get? b=some o)(slot:∀b o,b∉ch->s.heap.get? b=some o->∃sl,h'.get? b=some {o with slots:=sl}):Inv X pins σ H {s with heap:=h'}:=by
 have nl:X.env.locals∉ch:=λz=>(hch _ z).2.1 rfl
 have nt:∀b v,H b=some v->b∉ch:=λb v e z=>by rw[(hch b z).1]at e;cases e
 have nf:∀b v,H b=some v->b∉X.fs:=λb v e z=>by
  obtain⟨_,o,ho,_⟩:=I.ok.funs.mem z
  have:=I.base.free b o ho (I.ok.frf b z) λq=>I.ok.exfs b q z
  rw[this]at e;cases e
 have nL:∀b v,H b=some v->b≠X.env.locals:=λb v e z=>by rw[z,I.free]at e;cases e
 refine Qeb (h':=h') (H':=H) (g':=s.gens) (t':=s.toks) (d':=s.drawn) (ch:=ch) I (λb hb=>⟨(hch b hb).2.2.2.1,(hch b hb).2.1,(hch b hb).2.2.2.2.1,(hch b hb).2.2.2.2.2⟩) (λb o h1 h2 h3 e _=>keep b o h3 h1 h2 e) (λb o _ _ h3 e _=>slot b o h3 e)
  (λb o _ _ n=>n) (λb o h e=>let ⟨sl,q⟩:=slot b o h e;⟨_,q⟩) (λb v e=>e) (λb o v e=>e) (λb ps e=>⟨#[],by rw[e];simp⟩) (λm hm=>?_) (λb v e=>?_) I.bare
 ·obtain⟨o,es,ep,ho,rr⟩:=hm
  obtain⟨sl,q⟩:=slot _ o nl ho
  exact⟨_,es,ep,q,rr⟩
 ·refine(I.hok b v e).stay (λc' v' hc' q=>?_) (λc' q=>q) λc' xs' q=>q
  rcases hc' with rfl|hc'
  ·exact keep _ _ (nt _ _ e) (nL _ _ e) (nf _ _ e) q
  ·exact keep _ _ (nt _ _ hc') (nL _ _ hc') (nf _ _ hc') q
noncomputable def FlN(X:Cx)(ca:Nat->Addr)(a:Addr)(x:Xc)(H:Hp)(h:Heap):Prop :=
 FpW X [] H a/\x.2=none/\∃oe vs T oT ts,h.get? a=some oe/\XOb ca x oe/\oe.data=.fields vs/\vs[1]?=some (.ref T)/\T≠a/\FpW X [] H T/\h.get? T=some oT/\oT.data=.fields ts/\ts[3]?=some (rawInt X.env.locals)
noncomputable def FlT(X:Cx)(ca:Nat->Addr)(a:Addr)(x:Xc)(H:Hp)(h:Heap):Prop :=
 FpW X [] H a/\x.2=none/\∃oe vs T oT ts,h.get? a=some oe/\XOb ca x oe/\oe.data=.fields vs/\vs[1]?=some (.ref T)/\T≠a/\FpW X [] H T/\h.get? T=some oT/\oT.data=.fields ts/\3<ts.size
theorem FlN.t{h:Heap}(f:FlN X ca a x H h):FlT X ca a x H h:=by
 obtain⟨f1,f2,oe,vs,T,oT,ts,e1,e2,e3,e4,e5,e6,e7,e8,e9⟩:=f
 exact⟨f1,f2,oe,vs,T,oT,ts,e1,e2,e3,e4,e5,e6,e7,e8,(U4.mp e9).1⟩
theorem FlN.fl{h:Heap}(f:FlN X ca a x H h):Fl X ca a x H h:=by
 obtain⟨f1,f2,oe,vs,T,oT,ts,e1,e2,e3,e4,e5,e6,e7,e8,e9⟩:=f
 exact⟨f1,f2,oe,vs,e1,e2,e3,(U4.mp e4).1,.inr ⟨T,oT,ts,e4,e5,e6,e7,e8,(U4.mp e9).1,.inr e9⟩⟩
theorem Qc3{h:Heap}{b:Addr}{o:Obj}{ts:Array Value}(i:Nat)(v:Value)(e:h.get? b=some o)(d:o.data=.fields ts):
  (h.update b (Obj.mapFields (·.setIfInBounds i v))).get? b=some (o.mapFields (·.setIfInBounds i v))/\(o.mapFields (·.setIfInBounds i v)).data=.fields (ts.setIfInBounds i v)/\(o.mapFields (·.setIfInBounds i v)).cls=o.cls :=
 ⟨TM _ e (Obj.isFreed_of_fields (T5 d _)),T5 d _,Obj.cls_mapFields _ _⟩
theorem QfO{base:Heap}{env:Env}{outer:List Env}{L:Addr}{oe:Obj}{vs:Array Value}{head:Value}{hn:Bool}{M:Model}{A:Around}{Q:Unit->Shared->Prop}(hfr:A.frames=some (env::outer))(hl:s.heap.FunFrames base (env::outer))(hf:env.frame=some L)(he:s.heap.get? a=some oe)(hd:oe.data=.fields vs)(hsz:1<vs.size)(ha:a∉(env::outer).filterMap (·.frame))(k:∀h₁ (cells:Array Value),Heap.SlotsOnly ((env::outer).filterMap (·.frame)) s.heap h₁->cells[3]?=some (rawInt L) ->
   Q () {s with heap:=(h₁.push {cls:=.type "traceback",dict:=none,data:=.fields cells}).update a (Obj.mapFields (·.setIfInBounds 1 (.ref h₁.objs.size)))}):
  wpAny M A (do let fv <-frameOf env;let pl <-entryPlaceOf L hn;let b <-EntryCells.newEntry head fv .none (rawInt L) .none pl;setField (.ref a) 1 b) Q E s:=by
 refine Ua (wpAny_frameOf_fun hfr hl hf λh₁ so=>Ua (wpAny_entryPlaceOf λpl hpl=>?_))
 unfold EntryCells.newEntry newFields
 refine Ua (U5 ?_ (hpl.sizeOk5 _ _ _ _ _))
 have e1:h₁.get? a=some oe:=(so.2.1 a ha).trans he
 refine Re (Ub _ e1) hd hsz (k h₁ _ so ?_)
 first
  | (simp;done)
  | (rcases hpl with rfl|⟨_,_,_,_,_,_,_,rfl⟩ <;> simp)
theorem Qe0{M:Model}{Q:Unit->Shared->Prop}(I:Inv X [] σ H s)(hk:X.stack=X.env::X.outer)(hf:X.env.frame=some X.env.locals)(fl:Fl X ca a x H s.heap)(k:∀h',Inv X [] σ H {s with heap:=h'}->FlN X ca a x H h'->Q () {s with heap:=h'}):wpAny M X.A (noteFrame (.ref a) X.env) Q E s:=by
 obtain⟨fp,ln,oe,vs,he,hc,hd,hsz,hv⟩:=fl
 have hfr:X.A.frames=some (X.env::X.outer):=by rw[<-hk];exact I.ok.frames
 have hst:s.heap.FunFrames X.base (X.env::X.outer):=by rw[<-hk];exact I.stack
 have hfs:(X.env::X.outer).filterMap (·.frame)=X.env.locals::X.fs:=by rw[Tk,hf];rfl
 have ha:a∉(X.env::X.outer).filterMap (·.frame):=by
  rw[hfs]
  intro z
  rcases UL.mp z with z|z
  ·exact fp.2.1 z
  ·exact fp.2.2.1 z
 -- an entry is laid over a heap that differs from s at ch alone
 have fin:∀(h0 h₁:Heap)(cells:Array Value)(ch:List Addr),(∀b∈ch,FpW X [] H b)->(∀b o,b∉ch->s.heap.get? b=some o->h0.get? b=some o)->h0.objs.size=s.heap.objs.size->h0.get? a=some oe ->
   Heap.SlotsOnly ((X.env::X.outer).filterMap (·.frame)) h0 h₁->cells[3]?=some (rawInt X.env.locals) ->
   Q () {s with heap:=(h₁.push {cls:=.type "traceback",dict:=none,data:=.fields cells}).update a (Obj.mapFields (·.setIfInBounds 1 (.ref h₁.objs.size)))}:=by
  intro h0 h₁ cells ch hch hk0 hz he0 so hcl
  have e1:h₁.get? a=some oe:=(so.2.1 a ha).trans he0
  obtain⟨u1,u2,u3⟩:=Qc3 1 (.ref h₁.objs.size) (Ub {cls:=.type "traceback",dict:=none,data:=.fields cells} e1) hd
  have hTa:h₁.objs.size≠a:=Rz (Uk e1)
  have oth:∀b o,b≠a->h₁.get? b=some o->((h₁.push {cls:=.type "traceback",dict:=none,data:=.fields cells}).update a (Obj.mapFields (·.setIfInBounds 1 (.ref h₁.objs.size)))).get? b=some o:=λb o hb e =>
   (UT _ _ (Ne.symm hb)).trans (Ub _ e)
  refine k _ (QfN (ch:=a::ch) I (λb hb=>?_) (λb o h1 h2 h3 e=>?_) λb o h1 e=>?_) ⟨fp,ln,_,_,h₁.objs.size,_,cells,u1,hc.map _,u2,by simp[hsz],hTa,?_,(UT _ _ (Ne.symm hTa)).trans (Uo _ rfl),rfl,hcl⟩
  ·rcases UL.mp hb with e|e
   ·rw[e];exact fp
   ·exact hch b e
  ·refine oth b o (λz=>h1 (by rw[z];exact Ur)) ?_
   rw[so.2.1 b (by rw[hfs];intro z;rcases UL.mp z with z|z;(· exact h2 z);exact h3 z)]
   exact hk0 b o (λz=>h1 (Uq _ z)) e
  ·obtain⟨sl,q⟩:=so.2.2 b o (hk0 b o (λz=>h1 (Uq _ z)) e)
   exact⟨sl,oth b _ (λz=>h1 (by rw[z];exact Ur)) q⟩
  ·refine QfM I (Heap.get?_none_of_le ?_) (I.hok.fresh ?_) <;> rw[so.1,hz] <;> exact Uh _
 unfold noteFrame
 simp only[hf]
 rcases hv with hv|⟨T,oT,ts,hv,hTa,fT,hT,hdT,hs3,h3⟩
 ·refine Ua (UM he hd hv ?_)
  rw[Ud (by decide)]
  exact QfO hfr hst hf he hd hsz ha λh₁ cells so hcl=>fin s.heap h₁ cells [] (by simp) (λ_ _ _ e=>e) rfl he so hcl
 ·refine Ua (UM he hd hv ?_)
  rw[Uc (show(Value.ref T != Value.none)=true from by simp)]
  rcases h3 with h3|h3
  ·refine Ua (UM hT hdT h3 ?_)
   rw[Ud (show ¬((Value.none == rawInt X.env.locals)=true) from by simp[rawInt])]
   refine Ua (Re hT hdT hs3 ?_)
   have oth:∀b o,b≠T->s.heap.get? b=some o->(s.heap.update T (Obj.mapFields (·.setIfInBounds 3 Value.none))).get? b=some o:=λb o hb e=>(UT _ _ (Ne.symm hb)).trans e
   have kp:∀b o,s.heap.get? b=some o->(∀vs,o.data≠.fields vs)->(s.heap.update T (Obj.mapFields (·.setIfInBounds 3 Value.none))).get? b=some o:=λb o e n=>oth b o (λz=>by rw[z,hT]at e;cases e;exact n _ hdT) e
   refine QfO (s:={s with heap:=s.heap.update T (Obj.mapFields (·.setIfInBounds 3 Value.none))}) hfr (hst.of_keeps λb o e n=>⟨o,kp b o e n,rfl⟩) hf (oth a oe (Ne.symm hTa) he) hd hsz ha λh₁ cells so hcl=>?_
   exact fin _ h₁ cells [T] (λb hb=>by rw[Uu.mp hb];exact fT) (λb o hb e=>oth b o (λz=>hb (by simp[z])) e) (Heap.size_after_update ..) (oth a oe (Ne.symm hTa) he) so hcl
  ·refine Ua (UM hT hdT h3 ?_)
   rw[Uc (show(rawInt X.env.locals == rawInt X.env.locals)=true from by simp)]
   exact Ui (k s.heap I ⟨fp,ln,oe,vs,T,oT,ts,he,hc,hd,hv,hTa,fT,hT,hdT,h3⟩)
theorem Jr{M:Model}{A:Around}{Q:Unit->Shared->Prop}{fo:Option Addr}(I:Inv X [] σ H s)(fl:FlT X ca a x H s.heap)(k:∀h' T oT ts oe vs,Inv X [] σ H {s with heap:=h'}->h'.get? a=some oe->XOb ca x oe->oe.data=.fields vs->vs[1]?=some (.ref T)->T≠a->FpW X [] H T ->
      h'.get? T=some oT->oT.data=.fields ts->3<ts.size->ts[3]?=some (fo.elim Value.none λf=>rawInt f)->Q () {s with heap:=h'}):wpAny M A (setFlight (.ref a) fo) Q E s:=by
  obtain⟨fp,ln,oe,vs,T,oT,ts,he,hc,hd,hv,hTa,fT,hT,hdT,hs3⟩:=fl
  unfold setFlight
  refine Ua (UM he hd hv ?_)
  rw[Uc (show(Value.ref T != Value.none)=true from by simp)]
  have oth:∀b o,b≠T->s.heap.get? b=some o->(s.heap.update T (Obj.mapFields (·.setIfInBounds 3 (fo.elim Value.none λf=>rawInt f)))).get? b=some o:=λb o hb e=>(UT _ _ (Ne.symm hb)).trans e
  obtain⟨u1,u2,u3⟩:=Qc3 3 (fo.elim Value.none λf=>rawInt f) hT hdT
  refine Re hT hdT hs3 (k _ T _ _ oe vs (QfN (ch:=[T]) I (λb hb=>by rw[Uu.mp hb];exact fT) (λb o h1 _ _ e=>oth b o (λz=>h1 (by simp[z])) e) λb o h1 e=>⟨o.slots,oth b o (λz=>h1 (by simp[z])) e⟩)
    (oth a oe (Ne.symm hTa) he) hc hd hv hTa fT u1 u2 (by simpa using hs3) (by simp[hs3]))
theorem QkM(hk:X.stack=X.env::X.outer)(hf:X.env.frame=some X.env.locals)(pn:List (Addr×Obj))(Φ:XS):PassesOwn (model X.prog X.w) X.A X.env (xat X ca pn Φ).xe:=by
 rintro v s ⟨a,x,σ,H,rfl,I,fl,q⟩
 refine Qe0 (X:=xon X pn) I hk hf fl λh1 I1 f1=>?_
 unfold cameBackBy
 obtain⟨fp,ln,oe,vs,T,oT,ts,he,hc,hd,hv,hTa,fT,hT,hdT,h3⟩:=id f1
 refine Ua (UM he hd hv ?_)
 rw[Ud (show ¬((Value.ref T == Value.none)=true) from by simp)]
 refine Jr (X:=xon X pn) (fo:=X.env.frame) I1 f1.t λh2 T oT ts oe vs I2 a1 a2 a3 a4 a5 a6 a7 a8 a9 a10=>?_
 rw[hf]at a10
 exact⟨a,x,σ,H,rfl,I2,FlN.fl ⟨fp,ln,oe,vs,T,oT,ts,a1,a2,a3,a4,a5,a6,a7,a8,a10⟩,q⟩
end
noncomputable def CXW(P:Program)(w:World)(ca:Nat->Addr):CXT:=λouter H s E v s'=>∃(a:Addr)(x:Xc)(H':Hp),v=.ref a/\s'.os=s.os/\AllBare s'.gens/\Un (frs outer) [] H H' s.heap s'.heap/\HOk P w H' s'.heap/\x.2=none /\
 (∃oe vs T oT ts,s.heap.get? a=none/\H' a=none/\s'.heap.get? a=some oe/\XOb ca x oe/\oe.data=.fields vs/\vs[1]?=some (.ref T)/\T≠a/\s.heap.get? T=none/\H' T=none/\s'.heap.get? T=some oT/\oT.data=.fields ts/\ts[3]?=some .none) /\
 E (.int x.1 0) x.2 H'
section
variable{P:Program}{w:World}{K:Frag}{mg:Str->Option Value}{base:Heap}{ca:Nat->Addr}
theorem Qjz{N:List Str}{qual:Str}{scope:Scope}{f:Addr}{cd:Value}{A:Around}{outer:List Env}{s s':Shared}{H:Hp}{E:XK}{v:Value}(h:XE (xon (cxOf (CXW P w ca) P w K mg base N qual scope f cd A outer s H E) []) ca (λx _ H'=>E (.int x.1 0) x.2 H') v s'):(cxOf (CXW P w ca) P w K mg base N qual scope f cd A outer s H E).xe v s':=by
 obtain⟨a,x,σ,H',rfl,I,fl,q⟩:=h
 show wpAny _ _ (leaving _ (.ref a)) _ _ s'
 unfold leaving
 refine Ua (Qe0 I rfl rfl fl λh1 I1 f1=>?_)
 obtain⟨fp,ln,_⟩:=id f1
 refine Jr (fo:=none) I1 f1.t λh2 T oT ts oe vs I2 a1 a2 a3 a4 a5 a6 a7 a8 a9 a10=>?_
 refine⟨a,x,H',rfl,I2.os,I2.bare,I2.base,I2.hok,ln,⟨oe,vs,T,oT,ts,?_,fp.1,a1,a2,a3,a4,a5,?_,a6.1,a7,a8,a10⟩,q⟩
 ·rcases fp.2.2.2.1 with z|z
  ·exact absurd (show a∈([]:List Addr) from z) (by simp)
  ·exact z
 ·rcases a6.2.2.2.1 with z|z
  ·exact absurd (show T∈([]:List Addr) from z) (by simp)
  ·exact z
end
section
variable{X:Cx}{ca:Nat->Addr}{pn:List (Addr×Obj)}{Φ:XS}
theorem QhK{pins:List (Addr×Obj)}{σ:L2.St}{H:Hp}{s s':Shared}{v:Value}(I:Inv (xat X ca pn Φ) pins σ H s)(h:CXW X.prog X.w ca X.stack H s (λc l H'=>∀x:Xc,c=.int x.1 0->l=x.2->Φ x σ H') v s'):(xat X ca pn Φ).xe v s':=by
 obtain⟨a,x,H',rfl,os,bare,un,hok,ln,⟨oe,vs,T,oT,ts,e1,e2,e3,e4,e5,e6,e7,e8,e9,e10,e11,e12⟩,q⟩:=h
 have I0:Inv (xon X pn) [] σ H s:=(QkL I).pins_of λp hp=>absurd hp (by simp)
 have I1:Inv (xon X pn) [] σ H' s':=Inv.call' (ch:=[]) I0 os un hok bare λb z=>absurd z (by simp)
 refine⟨a,x,σ,H',rfl,I1,⟨QfM I0 e1 e2,ln,oe,vs,e3,e4,e5,(U4.mp e6).1,.inr ⟨T,oT,ts,e6,e7,QfM I0 e8 e9,e10,e11,(U4.mp e12).1,.inl e12⟩⟩,q x rfl rfl⟩
end
section
variable{X:Cx}{ca:Nat->Addr}{a b c e:Expr}{st:Stmt}{sts rest:List Stmt}{ma mb me:ME}{tc:MT}{m m':MS}{pos:Pos}
theorem Qu:PSs3 ca X [] QB:=λpn Φ=>QfK (Qhm (X:=xat X ca pn Φ)) λ_ σ H ⟨_,_,μ,R,p⟩=>p σ H μ .refl R
theorem Qm5{K:Frag}{Φ:XS}(E:Ends)(σ:L2.St)(H:Hp)(h:upS K ca Φ (mSeq m m') E σ H):tSeq (upS K ca Φ m) (upS K ca Φ m') E σ H:=by
 obtain⟨σ3,g,μ,R,p⟩:=h
 refine⟨σ3,g,μ,R,?_⟩
 unfold mSeq at p
 cases hm:m σ3 g with
 |nx σ1 g1 =>
  rw[hm]at p
  exact λσ' H' μ' e' R'=>⟨σ1,g1,μ',R',PostS.go e' p⟩
 |rt d g1=>rw[hm]at p;exact p
 |bk _ _=>rw[hm]at p;exact p
 |ct _ _=>rw[hm]at p;exact p
 |raise _ _ _=>rw[hm]at p;exact p
 |stuck=>rw[hm]at p;exact p
theorem Qc(h1:PS3 ca X st m)(h2:PSs3 ca X rest m'):PSs3 ca X (st::rest) (mSeq m m'):=λpn Φ=>QfK (Qjm (X:=xat X ca pn Φ) (h1 pn Φ) (h2 pn Φ)) Qm5
theorem Qh(h1:PS3 ca X st m):PSs3 ca X [st] m:=λpn Φ=>Qk7 (X:=xat X ca pn Φ) (h1 pn Φ)
theorem Qdm:PS3 ca X st QbZ:=λpn Φ=>Ys (Qjn (X:=xat X ca pn Φ)) λ_ _ _ ⟨_,_,_,_,p⟩=>p
theorem ZI(he:PE3 ca X e me)(hs:swapsWith e none pos.line X.env=pure false:=by rfl):PS3 ca X (.Expr e pos) (Zh me) :=
 λpn Φ=>Ys (Qk8 (X:=xat X ca pn Φ) (he pn Φ) hs) λE σ H ⟨σ3,g,μ,R,p⟩=>⟨σ3,g,μ,R,by
  unfold Zh at p
  cases hm:me σ3 g with
  |ok d g1=>rw[hm]at p;exact λv H' μ' e' r' _=>p σ H' μ' e' (R.go e' r')
  |raise _ _=>rw[hm]at p;exact RaP.stmt R p
  |stuck=>rw[hm]at p;exact p⟩
theorem QJ(he:PE3 ca X e me):PS3 ca X (.Return (some e) pos) (mRet me) :=
 λpn Φ=>Ys (QmB (X:=xat X ca pn Φ) (he pn Φ)) λE σ H ⟨σ3,g,μ,R,p⟩=>⟨σ3,g,μ,R,by
  unfold mRet at p
  cases hm:me σ3 g with
  |ok d g1=>rw[hm]at p;exact p
  |raise _ _=>rw[hm]at p;exact RaP.stmt R p
  |stuck=>rw[hm]at p;exact p⟩
theorem Qm6:PS3 ca X (.Return none pos) Qlt:=λpn Φ=>Ys (Qk9 (X:=xat X ca pn Φ)) λ_ σ H ⟨_,_,μ,R,p⟩=>p .non H μ .refl R.g .non
theorem r_if{sa sb:List Stmt}(hc:PT3 ca X c tc)(ha:PSs3 ca X sa m)(hb:PSs3 ca X sb m'):PS3 ca X (.If c sa sb pos) (mIf tc m m') :=
 λpn Φ=>Ys (Qog (X:=xat X ca pn Φ) (hc pn Φ) (ha pn Φ) (hb pn Φ)) λE σ H ⟨σ3,g,μ,R,p⟩=>⟨σ3,g,μ,R,by
  unfold mIf at p
  cases hm:tc σ3 g with
  |ok d g1 =>
   rw[hm]at p
   cases d with
   |true=>exact λH' μ' e' r'=>by show(if true=true then _ else _);rw[Uc rfl];exact⟨σ3,g1,μ',R.go e' r',PostS.go e' (by simpa using p)⟩
   |false=>exact λH' μ' e' r'=>by show(if false=true then _ else _);rw[Ud Ue];exact⟨σ3,g1,μ',R.go e' r',PostS.go e' (by simpa using p)⟩
  |raise _ _=>rw[hm]at p;exact RaP.stmt R p
  |stuck=>rw[hm]at p;exact p⟩
noncomputable def upG(K:Frag)(ca:Nat->Addr)(f:MG):TG:=λv σ H Q=>∃σ3 g μ d σ3',Rep K ca μ σ3 g σ H/\Den K μ H v d/\f d σ3=some σ3'/\∀σ',Rep K ca μ σ3' g σ' H->Q σ' H
def PG3(ca:Nat->Addr)(X:Cx)(tg:Expr)(f:MG):Prop:=∀pn Φ,PG (xat X ca pn Φ) tg (upG X.K ca f)
theorem QhL{X:Cx}{tg:Expr}{t t':TG}(h:PG X tg t)(i:∀v σ H Q,t' v σ H Q->t v σ H Q):PG X tg t':=λpins s σ H x u Q I r q=>h pins s σ H x u Q I r (i x σ H Q q)
theorem Rep.set{K:Frag}{μ:List Addr}{σ3:S3}{g:G}{σ:L2.St}{H:Hp}{v:V}{d:D}(R:Rep K ca μ σ3 g σ H)(h:Den K μ H v d)(i:Nat):Rep K ca μ (σ3.set i (some d)) g (σ.set i (some v)) H:=by
 refine⟨R.g,by rw[Ti,Ti,R.len],λj x hx=>?_⟩
 by_cases e:j=i
 ·subst e
  have hl:j<σ3.length:=by
   have:=(Uj.mp hx).1
   simpa using this
  rw[UZ hl]at hx
  cases hx
  exact⟨v,by rw[UZ (by rw[R.len];exact hl)],h⟩
 ·rw[Ug (Ne.symm e)]at hx
  obtain⟨w,h1,h2⟩:=R.st j x hx
  exact⟨w,by rw[Ug (Ne.symm e)];exact h1,h2⟩
theorem Qv(i:Nat){x:Str}(hN:X.N.Nodup)(hi:X.N[i]?=some x:=by rfl)(hx:Loc X.env.scope x:=by first|exact Or.inl rfl|exact Or.inr rfl)(hf:X.fn x=true\/X.env.scope.names.lookup x=some .local:=by first|exact .inl rfl|exact .inr rfl):PG3 ca X (.Name x pos) (gSet i) :=
 λpn Φ=>QhL (Qla (X:=xat X ca pn Φ) hN hi hx hf) λv σ H Q hQ=>by
  obtain⟨σ3,g,μ,d,σ3',R,q,e,k⟩:=hQ
  cases e
  exact k _ (R.set q i)
noncomputable def upGs(K:Frag)(ca:Nat->Addr)(fs:List MG):TGs:=λvs σ H Q=>∃σ3 g μ ds σ3',Rep K ca μ σ3 g σ H/\Dens K μ H vs ds/\QeW fs ds σ3=some σ3'/\∀σ',Rep K ca μ σ3' g σ' H->Q σ' H
def PGs3(ca:Nat->Addr)(X:Cx)(tgs:List Expr)(fs:List MG):Prop:=∀pn Φ,PGs (xat X ca pn Φ) tgs (upGs X.K ca fs)
theorem QfP{X:Cx}{tg:List Expr}{t t':TGs}(h:PGs X tg t)(i:∀v σ H Q,t' v σ H Q->t v σ H Q):PGs X tg t':=λpins s σ H xs us Q I r q=>h pins s σ H xs us Q I r (i xs σ H Q q)
theorem J8:PGs3 ca X [] []:=λpn Φ=>QfP (Qlb (X:=xat X ca pn Φ)) λvs σ H Q hQ=>by
 obtain⟨σ3,g,μ,ds,σ3',R,q,e,k⟩:=hQ
 cases q with
 |nil=>cases e;exact⟨rfl,k _ R⟩
 |cons _ _=>cases e
theorem QH{es:List Expr}{f:MG}{fs:List MG}(h1:PG3 ca X e f)(h2:PGs3 ca X es fs)(hs:(assignEach (e::es) X.env).map (·.2)=assign e X.env::(assignEach es X.env).map (·.2):=by rfl):PGs3 ca X (e::es) (f::fs) :=
 λpn Φ=>QfP (Qjo (X:=xat X ca pn Φ) (h1 pn Φ) (h2 pn Φ) hs) λvs σ H Q hQ=>by
  obtain⟨σ3,g,μ,ds,σ3',R,q,e,k⟩:=hQ
  cases q with
  |nil=>cases e
  |@cons v d vs ds q1 q2 =>
   unfold QeW at e
   cases hf:f d σ3 with
   |none=>rw[hf]at e;cases e
   |some σ4 =>
    rw[hf]at e
    exact⟨v,vs,rfl,σ3,g,μ,d,σ4,R,q1,hf,λσ' R'=>⟨σ4,g,μ,ds,σ3',R',q2,e,k⟩⟩
theorem Qec:∀{fs:List MG}{ds:List D}{σ σ':S3},QeW fs ds σ=some σ'->ds.length=fs.length
 |[],[],_,_,_=>rfl
 |[],_::_,_,_,h=>by cases h
 |_::_,[],_,_,h=>by cases h
 |f::fs,d::ds,σ,σ',h=>by
  unfold QeW at h
  cases hf:f d σ with
  |none=>rw[hf]at h;cases h
  |some σ4 =>
   rw[hf]at h
   rw[UR,UR,Qec (fs:=fs) h]
theorem J9{es:List Expr}{k:Nat}{fs:List MG}(hc:X.calm=true)(h:PGs3 ca X es fs)(hn:(assignEach es X.env).length=fs.length:=by rfl)(hst:(assignEach es X.env).findIdx? (·.1)=none:=by rfl):PG3 ca X (.Tuple es k pos) (Yl fs) :=
 λpn Φ=>QhL (QmE (X:=xat X ca pn Φ) hc (h pn Φ) hn hst) λv σ H Q hQ=>by
  obtain⟨σ3,g,μ,d,σ3',R,q,e,kk⟩:=hQ
  cases q with
  |@tup a vs ds ht hs =>
   exact⟨a,vs,rfl,ht,hs.length.trans (Qec e),σ3,g,μ,ds,σ3',R,hs,e,kk⟩
  |_=>cases e
theorem Qm7{K:Frag}{Φ:XS}{f:MG}(E:Ends)(σ:L2.St)(H:Hp)(h:upS K ca Φ (mAsg f me) E σ H):tAsg (up K ca Φ me) (upG K ca f) E σ H:=by
 obtain⟨σ3,g,μ,R,p⟩:=h
 refine⟨σ3,g,μ,R,?_⟩
 unfold mAsg at p
 cases hm:me σ3 g with
 |ok d g1 =>
  rw[hm]at p
  dsimp only at p
  intro v H' μ' e' r' q'
  cases hf:f d σ3 with
  |none=>rw[hf]at p;exact p.elim
  |some σ4 =>
   rw[hf]at p
   exact⟨σ3,g1,μ',d,σ4,R.go e' r',q',hf,λσ' R'=>p σ' H' μ' e' R'⟩
 |raise _ _=>rw[hm]at p;exact RaP.stmt R p
 |stuck=>rw[hm]at p;exact p
theorem Qe1{tg:Expr}{f:MG}(he:PE3 ca X e me)(hg:PG3 ca X tg f)(hs:swapsWithSole [tg] e pos.line X.env=pure false:=by rfl)(hw:swappedStores [tg] e X.env=pure none:=by rfl)(h1:(assignEach [tg] X.env).map (·.2)=[assign tg X.env]:=by rfl):PS3 ca X (.Assign [tg] e pos) (mAsg f me) :=
 λpn Φ=>Ys (Qhn (X:=xat X ca pn Φ) (he pn Φ) (hg pn Φ) hs hw h1) Qm7
theorem Qor(i:Nat){x:Str}{pos':Pos}(hN:X.N.Nodup)(he:PE3 ca X e me)(hi:X.N[i]?=some x:=by rfl)(hx:Loc X.env.scope x:=by first|exact Or.inl rfl|exact Or.inr rfl)(hs:swapsWith e (some (.Name x pos')) pos.line X.env=pure false:=by rfl)(hf:X.fn x=true\/X.env.scope.names.lookup x=some .local:=by first|exact .inl rfl|exact .inr rfl):
  PS3 ca X (.Assign [.Name x pos'] e pos) (mAsg (gSet i) me) :=
 λpn Φ=>Ys (QmF (X:=xat X ca pn Φ) hN hi hx (he pn Φ) hs hf) λE σ H h=>by
  obtain⟨σ3,g,μ,R,p⟩:=h
  refine⟨σ3,g,μ,R,?_⟩
  unfold mAsg gSet at p
  cases hm:me σ3 g with
  |ok d g1 =>
   rw[hm]at p
   exact λv H' μ' e' r' q'=>p _ H' μ' e' ((R.go e' r').set q' i)
  |raise _ _=>rw[hm]at p;exact RaP.stmt R p
  |stuck=>rw[hm]at p;exact p
structure FldOk(K:Frag)(ca:Nat->Addr)(cs:List Nat)(f:Str):Prop where
 cl:∀c∈cs,Cls K (ca c)
 no:∀c∈cs,NoAttr K (ca c) f
theorem FRel.look{K:Frag}{μ:List Addr}{H:Hp}{f:Str}{d:D}:∀{fv:List (Str×V)}{fs:List (Str×D)},FRel K μ H fv fs->fs.lookup f=some d->∃v,fv.lookup f=some v/\Den K μ H v d
 |_,_,.nil,h=>by cases h
 | (k,v)::r,(k',d')::r',.cons ⟨e,q⟩ t,h=>by
  have e:k=k':=e
  subst e
  cases hb:f == k with
  |true =>
   simp only[List.lookup,hb]at h ⊢
   cases h
   exact⟨v,rfl,q⟩
  |false =>
   simp only[List.lookup,hb]at h ⊢
   exact FRel.look t h
theorem FRel.no{K:Frag}{μ:List Addr}{H:Hp}{f:Str}:∀{fv:List (Str×V)}{fs:List (Str×D)},FRel K μ H fv fs->fs.lookup f=Option.none->fv.lookup f=Option.none
 |_,_,.nil,_=>rfl
 | (k,v)::r,(k',d')::r',.cons ⟨e,q⟩ t,h=>by
  have e:k=k':=e
  subst e
  cases hb:f == k with
  |true=>simp only[List.lookup,hb]at h;cases h
  |false =>
   simp only[List.lookup,hb]at h ⊢
   exact FRel.no t h
theorem FRel.put{K:Frag}{μ:List Addr}{H:Hp}{f:Str}{v:V}{d:D}(q:Den K μ H v d):∀{fv:List (Str×V)}{fs:List (Str×D)},FRel K μ H fv fs->FRel K μ H (putF f v fv) (putG f d fs)
 |_,_,.nil=>.cons ⟨rfl,q⟩ .nil
 | (k,w)::r,(k',d')::r',.cons ⟨e,z⟩ t=>by
  have e:k=k':=e
  subst e
  show FRel K μ H (if k=f then (k,v)::r else (k,w)::putF f v r) (if k=f then (k,d)::r' else (k,d')::putG f d r')
  by_cases h:k=f
  ·rw[Uc h,Uc h];exact .cons ⟨rfl,q⟩ t
  ·rw[Ud h,Ud h];exact .cons ⟨rfl,z⟩ (FRel.put q t)
theorem ZJ{cs:List Nat}{f:Str}(he:PE3 ca X e me)(ok:FldOk X.K ca cs f)(hb:attributeBase e f X.env (eval e X.env)=eval e X.env:=by rfl):PE3 ca X (.Attribute e f pos) (Yb cs f me) :=
 λpn Φ=>Za (QmP (X:=xat X ca pn Φ) (he pn Φ) hb) λσ H Q ⟨σ3,g,μ,R,p⟩=>Q5 (Jo R p) λx H1 hQ=>by
  obtain⟨d,g1,μ1,e1,R1,q1,p1⟩:=hQ
  cases q1 with
  |@ref n a hn =>
   dsimp only at p1
   cases hg:g1[n]? with
   |none=>rw[hg]at p1;exact p1.elim
   |some o =>
    rw[hg]at p1
    obtain⟨a',ha',ob⟩:=R1.g.addr hg
    rw[hn]at ha';cases ha'
    cases o with
    |ins c fs =>
     dsimp only at p1
     obtain⟨dx,fv,hH,fr⟩:=ob
     by_cases hc:c∈cs
     ·rw[Uc hc]at p1
      cases hl:fs.lookup f with
      |none=>rw[hl]at p1;exact p1.elim
      |some y =>
       rw[hl]at p1
       obtain⟨v,h1,h2⟩:=fr.look hl
       exact⟨a,ca c,dx,fv,v,rfl,hH,ok.cl c hc,ok.no c hc,h1,p1 v H1 μ1 .refl R1.g h2⟩
     ·rw[Ud hc]at p1;exact p1.elim
    |_=>exact p1.elim
  |_=>exact p1.elim
theorem ZK{o:Expr}{mo:ME}{cs:List Nat}{f:Str}{pos':Pos}(ho:PE3 ca X o mo)(he:PE3 ca X e me)(ok:FldOk X.K ca cs f)(hs:swapsWith e (some (.Attribute o f pos')) pos.line X.env=pure false:=by rfl):
  PS3 ca X (.Assign [.Attribute o f pos'] e pos) (QW cs f mo me) :=
 λpn Φ=>Ys (QmQ (X:=xat X ca pn Φ) (ho pn Φ) (he pn Φ) hs) λE σ H ⟨σ3,g,μ,R,p⟩=>⟨σ3,g,μ,R,by
  unfold QW at p
  cases hm:me σ3 g with
  |ok y g1 =>
   rw[hm]at p
   dsimp only at p
   intro vy H1 μ1 e1 r1 q1
   refine⟨σ3,g1,μ1,R.go e1 r1,?_⟩
   cases hm2:mo σ3 g1 with
   |ok d g2 =>
    rw[hm2]at p
    intro vx H2 μ2 e2 r2 q2
    cases q2 with
    |@ref n a hn =>
     dsimp only at p
     cases hg:g2[n]? with
     |none=>rw[hg]at p;exact p.elim
     |some ob =>
      rw[hg]at p
      obtain⟨a',ha',orp⟩:=r2.addr hg
      rw[hn]at ha';cases ha'
      cases ob with
      |ins c fs =>
       dsimp only at p
       obtain⟨dx,fv,hH,fr⟩:=orp
       by_cases hc:c∈cs/\fs.length<100
       ·rw[Uc hc]at p
        have fl:fv.length=fs.length:=Paired.length fr
        refine⟨a,ca c,dx,fv,rfl,hH,ok.cl c hc.1,ok.no c hc.1,by omega,?_⟩
        have ex:Ext X.K μ2 H2 μ2 (upd H2 a (.ins (ca c) dx (putF f vy fv))):=J4 hH (by intro _ z;cases z) (by intro _ _ z;cases z)
        refine p σ _ μ2 ((e1.trans e2).trans ex) ((R.go (e1.trans e2) r2).go ex ?_)
        exact r2.set hn hH (by intro _ z;cases z) (by intro _ _ z;cases z) ⟨dx,_,Qn,FRel.put ((q1.mono e2).mono ex) (fr.mono ex)⟩
       ·rw[Ud hc]at p;exact p.elim
      |_=>exact p.elim
    |_=>exact p.elim
   |raise _ _=>rw[hm2]at p;exact(RaP.stmt R p).go e1
   |stuck=>rw[hm2]at p;exact p
  |raise _ _=>rw[hm]at p;exact RaP.stmt R p
  |stuck=>rw[hm]at p;exact p⟩
theorem QaE{o i:Expr}{mo mi:ME}{pos':Pos}(ho:PE3 ca X o mo)(hi:PE3 ca X i mi)(he:PE3 ca X e me)(hs:swapsWithSole [.Subscript o i pos'] e pos.line X.env=pure false:=by rfl)(hw:swappedStores [.Subscript o i pos'] e X.env=pure none:=by rfl)(h1:(assignEach [.Subscript o i pos'] X.env).map (·.2)=[assign (.Subscript o i pos') X.env]:=by rfl)(ha:∀v,assign (.Subscript o i pos') X.env v=(do
   let ov <-holding [v] (eval o X.env)
   let iv <-holding [v,ov] (eval i X.env)
   standAt pos'
   holding [v,ov,iv] (setItem ov iv v)
   release [v,ov,iv] []):=by intro _;rfl):PS3 ca X (.Assign [.Subscript o i pos'] e pos) (Z1 mo mi me) :=
 λpn Φ=>Ys (Qhn (X:=xat X ca pn Φ) (he pn Φ) (QkC (X:=xat X ca pn Φ) (ho pn Φ) (hi pn Φ) Qjw ha) hs hw h1) λE σ H ⟨σ3,g,μ,R,p⟩=>⟨σ3,g,μ,R,by
  unfold Z1 at p
  cases hm:me σ3 g with
  |ok y g1 =>
   rw[hm]at p
   dsimp only at p
   intro vy H1 μ1 e1 r1 q1
   refine⟨σ3,g1,μ1,R.go e1 r1,?_⟩
   cases hm2:mo σ3 g1 with
   |ok d g2 =>
    rw[hm2]at p
    intro vx H2 μ2 e2 r2 q2
    cases q2 with
    |@ref n a hn =>
     dsimp only at p
     refine⟨σ3,g2,μ2,R.go (e1.trans e2) r2,?_⟩
     cases hm3:mi σ3 g2 with
     |ok di g3 =>
      rw[hm3]at p
      intro vi H3 μ3 e3 r3 q3
      cases q3 with
      |int k =>
       dsimp only at p
       cases hg:g3[n]? with
       |none=>rw[hg]at p;exact p.elim
       |some ob =>
        rw[hg]at p
        obtain⟨a',ha',orp⟩:=r3.addr hg
        rw[e3.at hn]at ha';cases ha'
        cases ob with
        |lst ds =>
         dsimp only at p
         obtain⟨vs,hH,q⟩:=orp
         cases hj:ixD ds.length k with
         |none=>rw[hj]at p;exact p.elim
         |some j =>
          rw[hj]at p
          have ex:Ext X.K μ3 H3 μ3 (upd H3 a (.lst (vs.set j vy))):=J4 hH (by intro _ z;cases z) (by intro _ _ z;cases z)
          refine⟨a,vs,k,j,rfl,rfl,hH,by rw[q.length];exact hj,?_⟩
          refine p σ _ μ3 (((e1.trans e2).trans e3).trans ex) ((R.go ((e1.trans e2).trans e3) r3).go ex ?_)
          exact r3.set (e3.at hn) hH (by intro _ z;cases z) (by intro _ _ z;cases z) ⟨_,Qn,Dens.set (((q1.mono e2).mono e3).mono ex) j (q.mono ex)⟩
        |_=>exact p.elim
      |_=>exact p.elim
     |raise _ _=>rw[hm3]at p;exact(RaP.stmt R p).go (e1.trans e2)
     |stuck=>rw[hm3]at p;exact p
    |_=>exact p.elim
   |raise _ _=>rw[hm2]at p;exact(RaP.stmt R p).go e1
   |stuck=>rw[hm2]at p;exact p
  |raise _ _=>rw[hm]at p;exact RaP.stmt R p
  |stuck=>rw[hm]at p;exact p⟩
noncomputable def Sim(K:Frag)(ca:Nat->Addr)(μ0:List Addr)(H0:Hp)(src:Src)(J:It):Prop :=
 ∀(i:Nat)(H:Hp)(μ:List Addr)(g:G),Ext K μ0 H0 μ H->GRep K ca μ H g->match src.at' g i with
  |some (some d)=>J.go i H/\∀x H',J.yld i H x H'->Ext K μ H μ H'/\GRep K ca μ H' g/\Den K μ H' x d
  |some none=>J.stop i H
  |none=>True
noncomputable def upI(K:Frag)(ca:Nat->Addr)(Φ:XS)(m:MI):TI:=λσ H R=>∃σ3 g μ,Rep K ca μ σ3 g σ H/\match m σ3 g with
 |.ok src g'=>∀J H' μ',Ext K μ H μ' H'->GRep K ca μ' H' g'->Sim K ca μ' H' src J->R J H'
 |.raise x g'=>RaP K ca Φ σ H μ x g'
 |.stuck=>False
def PI3(ca:Nat->Addr)(X:Cx)(tg iter:Expr)(m:MI):Prop:=∀pn Φ,PI (xat X ca pn Φ) tg iter (upI X.K ca Φ m)
theorem QaF{tg iter:Expr}{body:List Stmt}{mi:MI}{f:MG}(hc:X.calm=true)(hi:PI3 ca X tg iter mi)(hg:PG3 ca X tg f)(hb:PSs3 ca X body m)(hs:∀x,foldedSetIterable iter X.env x=pure x:=by intro _;rfl)(hk:X.stack=X.env::X.outer:=by rfl)(hf:X.env.frame=some X.env.locals:=by rfl):
  PS3 ca X (.For tg iter body [] pos) (mFor mi f m) :=
 λpn Φ=>Ys (QmH (X:=xat X ca pn Φ) (QkM hk hf pn Φ) hc (hi pn Φ) (hg pn Φ) (hb pn Φ) hs) λE σ H ⟨σ3,g,μ,R,p⟩=>⟨σ3,g,μ,R,by
  unfold mFor at p
  cases hm:mi σ3 g with
  |ok src g' =>
   rw[hm]at p
   dsimp only at p ⊢
   intro J H' μ' e' r' sim
   refine⟨λi n σ1 H1=>∃σ4 g1 μ1,Ext X.K μ' H' μ1 H1/\Rep X.K ca μ1 σ4 g1 σ1 H1/\PostS X.K ca Φ E H1 μ1 (forL src f m n i σ4 g1),⟨src.top+1,σ3,g',μ',.refl,R.go e' r',p.go e'⟩,?_⟩
   rintro i n σ1 H1 ⟨σ4,g1,μ1,e1,R1,p1⟩
   have s1:=sim i H1 μ1 g1 e1 R1.g
   cases n with
   |zero=>exact p1.elim
   |succ n =>
    unfold forL at p1
    cases ha:src.at' g1 i with
    |none=>rw[ha]at p1;exact p1.elim
    |some od =>
     rw[ha]at p1 s1
     cases od with
     |none=>exact .inl ⟨s1,p1 σ1 H1 μ1 .refl R1⟩
     |some d =>
      dsimp only at p1 s1
      obtain⟨go,yl⟩:=s1
      refine .inr ⟨go,λσ2 H2=>∃σ5 g2 μ2,Ext X.K μ' H' μ2 H2/\Rep X.K ca μ2 σ5 g2 σ2 H2/\PostS X.K ca Φ E H2 μ2 (forL src f m n (i+1) σ5 g2),λσ2 H2 z=>⟨n,Ta n,z⟩,λx H2 y=>?_⟩
      obtain⟨e2,r2,q2⟩:=yl x H2 y
      cases hf:f d σ4 with
      |none=>rw[hf]at p1;exact p1.elim
      |some σ5 =>
       rw[hf]at p1
       dsimp only at p1
       refine⟨σ4,g1,μ1,d,σ5,R1.go e2 r2,q2,hf,λσ6 R6=>⟨σ5,g1,μ1,R6,?_⟩⟩
       cases hb:m σ5 g1 with
       |nx σ7 g7 =>
        rw[hb]at p1
        exact λσ' H3 μ3 e3 R3=>⟨σ7,g7,μ3,(e1.trans e2).trans e3,R3,PostS.go (e2.trans e3) p1⟩
       |ct σ7 g7 =>
        rw[hb]at p1
        exact λσ' H3 μ3 e3 R3=>⟨σ7,g7,μ3,(e1.trans e2).trans e3,R3,PostS.go (e2.trans e3) p1⟩
       |bk σ7 g7 =>
        rw[hb]at p1
        exact λσ' H3 μ3 e3 R3=>p1 σ' H3 μ3 (e2.trans e3) R3
       |rt d7 g7 =>
        rw[hb]at p1
        exact λv H3 μ3 e3 r3 q3=>p1 v H3 μ3 (e2.trans e3) r3 q3
       |raise _ _ _ =>
        rw[hb]at p1
        exact λσ' H3 μ3 e3 R3=>p1 σ' H3 μ3 (e2.trans e3) R3
       |stuck=>rw[hb]at p1;exact p1
  |raise _ _=>rw[hm]at p;exact RaP.stmt R p
  |stuck=>rw[hm]at p;exact p⟩
theorem QhM{body:List Stmt}(hc:PT3 ca X c tc)(hb:PSs3 ca X body m)(hk:X.stack=X.env::X.outer:=by rfl)(hf:X.env.frame=some X.env.locals:=by rfl):PS3 ca X (.While c body [] pos) (Qb0 tc m) :=
 λpn Φ=>Ys (Qjp (X:=xat X ca pn Φ) (QkM hk hf pn Φ) (hc pn Φ) (hb pn Φ)) λE σ H hQ=>by
  obtain⟨σ3,g,μ,R,p⟩:=hQ
  unfold Qb0 at p
  by_cases hh:∃f,ZH tc m f σ3 g≠.stuck
  ·rw[dif_pos hh]at p
   generalize hh.choose=k at p
   refine⟨λn σ1 H1=>∃σ4 g1 μ1,Ext X.K μ H μ1 H1/\Rep X.K ca μ1 σ4 g1 σ1 H1/\PostS X.K ca Φ E H1 μ1 (ZH tc m n σ4 g1),⟨k,σ3,g,μ,.refl,R,p⟩,?_⟩
   rintro n σ1 H1 ⟨σ4,g1,μ1,e1,R1,p1⟩
   cases n with
   |zero=>exact p1.elim
   |succ n =>
    unfold ZH at p1
    refine⟨σ4,g1,μ1,R1,?_⟩
    cases ht:tc σ4 g1 with
    |ok t g2 =>
     rw[ht]at p1
     cases t with
     |true =>
      dsimp only at p1
      intro H2 μ2 e2 r2
      rw[Uc rfl]
      refine⟨λσ2 H3=>∃σ5 g3 μ3,Ext X.K μ H μ3 H3/\Rep X.K ca μ3 σ5 g3 σ2 H3/\PostS X.K ca Φ E H3 μ3 (ZH tc m n σ5 g3),λσ2 H3 z=>⟨n,Ta n,z⟩,σ4,g2,μ2,R1.go e2 r2,?_⟩
      cases hb:m σ4 g2 with
      |nx σ7 g7 =>
       rw[hb]at p1
       exact λσ' H3 μ3 e3 R3=>⟨σ7,g7,μ3,(e1.trans e2).trans e3,R3,PostS.go (e2.trans e3) p1⟩
      |ct σ7 g7 =>
       rw[hb]at p1
       exact λσ' H3 μ3 e3 R3=>⟨σ7,g7,μ3,(e1.trans e2).trans e3,R3,PostS.go (e2.trans e3) p1⟩
      |bk σ7 g7 =>
       rw[hb]at p1
       exact λσ' H3 μ3 e3 R3=>p1 σ' H3 μ3 (e2.trans e3) R3
      |rt d7 g7 =>
       rw[hb]at p1
       exact λv H3 μ3 e3 r3 q3=>p1 v H3 μ3 (e2.trans e3) r3 q3
      |raise _ _ _ =>
       rw[hb]at p1
       exact λσ' H3 μ3 e3 R3=>p1 σ' H3 μ3 (e2.trans e3) R3
      |stuck=>rw[hb]at p1;exact p1
     |false =>
      intro H2 μ2 e2 r2
      rw[Ud Ue]
      exact p1 σ1 H2 μ2 e2 (R1.go e2 r2)
    |raise _ _=>rw[ht]at p1;exact RaP.stmt R1 p1
    |stuck=>rw[ht]at p1;exact p1
  ·rw[dif_neg hh]at p;exact p.elim
end
noncomputable def spM(K:Frag)(ca:Nat->Addr)(n:Nat)(F:MF):Sp:=λvs H Q E=>vs.length=n/\∃ds g μ,GRep K ca μ H g/\Dens K μ H vs ds/\match F ds g with
 |.ok d g'=>∀v H' μ',Ext K μ H μ' H'->GRep K ca μ' H' g'->Den K μ' H' v d->Q v H'
 |.raise x g'=>∀H' μ',Ext K μ H μ' H'->GRep K ca μ' H' g'->E (.int x.1 0) x.2 H'
 |.stuck=>False
theorem QhN{K:Frag}{ca:Nat->Addr}{μ:List Addr}{H:Hp}{g:G}{vs:List V}{ds:List D}(N:List Str)(r:GRep K ca μ H g)(q:Dens K μ H vs ds):Rep K ca μ (ds.map some++List.replicate (N.length-vs.length) none) g (L2.start N vs) H:=by
 unfold L2.start
 refine⟨r,?_,λi d h=>?_⟩
 ·rw[Ux,Ux,Um,Um,q.length,UV,UV]
 ·by_cases hi:i<ds.length
  ·rw[Uw (by simpa using hi),Up]at h
   cases hd:ds[i]? with
   |none=>rw[hd]at h;cases h
   |some d' =>
    rw[hd]at h;cases h
    obtain⟨v,h1,h2⟩:=q.get hd
    refine⟨v,?_,h2⟩
    rw[Uw (by simpa[q.length]using hi),Up,h1];rfl
  ·rw[UD (by simpa using hi),TB]at h
   split at h <;> cases h
structure FnH(P:Program)(w:World)(K:Frag)(mg:Str->Option Value)(base:Heap)(ca:Nat->Addr)(x:Str)(k n:Nat)(F:MF):Prop where
 ex:∃(f:Addr)(fd:FuncData)(ps:List Str),FnOk P w K mg base (CXW P w ca) k f fd ps (spM K ca n F)/\mg x=some (.ref f)/\keepIn K (.ref f)=true/\Binds K fd ps []
 st:∀ds g,ds.length≠n->F ds g=.stuck
structure MtH(P:Program)(w:World)(K:Frag)(mg:Str->Option Value)(base:Heap)(ca:Nat->Addr)(c:Nat)(x:Str)(k n:Nat)(F:MF):Prop where
 ex:∃(f:Addr)(fd:FuncData)(ps:List Str),FnOk P w K mg base (CXW P w ca) k f fd ps (spM K ca n F)/\Meth K (ca c) x f/\Cls K (ca c)/\Binds K fd ps []
 st:∀ds g,ds.length≠n->F ds g=.stuck
structure MkH(P:Program)(w:World)(K:Frag)(mg:Str->Option Value)(base:Heap)(ca:Nat->Addr)(c:Nat)(x:Str)(k n:Nat)(F:MF):Prop where
 ex:∃(f:Addr)(fd:FuncData)(ps:List Str),FnOk P w K mg base (CXW P w ca) k f fd ps (spM K ca n F)/\Mk K (ca c) f/\mg x=some (.ref (ca c))/\Binds K fd ps []
 st:∀ds g,ds.length≠n->F ds g=.stuck
theorem QaG(k n:Nat)(m:MS):∀ds g,ds.length≠k->mDef k n m ds g=.stuck:=λds g h=>by unfold mDef;rw[Ud h]
theorem FnH.mono{P:Program}{w:World}{K:Frag}{mg:Str->Option Value}{base:Heap}{ca:Nat->Addr}{x:Str}{j k n:Nat}{F:MF}(h:FnH P w K mg base ca x j n F)(hj:j<=k):FnH P w K mg base ca x k n F:=by
 obtain⟨f,fd,ps,a,b⟩:=h.ex
 exact⟨⟨f,fd,ps,a.mono hj,b⟩,h.st⟩
section
variable{P:Program}{w:World}{K:Frag}{mg:Str->Option Value}{base:Heap}{ca:Nat->Addr}
theorem QhO{N:List Str}{qual:Str}{scope:Scope}{f:Addr}{cd:Value}{A:Around}{outer:List Env}{s:Shared}{H:Hp}{E:XK}{body:List Stmt}{t:TS}(h:PSs (xat (cxOf (CXW P w ca) P w K mg base N qual scope f cd A outer s H E) ca [] (λx _ H'=>E (.int x.1 0) x.2 H')) body t):PSs (cxOf (CXW P w ca) P w K mg base N qual scope f cd A outer s H E) body t:=λpins s1 σ H1 D I q =>
 UU (h pins s1 σ H1 D (Inv.wish I _) q) (λ_ _ z=>SP.unwish (X:=cxOf (CXW P w ca) P w K mg base N qual scope f cd A outer s H E) z) λ_ _ z=>Qjz z
theorem Qed{x qual:Str}{st:Stmt}{f:Addr}{fd:FuncData}{N ps:List Str}{k n j:Nat}{m:MS}(F:Fun K x qual st f fd)(S:FnScope N ps (Qg st))(hj:ps.length=j)(hn:N.length-ps.length=n)(h:∀(cdv:Value) (A:Around) (outer:List Env) (s:Shared) (H:Hp) (E:XK),Room k (A.deeper (envOfC qual (Qg st) s.heap.objs.size f cdv)) ->
   PSs3 ca (cxOf (CXW P w ca) P w K mg base N qual (Qg st) f cdv A outer s H E) (ZR st) m):FnOk P w K mg base (CXW P w ca) (k+1) f fd ps (spM K ca j (mDef j n m)):=by
 subst hj
 obtain⟨oc,od,kV,doc,pm,an,cdv,ct,osl,rfl,lk,hcd⟩:=F.ex
 refine QmS lk hcd S (λvs H Q E q=>q.1) λA outer s H vs Q E hr hsp=>?_
 obtain⟨hl,ds,g,μ,r,q,p⟩:=hsp
 refine⟨_,QhO (h cdv A outer s H E hr [] _),ds.map some++List.replicate n none,g,μ,?_,?_⟩
 ·have z:=QhN N r q
  rw[hl,hn]at z
  exact z
 ·unfold mDef at p
  rw[Uc (by rw[<-q.length,hl])]at p
  cases hm:m (ds.map some++List.replicate n none) g with
  |nx σ' g'=>rw[hm]at p;exact λσ'' H' μ' e' R'=>p .non H' μ' e' R'.g .non
  |rt d g'=>rw[hm]at p;exact p
  |bk _ _=>rw[hm]at p;exact p.elim
  |ct _ _=>rw[hm]at p;exact p.elim
  |raise _ _ _=>rw[hm]at p;exact λσ'' H' μ' e' R'=>p H' μ' e' R'.g
  |stuck=>rw[hm]at p;exact p.elim
noncomputable def EK(Φ:XS)(σ:L2.St):XK:=λc l H'=>∀x:Xc,c=.int x.1 0->l=x.2->Φ x σ H'
theorem QfQ{F:MF}{n:Nat}{Φ:XS}{σ:L2.St}{Q:VK}{H:Hp}{μ:List Addr}{vs:List V}{ds:List D}{g:G}(st:∀ds g,ds.length≠n->F ds g=.stuck)(r:GRep K ca μ H g)(q:Dens K μ H vs ds)(p:Post K ca Φ σ Q H μ (F ds g)):spM K ca n F vs H Q (EK Φ σ):=by
 have hl:vs.length=n:=by
  rw[q.length]
  apply Tu
  intro h
  rw[st ds g h]at p
  exact p
 refine⟨hl,ds,g,μ,r,q,?_⟩
 cases hF:F ds g with
 |ok d g'=>rw[hF]at p;exact p
 |raise x g' =>
  rw[hF]at p
  intro H' μ' e r' y e1 e2
  have:x=y:=by
   obtain⟨a,b⟩:=x
   obtain⟨c,d⟩:=y
   injection e1 with e1
   have e1:(a:Int)=(c:Int):=e1
   have e3:a=c:=by omega
   rw[e3,show b=d from e2]
  rw[<-this]
  exact p H' μ' e r'
 |stuck=>rw[hF]at p;exact p
end
section
variable{X:Cx}{ca:Nat->Addr}{e o:Expr}{es:List Expr}{me mo:ME}{mr:MA}{p pos apos:Pos}{k n:Nat}{F:MF}{pn:List (Addr×Obj)}{Φ:XS}
theorem QhP{f:Addr}{fd:FuncData}{ps:List Str}{pins:List (Addr×Obj)}{σ:L2.St}{H:Hp}{s:Shared}{Q:VK}{us:List Value}{vs:List V}(G:FnOk X.prog X.w X.K X.mg X.base (CXW X.prog X.w ca) k f fd ps (spM X.K ca n F))(hr:Room k X.A)(hb:Binds X.K fd ps [])(I:Inv (xat X ca pn Φ) pins σ H s)(r:Vals vs us)(h:spM X.K ca n F vs H Q (EK Φ σ)):wpAny (model X.prog X.w) X.A (call (.ref f) us) (EP (xat X ca pn Φ) pins σ Q) (xat X ca pn Φ).xe s:=by
 have hl:(us++[]).length=ps.length:=by rw[UY,<-r.length];exact G.len _ _ _ _ h
 have b:=hb s us I.kIn hl
 rw[UY]at b
 refine WQ (Wf (G.run X.A X.stack s H ⟨us,[]⟩ us vs Q (EK Φ σ) hr I.env0 b r h) λres s' hq=>?_)
 cases res with
 |error z=>exact QhK I hq
 |ok fl =>
  cases fl with
  |ret u=>exact I.after hq
  |_=>exact False.elim hq
theorem Qo{x:Str}(h:FnH X.prog X.w X.K X.mg X.base ca x k n F)(hr:Room k X.A)(ha:PA3 ca X (e::es) mr)(hg:Gl X x:=by rfl)(hdb:(x == ("__debug__" : Str))=false:=by decide)(he:starEach (e::es) X.env=(false,eval e X.env)::starEach es X.env:=by rfl)(hpl:(backTo pos (starEach es X.env)).any (·.1)=false:=by rfl):PE3 ca X (.Call (.Name x p) (e::es) [] pos) (Ql F mr):=by
 obtain⟨f,fd,ps,F1,m1,k1,b1⟩:=h.ex
 intro pn Φ pins s σ H Q I ⟨σ3,g,μ,R,q⟩
 refine T4 (QbR I hg m1 ?_ hdb)
 have z:upA X.K ca Φ mr σ H λvs H1=>spM X.K ca n F vs H1 Q (EK Φ σ):=Qam (Qea R q) λxs H1 ⟨ds,g1,μ1,e1,R1,q1,p1⟩=>QfQ h.st R1.g q1 p1
 refine RJ (h₀:=X.base) I.ok.mod.kin k1 (thn (ha pn Φ pos pins s σ H _ I z) λus s1 ⟨vs,H1,I1,r,q1⟩=>⟨I1.kIn,?_⟩) he hpl
 exact QhP F1 hr b1 I1 r q1
theorem QhQ{K:Frag}{c:Nat}{m:Str}{σ:L2.St}{H:Hp}{Q:VK}{α:Type}{kk:Nat->G->Res α}{R:Res α->Hp->List Addr->Prop}{d:D}{g:G}{μ:List Addr}{v:V}(r:GRep K ca μ H g)(hst:¬R .stuck H μ)(p:R (match d with
   |.ref i=>(match g[i]? with
    |some (.ins c' fs)=>if c'=c/\fs.lookup m=none then kk i g else .stuck
    |_=>.stuck)
   |_=>.stuck) H μ)(q:Den K μ H v d):∃a dx fv i,d=.ref i/\v=.ref a/\μ[i]?=some a/\H a=some (.ins (ca c) dx fv)/\fv.lookup m=none/\R (kk i g) H μ:=by
 cases q with
 |@ref i a hn =>
  dsimp only at p
  cases hg:g[i]? with
  |none=>rw[hg]at p;exact(hst p).elim
  |some ob =>
   rw[hg]at p
   obtain⟨a',ha',orp⟩:=r.addr hg
   rw[hn]at ha';cases ha'
   cases ob with
   |ins c' fs =>
    dsimp only at p
    obtain⟨dx,fv,hH,fr⟩:=orp
    by_cases hc:c'=c/\fs.lookup m=none
    ·rw[Uc hc]at p
     obtain⟨rfl,hl⟩:=hc
     exact⟨a,dx,fv,i,rfl,rfl,hn,hH,fr.no hl,p⟩
    ·rw[Ud hc]at p;exact(hst p).elim
   |_=>exact(hst p).elim
 |_=>exact(hst p).elim
theorem Qm8{c:Nat}{m:Str}{pl:Sem Bool}(h:MtH X.prog X.w X.K X.mg X.base ca c m k n F)(hr:Room k X.A)(ho:PE3 ca X o mo)(ha:PA3 ca X (e::es) mr)(hst:starEach (e::es) X.env=(false,eval e X.env)::starEach es X.env:=by rfl)(hpl:(backTo pos (starEach es X.env)).any (·.1)=false:=by rfl)(ht:eval (.Call (.Attribute o m apos) (e::es) [] pos) X.env=(do
   let ov <-eval o X.env
   standAt apos.atName
   let (f,first) <-holding [ov] (getMethod ov m pl)
   callWith pos f first (backTo pos (starEach (e::es) X.env)) (backToKw pos (keywordEach [] X.env))):=by rfl):PE3 ca X (.Call (.Attribute o m apos) (e::es) [] pos) (QcO c m F mo mr):=by
 obtain⟨f,fd,ps,F1,m1,k1,b1⟩:=h.ex
 intro pn Φ pins s σ H Q I ⟨σ3,g,μ,R,q⟩
 refine Wm (pl:=pl) (thn (ho pn Φ pins s σ H _ I (Jo R q)) λu s1 ⟨x,H1,I1,rx,d,g1,μ1,e1,R1,q1,p1⟩=>?_) ht
 obtain⟨a,dx,fv,i,rfl,rfl,hn,hH,hl,p2⟩:=QhQ (Q:=Q) (σ:=σ) (R:=λr H μ=>Post X.K ca Φ σ Q H μ r) (kk:=λi g=>(mr σ3 g).bind λxs g2=>F (.ref i::xs) g2) R1.g (λz=>z) p1 q1
 obtain rfl:u=Value.ref a:=rx
 refine QcZ I1 hH k1 m1 hl ?_
 have z:upA X.K ca Φ mr σ H1 λvs H2=>spM X.K ca n F (.ref a::vs) H2 Q (EK Φ σ):=Qam (Qea R1 p2) λxs H2 ⟨ds,g2,μ2,e2,R2,q2,p3⟩=>QfQ h.st R2.g (.cons (.ref (e2.at hn)) q2) p3
 refine RJ (first:=[.ref a]) (h₀:=X.base) I.ok.mod.kin m1.kp (thn (ha pn Φ pos pins s1 σ H1 _ I1 z) λus s2 ⟨vs,H2,I2,r,q2⟩=>⟨I2.kIn,?_⟩) hst hpl
 exact QhP (us:=.ref a::us) (vs:=.ref a::vs) F1 hr b1 I2 (.cons rfl r) q2
theorem Qe2{c:Nat}{m:Str}{pl:Sem Bool}(h:MtH X.prog X.w X.K X.mg X.base ca c m k n F)(hr:Room k X.A)(ho:PE3 ca X o mo)(ht:eval (.Call (.Attribute o m apos) [] [] pos) X.env=(do
   let ov <-eval o X.env
   standAt apos.atName
   let (f,first) <-holding [ov] (getMethod ov m pl)
   callWith pos f first (backTo pos (starEach [] X.env)) (backToKw pos (keywordEach [] X.env))):=by rfl):PE3 ca X (.Call (.Attribute o m apos) [] [] pos) (QcO c m F mo mNil):=by
 obtain⟨f,fd,ps,F1,m1,k1,b1⟩:=h.ex
 intro pn Φ pins s σ H Q I ⟨σ3,g,μ,R,q⟩
 refine Wm (pl:=pl) (thn (ho pn Φ pins s σ H _ I (Jo R q)) λu s1 ⟨x,H1,I1,rx,d,g1,μ1,e1,R1,q1,p1⟩=>?_) ht
 obtain⟨a,dx,fv,i,rfl,rfl,hn,hH,hl,p2⟩:=QhQ (Q:=Q) (σ:=σ) (R:=λr H μ=>Post X.K ca Φ σ Q H μ r) (kk:=λi g=>(mNil σ3 g).bind λxs g2=>F (.ref i::xs) g2) R1.g (λz=>z) p1 q1
 obtain rfl:u=Value.ref a:=rx
 refine QcZ I1 hH k1 m1 hl ?_
 exact callWith_K0 (first:=[.ref a]) I1.kIn m1.kp (QhP (us:=[.ref a]) (vs:=[.ref a]) F1 hr b1 I1 (.cons rfl .nil) (QfQ h.st R1.g (.cons (.ref hn) .nil) p2))
theorem QkN{c:Nat}{x:Str}(h:MkH X.prog X.w X.K X.mg X.base ca c x k n F)(hr:Room (k+1) X.A)(ha:PA3 ca X (e::es) mr)(hg:Gl X x:=by rfl)(hdb:(x == ("__debug__" : Str))=false:=by decide)(he:starEach (e::es) X.env=(false,eval e X.env)::starEach es X.env:=by rfl)(hpl:(backTo pos (starEach es X.env)).any (·.1)=false:=by rfl):PE3 ca X (.Call (.Name x p) (e::es) [] pos) (Qdj c F mr):=by
 obtain⟨f,fd,ps,F1,m1,k1,b1⟩:=h.ex
 intro pn Φ pins s σ H Q I ⟨σ3,g,μ,R,q⟩
 refine T4 (QbR I hg k1 ?_ hdb)
 have z:upA X.K ca Φ mr σ H λvs H1=>∀y dy,H1 y=none->H1 dy=none->dy≠y->spM X.K ca n F (.ref y::vs) (upd (upd H1 dy (.own y)) y (.ins (ca c) dy [])) (λv H2=>v=.non/\Q (.ref y) H2) (EK Φ σ) :=
  Qam (Qea R q) λxs H1 ⟨ds,g1,μ1,e1,R1,q1,p1⟩ y dy hy hdy ne=>by
   have hy2:(upd H1 dy (.own y)) y=none:=by rw[Qr (Ne.symm ne)];exact hy
   have ex1:Ext X.K μ1 H1 μ1 (upd H1 dy (.own y)):=Zj hdy
   have g2:=R1.g.new (o:=.own y) hdy
   have ex2:Ext X.K μ1 (upd H1 dy (.own y)) (μ1++[y]) (upd (upd H1 dy (.own y)) y (.ins (ca c) dy [])):=Qp hy2
   have g3:GRep X.K ca (μ1++[y]) (upd (upd H1 dy (.own y)) y (.ins (ca c) dy [])) (g1++[.ins c []]):=g2.push hy2 ⟨dy,[],Qn,.nil⟩
   have ey:(μ1++[y])[g1.length]?=some y:=by rw[<-R1.g.len];simp
   refine QfQ (Φ:=Φ) (σ:=σ) h.st g3 (.cons (.ref ey) ((q1.mono ex1).mono ex2)) ?_
   cases hF:F (D.ref g1.length::ds) (g1++[.ins c []]) with
   |stuck=>rw[hF]at p1;exact p1.elim
   |raise _ _=>rw[hF]at p1;exact RaP.go (ex1.trans ex2) p1
   |ok d g4 =>
    rw[hF,Res.bind_ok]at p1
    intro v H' μ' e' r' q'
    cases q' with
    |non=>exact⟨rfl,p1 _ H' μ' ((ex1.trans ex2).trans e') r' (.ref (e'.at ey))⟩
    |_=>exact p1.elim
 refine RJ (h₀:=X.base) I.ok.mod.kin m1.kp (thn (ha pn Φ pos pins s σ H _ I z) λus s1 ⟨vs,H1,I1,r,q1⟩=>⟨I1.kIn,?_⟩) he hpl
 have hq:=q1 (s1.heap.objs.size+1) s1.heap.objs.size (I1.hok.fresh (Ww _)) (I1.hok.fresh (Uh _)) (UA (Ta _))
 have I2:=Inv.made (C:=ca c) I1
 have r2:Vals (V.ref (s1.heap.objs.size+1)::vs) (Value.ref (s1.heap.objs.size+1)::us):=.cons rfl r
 have hl:(Value.ref (s1.heap.objs.size+1)::us++[]).length=ps.length:=by
  have w:=r2.length
  rw[F1.len _ _ _ _ hq]at w
  rw[UY]
  exact w.symm
 have b2:=b1 _ (Value.ref (s1.heap.objs.size+1)::us) I2.kIn hl
 rw[UY]at b2
 refine WQ (Qjt (f:=f) I1.kIn m1.makes m1.init (U1.mp m1.fn) (Wf (F1.run _ X.stack _ _ ⟨Value.ref (s1.heap.objs.size+1)::us,[]⟩ (Value.ref (s1.heap.objs.size+1)::us) _ _ (EK Φ σ) (hr.make (ca c) us [])
  (I2.env0.make (ca c) us []) b2 r2 hq) λres s' hq'=>?_))
 cases res with
 |error z=>exact QhK I2 hq'
 |ok fl =>
  cases fl with
  |ret u =>
   obtain⟨v,H',I3,rv,ev,q3⟩:=I2.after hq'
   subst ev
   exact⟨rv,⟨V.ref (s1.heap.objs.size+1),H',I3,rfl,q3⟩⟩
  |_=>exact False.elim hq'
end
section
variable{X:Cx}{ca:Nat->Addr}{tg e:Expr}{me:ME}{mr:MA}{p pos:Pos}
theorem Qe3{X:Cx}{tg iter:Expr}{t t':TI}(h:PI X tg iter t)(i:∀σ H R,t' σ H R->t σ H R):PI X tg iter t':=λpins s σ H R I q=>h pins s σ H R I (i σ H R q)
theorem QhR(K:Frag)(μ:List Addr)(H:Hp)(lo:Int)(n:Nat):Sim K ca μ H (QX lo n) (Itr lo n):=by
 intro i H1 μ1 g1 e r
 unfold QX
 dsimp only
 by_cases h:i<n
 ·rw[Uc h]
  exact⟨h,λx H' y=>by obtain⟨rfl,rfl⟩:=y;exact⟨.refl,r,.int _⟩⟩
 ·rw[Ud h]
  exact Rh h
theorem Qlv{K:Frag}{μ:List Addr}{H:Hp}{a:Addr}{vs:List V}{ds:List D}(h:SqT K H a vs)(q:Dens K μ H vs ds):Sim K ca μ H ⟨λ_ i=>some ds[i]?,ds.length⟩ (Itt K a):=by
 intro i H1 μ1 g1 e r
 dsimp only
 cases hd:ds[i]? with
 |none =>
  refine⟨vs,e.tup _ _ h,?_⟩
  rw[q.length]
  exact US.mp hd
 |some d =>
  obtain⟨v,h1,h2⟩:=q.get hd
  refine⟨⟨vs,v,e.tup _ _ h,h1⟩,λx H' y=>?_⟩
  obtain⟨rfl,y⟩:=y
  have:=y vs (e.tup _ _ h)
  rw[h1]at this;cases this
  exact⟨.refl,r,h2.mono e⟩
theorem Qlw{K:Frag}{μ:List Addr}{H:Hp}{a:Addr}{n t:Nat}(hn:μ[n]?=some a):Sim K ca μ H ⟨λg i=>(match g[n]? with|some (.lst es)=>some es[i]? | _=>none),t⟩ (Itl K a):=by
 intro i H1 μ1 g1 e r
 dsimp only
 cases hg:g1[n]? with
 |none=>trivial
 |some o =>
  cases o with
  |lst ds =>
   dsimp only
   obtain⟨a',ha',vs,hH,q⟩:=r.addr hg
   rw[e.at hn]at ha';cases ha'
   cases hd:ds[i]? with
   |none =>
    refine⟨vs,.of hH,?_⟩
    rw[q.length]
    exact US.mp hd
   |some d =>
    obtain⟨v,h1,h2⟩:=q.get hd
    refine⟨⟨vs,v,.of hH,h1⟩,λx H' y=>?_⟩
    obtain⟨rfl,y⟩:=y
    have:=y vs (.of hH)
    rw[h1]at this;cases this
    exact⟨.refl,r,h2⟩
  |_=>trivial
theorem Qm9{K:Frag}{μ:List Addr}{H:Hp}{a:Addr}{vs:List V}{ds:List D}(h:SqF K H a vs)(q:Dens K μ H vs ds):Sim K ca μ H ⟨λ_ i=>some ds[i]?,ds.length⟩ (Itl K a):=by
 intro i H1 μ1 g1 e r
 dsimp only
 have sq:SqL K H1 a vs:=(e.fl _ _ h).sq
 cases hd:ds[i]? with
 |none =>
  refine⟨vs,sq,?_⟩
  rw[q.length]
  exact US.mp hd
 |some d =>
  obtain⟨v,h1,h2⟩:=q.get hd
  refine⟨⟨vs,v,sq,h1⟩,λx H' y=>?_⟩
  obtain⟨rfl,y⟩:=y
  have:=y vs sq
  rw[h1]at this;cases this
  exact⟨.refl,r,h2.mono e⟩
theorem Qna{l:Expr}{tl:TE}(hl:PE X l tl):PI X tg l (λσ H R=>tl σ H λx H1=>(∃a,x=.ref a/\(∃xs,SqL X.K H1 a xs)/\R (Itl X.K a) H1)\/∃a,x=.ref a/\(∃xs,SqT X.K H1 a xs)/\R (Itt X.K a) H1):=by
 intro pins s σ H R I h
 refine thn (hl pins s σ H _ I h) λv s1 ⟨x,H1,I1,r1,q1⟩=>?_
 rcases q1 with⟨a,e,⟨xs,hq⟩,q⟩|⟨a,e,⟨xs,hq⟩,q⟩
 ·subst e
  cases r1
  obtain⟨its,rv,p,hz⟩:=I1.list hq
  refine Rc p.isList ?_
  refine⟨s1.heap.objs.size,[s1.heap.objs.size],_,_,H1,rfl,I1.kept (t':=s1.toks) λb o e=>Ub _ e,Qho a _,⟨_,Uo _ rfl,rfl,rfl⟩,λb hb=>?_,q⟩
  have e:b=s1.heap.objs.size:=by simpa using hb
  subst e
  exact I1.fpOk (Uh _) (I1.hok.fresh (Uh _))
 ·subst e
  cases r1
  obtain⟨its,rv,p,hz⟩:=I1.tuple hq
  refine wpAny_pyIter_tuple (show s1.heap.IsTuple a its.toArray from p) ?_
  refine⟨s1.heap.objs.size,[s1.heap.objs.size],_,_,H1,rfl,I1.kept (t':=s1.toks) λb o e=>Ub _ e,Qgt a _,⟨_,Uo _ rfl,rfl,rfl⟩,λb hb=>?_,q⟩
  have e:b=s1.heap.objs.size:=by simpa using hb
  subst e
  exact I1.fpOk (Uh _) (I1.hok.fresh (Uh _))
theorem Jd(he:PE3 ca X e me):PI3 ca X tg e (QM me) :=
 λpn Φ=>Qe3 (Qna (X:=xat X ca pn Φ) (he pn Φ)) λσ H R hQ=>by
  obtain⟨σ3,g,μ,Rp,p⟩:=hQ
  unfold QM at p
  refine⟨σ3,g,μ,Rp,?_⟩
  cases hm:me σ3 g with
  |raise _ _=>rw[hm]at p;exact p
  |stuck=>rw[hm]at p;exact p.elim
  |ok d g1 =>
   rw[hm,Res.bind_ok]at p
   intro v H1 μ1 e1 r1 q1
   unfold J0 at p
   cases q1 with
   |@tup a vs ds ht hs =>
    exact .inr ⟨a,rfl,⟨vs,ht⟩,p _ H1 μ1 e1 r1 (Qlv ht hs)⟩
   |@fl a vs ds ht hs=>exact .inl ⟨a,rfl,⟨vs,ht.sq⟩,p _ H1 μ1 e1 r1 (Qm9 ht hs)⟩
   |@ref n a hn =>
    dsimp only at p
    cases hg:g1[n]? with
    |none=>rw[hg]at p;exact p.elim
    |some o =>
     rw[hg]at p
     obtain⟨a',ha',orp⟩:=r1.addr hg
     rw[hn]at ha';cases ha'
     cases o with
     |lst ds=>obtain⟨vs,hH,q⟩:=orp;exact .inl ⟨a,rfl,⟨vs,.of hH⟩,p _ H1 μ1 e1 r1 (Qlw hn)⟩
     |_=>exact p.elim
   |_=>exact p.elim
theorem Yi(hm:X.mg "range" = none)(he:PE3 ca X e me)(hg:Gl X "range":=by rfl)(hs:starEach [e] X.env=[(false,eval e X.env)]:=by rfl):PI3 ca X tg (.Call (.Name "range" p) [e] [] pos) (Qs me) :=
 λpn Φ=>Qe3 (Qhp (X:=xat X ca pn Φ) hg hm (Jp he Qj hs pn Φ) hs) λσ H R hQ=>by
  obtain⟨σ3,g,μ,Rp,p⟩:=hQ
  refine⟨σ3,g,μ,Rp,?_⟩
  unfold Qs at p
  unfold Qb mNil
  cases hm:me σ3 g with
  |raise _ _=>rw[hm]at p;exact p
  |stuck=>rw[hm]at p;exact p.elim
  |ok d g1 =>
   rw[hm,Res.bind_ok]at p
   rw[Res.bind_ok,Res.bind_ok]
   intro vs H1 μ1 e1 r1 q1
   cases q1 with
   |cons h1 h2 =>
    cases h2
    cases h1 with
    |int j =>
     dsimp only at p
     by_cases hj:inR j
     ·rw[Uc hj]at p
      exact⟨j,rfl,hj.1,hj.2,p _ H1 μ1 e1 r1 (QhR X.K μ1 H1 0 j.toNat)⟩
     ·rw[Ud hj]at p;exact p.elim
    |_=>exact p.elim
end
noncomputable def blk(X:Cx)(scope:Scope)(cl:List (Str×Addr))(C:Addr)(Nb:List Str)(s3:Shared)(H3:Hp)(ex:List Addr):Cx :=
 {X with env:=compEnvC scope cl C X.env,N:=Nb,s₀:=s3,H₀:=H3,outer:=X.stack,stack:=X.stack,ex:=ex,fn:=λ_=>false,pn:=[],xe:=λ_ _=>False}
structure BScope(X:Cx)(scope:Scope)(Nb:List Str)(no:Nat)(cap:List Nat):Prop where
 kind:scope.kind=.function
 cell:∀y∈scope.names,y.2≠.cell
 loc:∀y∈scope.names,y.2=.local->scope.names.lookup y.1=some .local
 free:∀y∈scope.names,y.2=.free->X.env.kindOf y.1=some .cell\/X.env.kindOf y.1=some .free
 len:Nb.length=no+cap.length
 cap:∀(j i:Nat),cap[j]?=some i->∃x,Nb[no+j]?=some x/\X.N[i]?=some x/\scope.names.lookup x=some .free/\Vis X.env.scope x/\X.env.kindOf x≠some .local
noncomputable def clOf(cells:List (Str×Addr)):List (Str×NameKind)->List (Str×Addr)->Option (List (Str×Addr))
 |[],cs=>some cs
 | (n,k)::r,cs=>if (k == .free)=true then (match cells.lookup n with
  |some a=>clOf cells r ((n,a)::cs)
  |none=>none) else clOf cells r cs
theorem Qbc{env:Env}:∀(names:List (Str×NameKind))(cs cl:List (Str×Addr)),clOf env.cells names cs=some cl ->
  (forIn names cs λ(x:Str×NameKind)(r:List (Str×Addr))=>(match x with
   | (name,kind)=>if (kind == .free)=true then (do let a <-cellOf env name;pure (ForInStep.yield ((name,a)::r))) else pure (ForInStep.yield r):Sem (ForInStep (List (Str×Addr)))))=(pure cl:Sem (List (Str×Addr)))
 |[],cs,cl,h=>by cases h;rfl
 | (n,k)::r,cs,cl,h=>by
  unfold clOf at h
  rw[Rs]
  by_cases hk:(k == .free)=true
  ·rw[Uc hk]at h
   cases hl:env.cells.lookup n with
   |none=>rw[hl]at h;cases h
   |some a =>
    rw[hl]at h
    dsimp only at h ⊢
    rw[Uc hk]
    unfold cellOf
    rw[hl]
    exact Qbc r _ cl h
  ·rw[Ud hk]at h
   dsimp only
   rw[Ud hk]
   exact Qbc r _ cl h
theorem QaT{scope:Scope}{env:Env}{cl:List (Str×Addr)}(h:clOf env.cells scope.names []=some cl):closureFor scope env=pure cl:=by
 have q:=Qbc (env:=env) scope.names [] cl h
 unfold closureFor
 exact TY (λt=>t >>= λr=>(pure r:Sem _)) q
theorem QaU{cells:List (Str×Addr)}:∀(names:List (Str×NameKind))(cs:List (Str×Addr)),(∀y∈names,y.2=.free->∃c,cells.lookup y.1=some c)->∃cl,clOf cells names cs=some cl
 |[],cs,_=>⟨cs,rfl⟩
 | (n,k)::r,cs,h=>by
  unfold clOf
  by_cases hk:(k == .free)=true
  ·rw[Uc hk]
   obtain⟨c,e⟩:=h (n,k) Ur (U1.mp hk)
   rw[show cells.lookup n=some c from e]
   exact QaU r _ λy hy=>h y (Uq _ hy)
  ·rw[Ud hk]
   exact QaU r _ λy hy=>h y (Uq _ hy)
theorem YZ{cells:List (Str×Addr)}:∀(names:List (Str×NameKind))(cs cl:List (Str×Addr)),clOf cells names cs=some cl->(∀x c,cs.lookup x=some c->cells.lookup x=some c)->∀x c,cl.lookup x=some c->cells.lookup x=some c
 |[],cs,cl,h,hc=>by cases h;exact hc
 | (n,k)::r,cs,cl,h,hc=>by
  unfold clOf at h
  by_cases hk:(k == .free)=true
  ·rw[Uc hk]at h
   cases hl:cells.lookup n with
   |none=>rw[hl]at h;cases h
   |some a =>
    rw[hl]at h
    refine YZ r _ cl h λx c e=>?_
    by_cases z:x=n
    ·subst z
     simp only[List.lookup,Ri]at e
     cases e
     exact hl
    ·have zb:(x == n)=false:=U0.mpr z
     simp only[List.lookup,zb]at e
     exact hc x c e
  ·rw[Ud hk]at h
   exact YZ r _ cl h hc
theorem QbG{cells:List (Str×Addr)}:∀(names:List (Str×NameKind))(cs cl:List (Str×Addr)),clOf cells names cs=some cl->∀x,(x∈names.filterMap λy=>if (y.2 == .free)=true then some y.1 else none)\/(∃c,cs.lookup x=some c)->∃c,cl.lookup x=some c
 |[],cs,cl,h,x,hx=>by
  cases h
  rcases hx with hx|hx
  ·simp at hx
  ·exact hx
 | (n,k)::r,cs,cl,h,x,hx=>by
  unfold clOf at h
  by_cases hk:(k == .free)=true
  ·rw[Uc hk]at h
   cases hl:cells.lookup n with
   |none=>rw[hl]at h;cases h
   |some a =>
    rw[hl]at h
    refine QbG r _ cl h x ?_
    by_cases z:x=n
    ·subst z
     exact .inr ⟨a,by simp[List.lookup]⟩
    ·have zb:(x == n)=false:=U0.mpr z
     rcases hx with hx|⟨c,hx⟩
     ·rw[Tk]at hx
      simp only[hk,Rv]at hx
      rcases UL.mp hx with e|e
      ·exact absurd e z
      ·exact .inl e
     ·exact .inr ⟨c,by simp only[List.lookup,zb];exact hx⟩
  ·rw[Ud hk]at h
   refine QbG r _ cl h x ?_
   rcases hx with hx|hx
   ·rw[Tk]at hx
    simp only[hk]at hx
    exact .inl (by simpa using hx)
   ·exact .inr hx
theorem Qb3{names:List (Str×NameKind)}{x:Str}(h:names.lookup x=some .free):x∈names.filterMap λy=>if (y.2 == .free)=true then some y.1 else none :=
 RG.mpr ⟨(x,.free),Tl h,by simp⟩
theorem Qaa{env:Env}:∀{names:List (Str×NameKind)}{x:Str}{k:NameKind},(∀y∈names,y.2≠.cell) ->
  (names.map λ(n,k)=>if (k == NameKind.free && env.scope.kind == .function && env.kindOf n == some .cell) then (n,NameKind.cell) else (n,k)).lookup x=some k->(k=.cell\/k=.free)->names.lookup x=some .free
 |[],_,_,_,h,_=>by cases h
 | (n,k0)::r,x,k,hn,h,hk=>by
  have ih:=@Qaa env r x k λy hy=>hn y (Uq _ hy)
  rw[UG]at h
  by_cases hc:(k0 == NameKind.free && env.scope.kind == .function && env.kindOf n == some .cell)=true
  ·have k0f:k0=.free:=by
    simp only[UH]at hc
    exact U1.mp hc.1.1
   dsimp only at h
   rw[Uc hc]at h
   cases hx:x == n with
   |true=>simp only[List.lookup,hx];rw[k0f]
   |false=>simp only[List.lookup,hx]at h ⊢;exact ih h hk
  ·dsimp only at h
   rw[Ud hc]at h
   cases hx:x == n with
   |true =>
    simp only[List.lookup,hx]at h ⊢
    cases h
    rcases hk with e|e
    ·exact absurd e (hn (n,k0) Ur)
    ·rw[e]
   |false=>simp only[List.lookup,hx]at h ⊢;exact ih h hk
theorem Qee{prog:Program}{w:World}{A:Around}{R:Result->Shared->Prop}{s:Shared}{elt target iter:Expr}{ifs:List Expr}{scope:Scope}{pos:Pos}{it acc:Value}{env:Env}(I:Nat->Shared->Prop)(turn:∀n s,I n s->wpAny (model prog w) A (pyNext it) (λr s₁=>match r with
   |none=>R (.ok .next) s₁
   |some v=>wpAny (model prog w) A (letOwnedTupleGo target it v) (λ_ s1'=>wpAny (model prog w) A (assign target env v) (λ_ s₂ =>
     wpAny (model prog w) A (forIn ifs true λc r=>if r=true then do let ok <-isTrue c env (eval c env);pure (ForInStep.yield ok) else pure (ForInStep.yield r)) (λok s₃ =>
      if ok=true then wpAny (model prog w) A (eval elt env) (λx s₄ =>
       wpAny (model prog w) A (call (.builtin "list.append") [acc,x]) (λ_ s₅=>∃m,m<n/\I m s₅) (λ_ _=>False) s₄) (λ_ _=>False) s₃
      else ∃m,m<n/\I m s₃) (λ_ _=>False) s₂) (λ_ _=>False) s1') (λ_ _=>False) s₁) (λ_ _=>False) s)(n:Nat)(h:I n s):codeAny (model prog w) A (.compLoop (.ListComp elt [⟨target,iter,ifs,0⟩] scope pos) 0 it acc env) R s:=by
 refine codeAny_loop rfl I (λn s hI=>?_) n h
 show wpAny _ A ((compTurn (.ListComp elt [⟨target,iter,ifs,0⟩] scope pos) 0 it acc env).onRaise (λx=>do noteFrame x env;theTreesLotGoes x)) _ _ s
 refine wpAny_noted ?_
 rw[compTurn_list]
 refine Ua (wpAny_standAt (Ua (UU (turn n s hI) (λr s₁ h₁=>?_) λ_ _ h'=>h'.elim)))
 cases r with
 |none=>exact Ui h₁
 |some v =>
  refine Ua (UU h₁ (λ_ s1' h1'=>?_) λ_ _ h'=>h'.elim)
  refine Ua (UU h1' (λ_ s₂ h₂=>Ua (UU h₂ (λok s₃ h₃=>?_) λ_ _ h'=>h'.elim)) λ_ _ h'=>h'.elim)
  cases ok with
  |false=>exact Ui ⟨rfl,h₃⟩
  |true =>
   exact Ua (Ua (UU h₃ (λx s₄ h₄=>Ua (UU h₄ (λ_ s₅ h₅=>Ui (Ui ⟨rfl,h₅⟩)) λ_ _ h'=>h'.elim)) λ_ _ h'=>h'.elim))
theorem Inv.track{X:Cx}{pins:List (Addr×Obj)}{σ:L2.St}{H:Hp}{s:Shared}{a:Addr}{o:HO}(I:Inv X pins σ H s)(ha:FpOk X pins H a)(new:ObjOk X.prog X.w (upd H a o) s.heap a o):Inv X pins σ (upd H a o) s:=by
 obtain⟨f0,f1,f2,f3,f4,f5⟩:=ha
 have ne:∀b u,H b=some u->b≠a:=λb u e=>QQ e f0
 refine I.step (h':=s.heap) (g':=s.gens) (t':=s.toks) (d':=s.drawn) (ch:=[a]) (λb hb=>?_) (λb o _ _ _ e _=>e) (λb o _ _ _ e _=>⟨o.slots,e⟩) (λb o hb e n=>?_) (λb o _ e=>⟨o,e⟩)
  (λb xs e=>by rw[Qr (ne b _ e)];exact e) (λb o u e=>by rw[Qr (ne b _ e)];exact e) (λb ps e=>⟨#[],by rw[Qr (ne b _ e),e];simp⟩) (λ_ h=>h) (λb u e=>?_) I.bare
 ·have e:b=a:=by simpa using hb
  subst e
  exact⟨f3,f1,f4,f5⟩
 ·rw[Qr (λz=>hb (by simp[z]))];exact n
 ·by_cases hb:b=a
  ·subst hb;rw[Qn]at e;cases e;exact new
  ·rw[Qr hb]at e
   exact(I.hok b u e).stay (λ_ _ _ q=>q) (λc q=>by rw[Qr (ne c _ q)];exact q) λc xs q=>by rw[Qr (ne c _ q)];exact q
theorem FpOk.mono{X:Cx}{pins:List (Addr×Obj)}{H H':Hp}{b:Addr}(h:FpOk X pins H b)(n:H' b=none):FpOk X pins H' b:=⟨n,h.2⟩
noncomputable abbrev F0:XS:=λ_ _ _=>False
theorem noX{α:Type}{M:Model}{A:Around}{X:Cx}{ca:Nat->Addr}{t:Sem α}{Q:α->Shared->Prop}{s:Shared}(h:wpAny M A t Q (XE X ca F0) s):wpAny M A t Q (λ_ _=>False) s:=UU h (λ_ _ z=>z) λ_ _ ⟨_,_,_,_,_,_,_,z⟩=>z
noncomputable def PIf(ca:Nat->Addr)(X:Cx)(ifs:List Expr)(m:MT):Prop :=
 ∀(pins:List (Addr×Obj))(s:Shared)(σ:L2.St)(H:Hp)(Q:Bool->Hp->Prop),Inv (xat X ca [] F0) pins σ H s->upT X.K ca F0 m σ H Q ->
  wpAny (model X.prog X.w) X.A (forIn ifs true λc r=>if r=true then do let ok <-isTrue c X.env (eval c X.env);pure (ForInStep.yield ok) else pure (ForInStep.yield r)) (TP (xat X ca [] F0) pins σ Q) (λ_ _=>False) s
theorem QgF{X:Cx}{ca:Nat->Addr}:PIf ca X [] Yr:=by
 intro pins s σ H Q I ⟨_,_,μ,R,p⟩
 rw[RK]
 exact Ui ⟨H,I,p H μ .refl R.g⟩
theorem Qos{X:Cx}{ca:Nat->Addr}{c:Expr}{m:MT}(h:PT3 ca X c m):PIf ca X [c] m:=by
 intro pins s σ H Q I q
 exact wpAny_tests_one (noX (h [] F0 pins s σ H Q I q))
section
variable{X:Cx}{ca:Nat->Addr}{pn:List (Addr×Obj)}
theorem Qnb{scope:Scope}{Nb:List Str}{no:Nat}{cap:List Nat}{cl:List (Str×Addr)}{pins:List (Addr×Obj)}{σ:L2.St}{H:Hp}{s:Shared}{ex:List Addr}(B:BScope X scope Nb no cap)(hcl:clOf X.env.cells scope.names []=some cl)(I:Inv (xat X ca pn F0) pins σ H s)(hex:∀b∈ex,FpOk (xat X ca pn F0) pins H b)(hlt:∀b∈ex,b<s.heap.objs.size):(xat (blk X scope cl s.heap.objs.size Nb s H ex) ca [] F0).Ok where
 mod:=I.ok.mod
 kind:=B.kind
 glob:=I.ok.glob
 blt:=I.ok.blt
 above:=Uh _
 inj:=λx y c h1 h2=>I.ok.inj x y c (YZ _ _ _ hcl (λ_ _ z=>by cases z) x c h1) (YZ _ _ _ hcl (λ_ _ z=>by cases z) y c h2)
 has:=λx hx=>QbG _ _ _ hcl x (.inl (Qb3 (by
  rcases hx with hx|hx
  ·exact Qaa B.cell hx (.inl rfl)
  ·exact Qaa B.cell hx (.inr rfl))))
 cab:=λ_ _ z=>by cases z
 hd:=I.ok.hd
 frames:=I.ok.frames
 stk:=.inl rfl
 exf:=λb hb=>⟨UA (hlt b hb),λx c e z=>(hex b hb).2.2.2.2.1 x c (YZ _ _ _ hcl (λ_ _ z=>by cases z) x c e) z⟩
 bs:=I.bs
 bsz:=Uv I.ok.bsz I.sz
 noex:=λb o e hb=>by
  rcases(hex b hb).2.2.2.1 with z|z
  ·exact I.ok.noex b o e z
  ·exact absurd (Ut (Uk e) (Uv I.ok.bsz z)) (U6 _)
 exfs:=λb hb z=>by
  rcases UL.mp (I.stkSub b z) with e|e
  ·exact(hex b hb).2.1 e
  ·exact(hex b hb).2.2.1 e
 funs:=I.stack
 frf:=I.stkFree
theorem Js{env:Env}:∀{names:List (Str×NameKind)}{x:Str},names.lookup x=some .free ->
  (names.map λ(n,k)=>if (k == NameKind.free && env.scope.kind == .function && env.kindOf n == some .cell) then (n,NameKind.cell) else (n,k)).lookup x=some .local->False
 |[],_,h,_=>by cases h
 | (n,k0)::r,x,h,h'=>by
  have ih:=@Js env r x
  rw[UG]at h'
  dsimp only at h'
  by_cases hc:(k0 == NameKind.free && env.scope.kind == .function && env.kindOf n == some .cell)=true
  ·rw[Uc hc]at h'
   cases hx:x == n with
   |true=>simp only[List.lookup,hx]at h';cases h'
   |false=>simp only[List.lookup,hx]at h h';exact ih h h'
  ·rw[Ud hc]at h'
   cases hx:x == n with
   |true=>simp only[List.lookup,hx]at h h';rw[h']at h;cases h
   |false=>simp only[List.lookup,hx]at h h';exact ih h h'
theorem QjA{K:Frag}{ca:Nat->Addr}{μ2:List Addr}{σ3:S3}{g1:G}{σ:L2.St}{H2:Hp}(no:Nat)(cap:List Nat)(R2:Rep K ca μ2 σ3 g1 σ H2):Rep K ca μ2 (capt no cap σ3) g1 (List.replicate no none++cap.map λi=>(σ[i]?).getD none) H2:=by
 refine⟨R2.g,?_,λi d h=>?_⟩
 ·unfold capt
  rw[Ux,Ux,UV,UV,Um,Um]
 ·unfold capt at h
  have hi:no<=i:=by
   apply Rh
   intro hlt
   rw[Uw (by simpa using hlt),TB,Uc hlt]at h
   cases h
  rw[UD (by simpa using hi),UV,Up]at h ⊢
  cases hcp:cap[i-no]? with
  |none=>rw[hcp]at h;cases h
  |some j =>
   rw[hcp]at h
   have h:(σ3[j]?).getD none=some d:=by simpa using h
   have hs:σ3[j]?=some (some d):=by
    cases z:σ3[j]? with
    |none=>rw[z]at h;cases h
    |some w=>rw[z]at h;have h:w=some d:=h;rw[h]
   obtain⟨v,h1,h2⟩:=R2.st j d hs
   exact⟨v,by simp[h1],h2⟩
theorem Qef{tg iter elt:Expr}{ifs:List Expr}{scope:Scope}{pos:Pos}{Nb:List Str}{no:Nat}{cap:List Nat}{cl:List (Str×Addr)}{f:MG}{tc:MT}{me:ME}{src:Src}{pins:List (Addr×Obj)}{σ:L2.St}{σ3:S3}{H2:Hp}{s2:Shared}{μ2:List Addr}{g1 g2:G}{ds:List D}{it:Addr}{fp:List Addr}{tn:Nat->Heap->Prop}{J:It}{RR:Value->Addr->Result->Shared->Prop}{E:Value->Shared->Prop}(B:BScope X scope Nb no cap)(hc:X.calm=true)(hb:∀cl C s3 H3 ex,PG3 ca (blk X scope cl C Nb s3 H3 ex) tg f/\PIf ca (blk X scope cl C Nb s3 H3 ex) ifs tc/\PE3 ca (blk X scope cl C Nb s3 H3 ex) elt me)(hcl:clOf X.env.cells scope.names []=some cl)(I2:Inv (xat X ca pn F0) pins σ H2 s2)(T:Turn X.prog X.w X.K tg J fp it tn)(st2:tn 0 s2.heap)(f2:∀b∈fp,FpOk (xat X ca pn F0) pins H2 b)(R2:Rep X.K ca μ2 σ3 g1 σ H2)(sim:Sim X.K ca μ2 H2 src J)(hz:src.top<=SZ)(hL:Jn src f tc me (src.top+1) 0 (capt no cap σ3) g1 []=.ok ds g2)(fin:∀(D C:Addr) (s':Shared) (H4:Hp) (μ4:List Addr) (accV:List V) (its:List Value) (k:Nat),Inv (xat X ca pn F0) pins σ H4 s'->(∃m,s'.heap.Ns C m)->FpOk (xat X ca pn F0) pins H4 C->FpOk (xat X ca pn F0) pins H4 D->D≠C ->
   s'.heap.get? D=some {cls:=.type "list",data:=.seq its.toArray k}->Vals accV its->accV.length<=sizeLine->Ext X.K μ2 H2 μ4 H4->GRep X.K ca μ4 H4 g2->Dens X.K μ4 H4 accV ds->RR (.ref D) C (.ok .next) s'):
  wpAny (model X.prog X.w) X.A (newList []) (λacc s₃=>wpAny (model X.prog X.w) X.A (newFunctionEnv scope X.env.globals cl [] X.env.qual none .none (some X.env)) (λcenv s₄ =>
   codeAny (model X.prog X.w) X.A (.compStart (.ListComp elt [⟨tg,iter,ifs,0⟩] scope pos) 0 (.ref it) acc {cenv with scope:=relabel scope X.env}) (RR acc cenv.locals) s₄) E s₃) E s2:=by
 refine U5 (wpAny_newFunctionEnv B.cell (by intro y hy;simp at hy) (λh₁ hns₁ hsb₁=>?_) B.kind)
 dsimp only at hns₁ hsb₁ ⊢
 generalize hH2:s2.heap.push {cls:=.type "list",dict:=none,data:=.seq ([]:List Value).toArray}=hp at hns₁ hsb₁ ⊢
 have hC:hp.objs.size=s2.heap.objs.size+1:=by rw[<-hH2,U9]
 have I3:Inv (xat X ca pn F0) pins σ H2 {s2 with heap:=hp}:=by rw[<-hH2];exact I2.kept (t':=s2.toks) λb o e=>Ub _ e
 have hD3:hp.get? s2.heap.objs.size=some {cls:=.type "list",data:=.seq ([]:List Value).toArray}:=by rw[<-hH2];exact Uo _ rfl
 have fD:FpOk (xat X ca pn F0) pins H2 s2.heap.objs.size:=I2.fpOk (Uh _) (I2.hok.fresh (Uh _))
 have fC:FpOk (xat X ca pn F0) pins H2 hp.objs.size:=I3.fpOk (Uh _) (I3.hok.fresh (Uh _))
 have fplt:∀b∈fp,b<s2.heap.objs.size:=λb hb=>by
  obtain⟨o,e,_⟩:=T.obj 0 _ st2 b hb
  exact Uk e
 have DnF:s2.heap.objs.size∉fp:=λh=>U6 _ (fplt _ h)
 have DnC:s2.heap.objs.size≠hp.objs.size:=by rw[hC];exact UA (Ta _)
 have exOk:∀b∈s2.heap.objs.size::fp,FpOk (xat X ca pn F0) pins H2 b:=λb hb=>by
  rcases UL.mp hb with e|e
  ·rw[e];exact fD
  ·exact f2 b e
 have exLt:∀b∈s2.heap.objs.size::fp,b<hp.objs.size:=λb hb=>by
  rcases UL.mp hb with e|e
  ·rw[e,hC];exact Ta _
  ·rw[hC];exact Nat.lt_succ_of_lt (fplt b e)
 have okb:(xat (blk X scope cl hp.objs.size Nb {s2 with heap:=hp} H2 (s2.heap.objs.size::fp)) ca [] F0).Ok:=Qnb (s:={s2 with heap:=hp}) B hcl I3 exOk exLt
 obtain⟨hgB,hiB,heB⟩:=hb cl hp.objs.size {s2 with heap:=hp} H2 (s2.heap.objs.size::fp)
 have old:∀b o,hp.get? b=some o->h₁.get? b=some o:=λb o e=>hsb₁.extBut b o (UA (Uk e)) (Ub _ e)
 -- the block's first state
 have Ib:Inv (xat (blk X scope cl hp.objs.size Nb {s2 with heap:=hp} H2 (s2.heap.objs.size::fp)) ca [] F0) [] (List.replicate no none++cap.map λi=>(σ[i]?).getD none) H2 {s2 with heap:=h₁,toks:=s2.toks+([]:List (Str×Value)).length}:=by
  refine⟨okb,rfl,I3.bare,Un.kept old,⟨_,hns₁,λi x v h1 h2 h3=>?_⟩,λx c e=>?_,fC.1,λx c e=>?_,λp hp=>absurd (show p∈([]:List (Addr×Obj)) from hp) (by simp),I3.hok.kept old,?_⟩
  ·have hi:no<=i:=by
    apply Rh
    intro hlt
    rw[Uw (by simpa using hlt),TB,Uc hlt]at h2
    cases h2
   rw[UD (by simpa using hi),UV,Up]at h2
   cases hcp:cap[i-no]? with
   |none=>rw[hcp]at h2;cases h2
   |some j =>
    rw[hcp]at h2
    have h2:(σ[j]?).getD none=some v:=by simpa using h2
    have hs:σ[j]?=some (some v):=by
     cases z:σ[j]? with
     |none=>rw[z]at h2;cases h2
     |some w=>rw[z]at h2;have h2:w=some v:=h2;rw[h2]
    obtain⟨y,n1,n2,n3,n4,n5⟩:=B.cap (i-no) j hcp
    have e0:no+(i-no)=i:=by omega
    rw[e0]at n1
    have h1:Nb[i]?=some x:=h1
    have hxy:y=x:=Option.some.inj (n1.symm.trans h1)
    subst hxy
    obtain⟨m,hn,hl⟩:=I3.loc
    obtain⟨u,ru,lk⟩:=hl j y v n2 hs n4
    refine⟨u,ru,.inr ⟨?_,?_⟩⟩
    ·rcases h3 with z|z|z
     ·exact(Js n3 z).elim
     ·exact .inl z
     ·exact .inr z
    ·rcases lk with⟨k1,_⟩|⟨_,c,k2,k3⟩
     ·exact absurd k1 n5
     ·obtain⟨c',hc'⟩:=QbG _ _ _ hcl y (.inl (Qb3 n3))
      have:=YZ _ _ _ hcl (λ_ _ z=>by cases z) y c' hc'
      have k2:X.env.cells.lookup y=some c:=k2
      have hcc:c'=c:=Option.some.inj (this.symm.trans k2)
      subst hcc
      exact⟨c',hc',k3.keeps old⟩
  ·obtain⟨v,z⟩:=I3.cell x c (YZ _ _ _ hcl (λ_ _ z=>by cases z) x c e)
   exact⟨v,z.keeps old⟩
  ·exact I3.freeC x c (YZ _ _ _ hcl (λ_ _ z=>by cases z) x c e)
  ·rw[Ux,UV,Um];exact B.len.symm
 have RbR:=QjA no cap R2
 have eK:(xat (blk X scope cl hp.objs.size Nb {s2 with heap:=hp} H2 (s2.heap.objs.size::fp)) ca [] F0).K=X.K:=rfl
 have eP:(xat (blk X scope cl hp.objs.size Nb {s2 with heap:=hp} H2 (s2.heap.objs.size::fp)) ca [] F0).prog=X.prog:=rfl
 have eW:(xat (blk X scope cl hp.objs.size Nb {s2 with heap:=hp} H2 (s2.heap.objs.size::fp)) ca [] F0).w=X.w:=rfl
 have eA:(xat (blk X scope cl hp.objs.size Nb {s2 with heap:=hp} H2 (s2.heap.objs.size::fp)) ca [] F0).A=X.A:=rfl
 have eE:(xat (blk X scope cl hp.objs.size Nb {s2 with heap:=hp} H2 (s2.heap.objs.size::fp)) ca [] F0).env=compEnvC scope cl hp.objs.size X.env:=rfl
 have eC:(xat (blk X scope cl hp.objs.size Nb {s2 with heap:=hp} H2 (s2.heap.objs.size::fp)) ca [] F0).calm=true:=hc
 have eX:∀b∈s2.heap.objs.size::fp,b∈(xat (blk X scope cl hp.objs.size Nb {s2 with heap:=hp} H2 (s2.heap.objs.size::fp)) ca [] F0).ex:=λb hb=>hb
 have eN:∀{pl:List (Addr×Obj)}{p:Addr×Obj},p∈(xat (blk X scope cl hp.objs.size Nb {s2 with heap:=hp} H2 (s2.heap.objs.size::fp)) ca [] F0).pn++pl->p∈pl:=λh=>h
 have toUn:∀{pl:List (Addr×Obj)}{σ':L2.St}{H':Hp}{s':Shared},Inv (xat (blk X scope cl hp.objs.size Nb {s2 with heap:=hp} H2 (s2.heap.objs.size::fp)) ca [] F0) pl σ' H' s'->Un (frs (xat X ca pn F0).stack) (s2.heap.objs.size::fp) H2 H' hp s'.heap:=λI=>I.base
 have toOs:∀{pl:List (Addr×Obj)}{σ':L2.St}{H':Hp}{s':Shared},Inv (xat (blk X scope cl hp.objs.size Nb {s2 with heap:=hp} H2 (s2.heap.objs.size::fp)) ca [] F0) pl σ' H' s'->s'.os=s2.os:=λI=>I.os
 generalize blk X scope cl hp.objs.size Nb {s2 with heap:=hp} H2 (s2.heap.objs.size::fp)=Xb at okb hgB hiB heB Ib eK eP eW eA eE eC eX eN toUn toOs
 -- the iterator's records,through the block
 have FpB:∀{H:Hp}{pl:List (Addr×Obj)},(∀b∈fp,H b=none)->(∀p∈pl,p.1∉fp)->∀b∈fp,FpOk (xat Xb ca [] F0) pl H b:=λ{H pl} hn hpl b hb=>by
  have e0:=okb.exf b (eX b (Uq _ hb))
  refine⟨hn b hb,e0.1,?_,.inl (eX b (Uq _ hb)),e0.2,λp hp z=>?_⟩
  ·exact okb.exfs b (eX b (Uq _ hb))
  ·have hp':p∈pl:=eN hp
   exact hpl p hp' (z ▸ hb)
 have FpD:∀{H:Hp},H s2.heap.objs.size=none->FpOk (xat Xb ca [] F0) [] H s2.heap.objs.size:=λ{H} hn=>by
  have e0:=okb.exf s2.heap.objs.size (eX _ Ur)
  refine⟨hn,e0.1,?_,.inl (eX _ Ur),e0.2,λp hp=>?_⟩
  ·exact okb.exfs s2.heap.objs.size (eX _ Ur)
  ·exact absurd (eN hp) (by simp)
 have st4:tn 0 h₁:=T.keep _ _ _ st2 λb hb o e=>old b o (by rw[<-hH2];exact Ub _ e)
 -- the invariant
 have loop:∀s4:Shared,s4 = {s2 with heap:=h₁,toks:=s2.toks+([]:List (Str×Value)).length} ->
   codeAny (model X.prog X.w) X.A (.compLoop (.ListComp elt [⟨tg,iter,ifs,0⟩] scope pos) 0 (.ref it) (.ref s2.heap.objs.size) (compEnvC scope cl hp.objs.size X.env)) (RR (.ref s2.heap.objs.size) hp.objs.size) s4:=by
  rintro s4 rfl
  refine Qee (λn s'=>∃(i:Nat)(σ4:S3)(g4:G)(μ4:List Addr)(σ5:L2.St)(H4:Hp)(acc:List D)(accV:List V)(its:List Value)(k:Nat),Inv (xat Xb ca [] F0) [] σ5 H4 s'/\tn i s'.heap/\(∀b∈fp,H4 b=none)/\H4 s2.heap.objs.size=none /\
   s'.heap.get? s2.heap.objs.size=some {cls:=.type "list",data:=.seq its.toArray k}/\Vals accV its/\Ext X.K μ2 H2 μ4 H4/\Rep X.K ca μ4 σ4 g4 σ5 H4/\Dens X.K μ4 H4 accV acc/\Jn src f tc me n i σ4 g4 acc=.ok ds g2 /\
   acc.length<=i/\i+n<=SZ+1) ?_ (src.top+1) ⟨0,capt no cap σ3,g1,μ2,_,H2,[],[],[],_,Ib,st4,λb hb=>(f2 b hb).1,fD.1,old _ _ hD3,.nil,.refl,RbR,.nil,hL,Uh _,by omega⟩
  rintro n s5 ⟨i,σ4,g4,μ4,σ5,H4,acc,accV,its,k,I5,st5,fr5,frD,hD5,va,e5,R5,da,hl5,ha5,hn5⟩
  cases n with
  |zero=>cases hl5
  |succ n =>
   unfold Jn at hl5
   have s1:=sim i H4 μ4 g4 e5 R5.g
   have pinD:Inv (xat Xb ca [] F0) [(s2.heap.objs.size,{cls:=.type "list",data:=.seq its.toArray k})] σ5 H4 s5:=I5.pins_of λp hp=>by
    rw[Uu.mp hp]
    have z:=FpD frD
    exact⟨hD5,frD,z.2.1,z.2.2.1,λv q=>by cases q⟩
   have nofp:∀p∈[(s2.heap.objs.size,({cls:=.type "list",data:=.seq its.toArray k}:Obj))],p.1∉fp:=λp hp=>by rw[Uu.mp hp];exact DnF
   have getD:∀{σ':L2.St}{H':Hp}{s':Shared}{pl:List (Addr×Obj)},Inv (xat Xb ca [] F0) ([(s2.heap.objs.size,({cls:=.type "list",data:=.seq its.toArray k}:Obj))]++pl) σ' H' s'->s'.heap.get? s2.heap.objs.size=some {cls:=.type "list",data:=.seq its.toArray k}/\H' s2.heap.objs.size=none:=λ{σ' H' s' pl} I'=>by
    have z:=I'.pin (s2.heap.objs.size,{cls:=.type "list",data:=.seq its.toArray k}) (Us _ (Td _ (Uu.mpr rfl)))
    exact⟨z.1,z.2.1⟩
   cases hat:src.at' g4 i with
   |none=>rw[hat]at hl5;cases hl5
   |some od =>
    rw[hat]at hl5 s1
    cases od with
    |none =>
     cases hl5
     have dn:=T.done (xat Xb ca [] F0) eP eW eK eC i _ s5 σ5 H4 (λ_ _=>False) pinD (FpB fr5 nofp) st5 s1
     rw[eA]at dn
     refine thn dn λr s6 ⟨hr,I6⟩=>?_
     subst hr
     obtain⟨hD6,frD6⟩:=getD (pl:=[]) (by rw[UY];exact I6)
     have un:Un (frs (xat X ca pn F0).stack) (s2.heap.objs.size::fp) H2 H4 hp s6.heap:=toUn I6
     have hok:HOk (xat X ca pn F0).prog (xat X ca pn F0).w H4 s6.heap:=by have:=I6.hok;rw[eP,eW]at this;exact this
     have os:s6.os=s2.os:=toOs I6
     have I7:Inv (xat X ca pn F0) pins σ H4 s6:=Inv.call' (s':=s6) (ch:=s2.heap.objs.size::fp) I3 os un hok I6.bare λb hb=>⟨(exOk b hb).2.2.2.1,(exOk b hb).2.1,(exOk b hb).2.2.2.2.1,(exOk b hb).2.2.2.2.2⟩
     have hCn:H4 hp.objs.size=none:=by have:=I6.free;rw[eE]at this;exact this
     have nsC:∃m,s6.heap.Ns hp.objs.size m:=by obtain⟨m,hm,_⟩:=I6.loc;rw[eE]at hm;exact⟨m,hm⟩
     refine fin _ _ s6 H4 μ4 accV its k I7 nsC (FpOk.mono fC hCn) (FpOk.mono fD frD6) DnC hD6 va ?_ e5 R5.g da
     rw[da.length]
     have:=JE
     omega
    |some d =>
     obtain⟨go,yl⟩:=s1
     dsimp only at hl5
     cases hf:f d σ4 with
     |none=>rw[hf]at hl5;cases hl5
     |some σ6 =>
      rw[hf]at hl5
      dsimp only at hl5
      have im:=T.item (xat Xb ca [] F0) eP eW eK eC i _ s5 σ5 H4 (λ_ _=>False) pinD (FpB fr5 nofp) st5 go
      rw[eA]at im
      refine thn im λr s6 ⟨u,hr,h6⟩=>?_
      subst hr
      refine thn h6 λ_ s7 ⟨x,H7,I7,r7,y7,st7,fr7⟩=>?_
      obtain⟨e7,g7,q7⟩:=yl x H7 y7
      have I7':=I7.pinned (FpB fr7 nofp) (T.obj _ _ st7)
      have R7:=R5.go e7 g7
      have asg:=hgB [] F0 _ s7 σ5 H7 x u (λσ' H'=>H'=H7/\Rep X.K ca μ4 σ6 g4 σ' H7) I7' r7 (by
       have:Xb.K=X.K:=eK
       rw[this]
       exact⟨σ4,g4,μ4,d,σ6,R7,q7,hf,λσ' R'=>⟨rfl,R'⟩⟩)
      rw[eP,eW,eA,eE]at asg
      refine thn (noX asg) λ_ s8 ⟨σ8,H8,I8,e8,R8⟩=>?_
      subst e8
      cases ht:tc σ6 g4 with
      |raise _ _=>rw[ht]at hl5;cases hl5
      |stuck=>rw[ht]at hl5;cases hl5
      |ok b g9 =>
       rw[ht]at hl5
       have hl5:(if b=true then (match me σ6 g9 with | .ok y g2=>Jn src f tc me n (i+1) σ6 g2 (acc++[y])|_=>.stuck) else Jn src f tc me n (i+1) σ6 g9 acc)=.ok ds g2:=hl5
       have tst:=hiB _ s8 σ8 _ (λb' H'=>b'=b/\∃μ9,Ext X.K μ4 H8 μ9 H'/\Rep X.K ca μ9 σ6 g9 σ8 H') I8 (by
        have:Xb.K=X.K:=eK
        rw[this]
        refine⟨σ6,g4,μ4,R8,?_⟩
        rw[ht]
        exact λH' μ' e' r'=>⟨rfl,μ',e',R8.go e' r'⟩)
       have eP':Xb.prog=X.prog:=eP
       have eW':Xb.w=X.w:=eW
       have eA':Xb.A=X.A:=eA
       have eE':Xb.env=compEnvC scope cl hp.objs.size X.env:=eE
       rw[eP',eW',eA',eE']at tst
       refine thn tst λok s9 ⟨H9,I9,eb,μ9,e9,R9⟩=>?_
       subst eb
       have again:∀{σ':L2.St}{H':Hp}{s':Shared},Inv (xat Xb ca [] F0) ([(s2.heap.objs.size,({cls:=.type "list",data:=.seq its.toArray k}:Obj))]++QdX fp s7.heap) σ' H' s'->Inv (xat Xb ca [] F0) [] σ' H' s'/\tn (i+1) s'.heap/\∀b∈fp,H' b=none:=λ{σ' H' s'} I'=>by
        refine⟨I'.pins_of λp hp=>absurd hp (by simp),T.keep _ _ _ st7 λb hb o e=>(I'.pin (b,o) (Us _ (Us _ (Qal hb e)))).1,λb hb=>?_⟩
        obtain⟨o,e,_⟩:=T.obj _ _ st7 b hb
        exact(I'.pin (b,o) (Us _ (Us _ (Qal hb e)))).2.1
       cases ok with
       |false =>
        rw[Ud Ue]at hl5 ⊢
        obtain⟨J1,J2,J3⟩:=again I9
        obtain⟨K1,K2⟩:=getD I9
        refine⟨n,Ta n,i+1,σ6,g9,μ9,σ8,H9,acc,accV,its,k,J1,J2,J3,K2,K1,va,(e5.trans e7).trans e9,R9,(da.mono e7).mono e9,hl5,by omega,by omega⟩
       |true =>
        rw[Uc rfl]at hl5 ⊢
        cases hm:me σ6 g9 with
        |raise _ _=>rw[hm]at hl5;cases hl5
        |stuck=>rw[hm]at hl5;cases hl5
        |ok y g10 =>
         rw[hm]at hl5
         have hl5:Jn src f tc me n (i+1) σ6 g10 (acc++[y])=.ok ds g2:=hl5
         have el:=heB [] F0 _ s9 σ8 H9 (λvy H'=>∃μ10,Ext X.K μ9 H9 μ10 H'/\Rep X.K ca μ10 σ6 g10 σ8 H'/\Den X.K μ10 H' vy y) I9 (by
          have:Xb.K=X.K:=eK
          rw[this]
          refine⟨σ6,g9,μ9,R9,?_⟩
          rw[hm]
          exact λv H' μ' e' r' q'=>⟨μ',e',R9.go e' r',q'⟩)
         rw[eP,eW,eA,eE]at el
         refine thn (noX el) λuy s10 ⟨vy,H10,I10,ry,μ10,e10,R10,qy⟩=>?_
         obtain⟨K1,K2⟩:=getD I10
         obtain⟨J1,J2,J3⟩:=again I10
         have hlen:its.length=acc.length:=by rw[<-va.length,da.length]
         refine Rm F.slot_list_append ⟨_,K1,rfl⟩ F.entry_list_append (F.args_list_append_2 _ _) (PySem.list_append s2.heap.objs.size its.toArray k uy (by rw[Uf,RS];have:SZ=1000000:=rfl;omega)) ⟨K1,?_⟩
         have up:=PySem.IsL.update K1 (·.push uy)
         rw[show its.toArray.push uy=(its++[uy]).toArray by simp]at up
         have upo:∀b o,b≠s2.heap.objs.size->s10.heap.get? b=some o->(s10.heap.update s2.heap.objs.size (Obj.mapSeq (·.push uy))).get? b=some o:=λb o hb e=>(UT s10.heap (Obj.mapSeq (·.push uy)) (Ne.symm hb)).trans e
         obtain⟨d0,d1,d2,d3,d4,d5⟩:=FpD K2
         refine⟨n,Ta n,i+1,σ6,g10,μ10,σ8,H10,acc++[y],accV++[vy],its++[uy],_,J1.turned (t':=s10.toks) upo d0 d1 d3 d4 d5,T.keep _ _ _ J2 λb hb o e=>upo b o (λz=>DnF (z ▸ hb)) e,J3,K2,up,va.append (.cons ry .nil),
          ((e5.trans e7).trans e9).trans e10,R10,((da.mono e7).mono e9).mono e10 |>.append (.cons qy .nil),hl5,by rw[Ux,Rg];omega,by omega⟩
 exact codeAny_compStart_list (loop _ rfl) (T.self _ 0 _ _ _ st4 (loop _ rfl))
end
section
variable{X:Cx}{ca:Nat->Addr}
theorem QjB{K:Frag}{Φ:XS}{σ:L2.St}{Q:VK}{H:Hp}{μ:List Addr}{mi:MI}{no:Nat}{cap:List Nat}{f:MG}{tc:MT}{me:ME}{σ3:S3}{g:G}(p:Post K ca Φ σ Q H μ (YH mi no cap f tc me σ3 g)):
  ∃src g1 ds g2,mi σ3 g=.ok src g1/\src.top<=SZ/\Jn src f tc me (src.top+1) 0 (capt no cap σ3) g1 []=.ok ds g2/\Post K ca Φ σ Q H μ (.ok (.ref g2.length) (g2++[.lst ds])):=by
 unfold YH at p
 cases hm:mi σ3 g with
 |raise _ _=>rw[hm]at p;exact p.elim
 |stuck=>rw[hm]at p;exact p.elim
 |ok src g1 =>
  rw[hm]at p
  dsimp only at p
  by_cases hz:src.top<=SZ
  ·rw[Uc hz]at p
   cases hL:Jn src f tc me (src.top+1) 0 (capt no cap σ3) g1 []with
   |raise _ _=>rw[hL]at p;exact p.elim
   |stuck=>rw[hL]at p;exact p.elim
   |ok ds g2=>rw[hL]at p;exact⟨src,g1,ds,g2,rfl,hz,hL,p⟩
  ·rw[Ud hz]at p;exact p.elim
theorem Qc4{tg iter elt:Expr}{ifs:List Expr}{scope:Scope}{pos:Pos}{Nb:List Str}{no:Nat}{cap:List Nat}{mi:MI}{f:MG}{tc:MT}{me:ME}(B:BScope X scope Nb no cap)(hc:X.calm=true)(hi:PI3 ca X tg iter mi)(hb:∀cl C s3 H3 ex,PG3 ca (blk X scope cl C Nb s3 H3 ex) tg f/\PIf ca (blk X scope cl C Nb s3 H3 ex) ifs tc/\PE3 ca (blk X scope cl C Nb s3 H3 ex) elt me)(hs:∀x,foldedSetIterable iter X.env x=pure x:=by intro _;rfl):PE3 ca X (.ListComp elt [⟨tg,iter,ifs,0⟩] scope pos) (YH mi no cap f tc me):=by
 intro pn Φ pins s σ H Q I' ⟨σ3,g,μ,R,p⟩
 obtain⟨src,g1,ds,g2,hm,hz,hL,p⟩:=QjB p
 have I:Inv (xat X ca pn F0) pins σ H s:=Inv.wish I' _
 suffices hh:wpAny (model X.prog X.w) X.A (eval (.ListComp elt [⟨tg,iter,ifs,0⟩] scope pos) X.env) (EP (xat X ca pn F0) pins σ Q) (λ_ _=>False) s from
  UU hh (λu s' ⟨v,H',J,r,q⟩=>⟨v,H',Inv.wish J _,r,q⟩) λ_ _ z=>z.elim
 obtain⟨cl,hcl⟩:=QaU (cells:=X.env.cells) scope.names [] λy hy hf=>I.ok.has y.1 (B.free y hy hf)
 rw[eval_ListComp]
 refine wpAny_comprehension_free (env:=X.env) (use:=none) rfl hs (QaT hcl) B.kind B.loc ?_
 refine thn (noX (hi pn F0 pins s σ H (λJ H'=>∃μ',Ext X.K μ H μ' H'/\GRep X.K ca μ' H' g1/\Sim X.K ca μ' H' src J) I ⟨σ3,g,μ,R,?_⟩)) λv s1 h1=>thn (noX h1) λitv s2 h2=>?_
 ·rw[hm]
  exact λJ H' μ' e r sm=>⟨μ',e,r,sm⟩
 ·obtain⟨it,fp,tn,J,H2,e,I2,T,st2,f2,μ2,e2,r2,sim⟩:=h2
  subst e
  refine Qef (X:=X) (pn:=pn) (RR:=λacc C=>compPost (model X.prog X.w) X.A (λ_ _=>False) none (EP (xat X ca pn F0) pins σ Q) acc C) B hc hb hcl I2 T st2 f2 (R.go e2 r2) sim hz hL ?_
  intro D C s' H4 μ4 accV its k I4 nsC fC fD dc hD va hl e4 r4 da
  obtain⟨m,nsC⟩:=nsC
  refine⟨m,nsC,λh'' hs''=>?_⟩
  have I5:Inv (xat X ca pn F0) pins σ H4 {s' with heap:=h''}:=I4.turned (t':=s'.toks) (λb o hb e=>hs''.extBut b o hb e) fC.1 fC.2.1 fC.2.2.2.1 fC.2.2.2.2.1 fC.2.2.2.2.2
  have hD':=hs''.extBut _ _ dc hD
  have I6:=Inv.track (o:=.lst accV) I5 fD ⟨hl,its,k,va,hD'⟩
  refine⟨.ref D,_,I6,rfl,p _ _ (μ4++[D]) ((e2.trans e4).trans (Qp fD.1)) (r4.push fD.1 ⟨accV,Qn,da.mono (Qp fD.1)⟩) (.ref ?_)⟩
  rw[<-r4.len];simp
theorem QhS(i:Nat){x:Str}{py spos:Pos}{tg iter elt:Expr}{ifs:List Expr}{scope:Scope}{pos:Pos}{Nb:List Str}{no:Nat}{cap:List Nat}{mi:MI}{f:MG}{tc:MT}{me:ME}(hN:X.N.Nodup)(B:BScope X scope Nb no cap)(hc:X.calm=true)(hi:PI3 ca X tg iter mi)(hb:∀cl C s3 H3 ex,PG3 ca (blk X scope cl C Nb s3 H3 ex) tg f/\PIf ca (blk X scope cl C Nb s3 H3 ex) ifs tc/\PE3 ca (blk X scope cl C Nb s3 H3 ex) elt me)(hs:∀x,foldedSetIterable iter X.env x=pure x:=by intro _;rfl)(hn:X.N[i]?=some x:=by rfl)(hx:Loc X.env.scope x:=by first|exact Or.inl rfl|exact Or.inr rfl)(hf:X.fn x=true\/X.env.scope.names.lookup x=some .local:=by first|exact .inl rfl|exact .inr rfl)(hsw:swapsWith (.ListComp elt [⟨tg,iter,ifs,0⟩] scope pos) (some (.Name x py)) spos.line X.env=pure true:=by rfl):
  PS3 ca X (.Assign [.Name x py] (.ListComp elt [⟨tg,iter,ifs,0⟩] scope pos) spos) (mAsg (gSet i) (YH mi no cap f tc me)):=by
 intro pn Φ pins s σ H En I' ⟨σ3,g,μ,R,p⟩
 have pp:∃src g1 ds g2,mi σ3 g=.ok src g1/\src.top<=SZ/\Jn src f tc me (src.top+1) 0 (capt no cap σ3) g1 []=.ok ds g2/\PostS X.K ca Φ En H μ (.nx (σ3.set i (some (.ref g2.length))) (g2++[.lst ds])):=by
  unfold mAsg YH gSet at p
  cases hm:mi σ3 g with
  |raise _ _=>rw[hm]at p;exact p.elim
  |stuck=>rw[hm]at p;exact p.elim
  |ok src g1 =>
   rw[hm]at p
   dsimp only at p
   by_cases hz:src.top<=SZ
   ·rw[Uc hz]at p
    cases hL:Jn src f tc me (src.top+1) 0 (capt no cap σ3) g1 []with
    |raise _ _=>rw[hL]at p;exact p.elim
    |stuck=>rw[hL]at p;exact p.elim
    |ok ds g2=>rw[hL]at p;exact⟨src,g1,ds,g2,rfl,hz,hL,p⟩
   ·rw[Ud hz]at p;exact p.elim
 obtain⟨src,g1,ds,g2,hm,hz,hL,p⟩:=pp
 have I:Inv (xat X ca pn F0) pins σ H s:=Inv.wish I' _
 suffices hh:wpAny (model X.prog X.w) X.A (exec (.Assign [.Name x py] (.ListComp elt [⟨tg,iter,ifs,0⟩] scope pos) spos) X.env) (SP (xat X ca pn F0) pins En) (λ_ _=>False) s from
  UU hh (λu s' z=>SP.unwish (X:=xat X ca pn Φ) (E:=(xat X ca pn F0).xe) z) λ_ _ z=>z.elim
 obtain⟨cl,hcl⟩:=QaU (cells:=X.env.cells) scope.names [] λy hy hf=>I.ok.has y.1 (B.free y hy hf)
 rw[exec_Assign_Name_used _ _ _ _ hsw]
 refine Ua (wpAny_standAt (Ua ?_))
 show wpAny _ _ (do let _ <-comprehension (.ListComp elt [⟨tg,iter,ifs,0⟩] scope pos) scope X.env _ (newList []) false (eval iter X.env) (some (assign (.Name x py) X.env))) _ _ s
 refine Ua (UU (wpAny_comprehension_free (env:=X.env) (use:=some (assign (.Name x py) X.env)) (Q:=λ_ s'=>SP (xat X ca pn F0) pins En .next s') rfl hs (QaT hcl) B.kind B.loc ?_) (λ_ s' hq=>Ui (Ui hq)) λ_ _ e=>e)
 refine thn (noX (hi pn F0 pins s σ H (λJ H'=>∃μ',Ext X.K μ H μ' H'/\GRep X.K ca μ' H' g1/\Sim X.K ca μ' H' src J) I ⟨σ3,g,μ,R,?_⟩)) λv s1 h1=>thn (noX h1) λitv s2 h2=>?_
 ·rw[hm]
  exact λJ H' μ' e r sm=>⟨μ',e,r,sm⟩
 ·obtain⟨it,fp,tn,J,H2,e,I2,T,st2,f2,μ2,e2,r2,sim⟩:=h2
  subst e
  refine Qef (X:=X) (pn:=pn) (RR:=λacc C=>compPost (model X.prog X.w) X.A (λ_ _=>False) (some (assign (.Name x py) X.env)) (λ_ s'=>SP (xat X ca pn F0) pins En .next s') acc C) B hc hb hcl I2 T st2 f2 (R.go e2 r2) sim hz hL ?_
  intro D C s' H4 μ4 accV its k I4 nsC fC fD dc hD va hl e4 r4 da
  obtain⟨m,oC,es,ep,hoC,hdC,kk⟩:=nsC
  have I4':Inv (xat X ca pn F0) (pins++[(C,oC)]) σ H4 s':=I4.pins_of λq hq=>by
   rcases UX.mp hq with z|z
   ·exact I4.pin q (Us _ z)
   ·rw[Uu.mp z]
    exact⟨hoC,fC.1,fC.2.1,fC.2.2.1,λv w=>by rw[show oC.data=_ from hdC]at w;cases w⟩
  have fD':FpOk (xat X ca pn F0) (pins++[(C,oC)]) H4 D:=⟨fD.1,fD.2.1,fD.2.2.1,fD.2.2.2.1,fD.2.2.2.2.1,λq hq=>by
   rcases UX.mp hq with z|z
   ·exact fD.2.2.2.2.2 q (Td _ z)
   ·rcases UX.mp z with z|z
    ·exact fD.2.2.2.2.2 q (Us _ z)
    ·rw[Uu.mp z];exact Ne.symm dc⟩
  have I6:=Inv.track (o:=.lst accV) I4' fD' ⟨hl,its,k,va,hD⟩
  show wpAny (model X.prog X.w) X.A (assign (.Name x py) X.env (.ref D)) _ _ s'
  refine wpAny_assign_Name (QbE (X:=xat X ca pn F0) I6 hN hn hx (v:=.ref D) rfl (λs'' I7=>?_) hf)
  have pC:=I7.pin (C,oC) (Us _ (Us _ (Uu.mpr rfl)))
  refine⟨m,⟨oC,es,ep,pC.1,hdC,kk⟩,λh'' hs''=>?_⟩
  have I8:Inv (xat X ca pn F0) pins (σ.set i (some (.ref D))) (upd H4 D (.lst accV)) {s'' with heap:=h''} :=
   (I7.pins_of (pins':=pins) λq hq=>I7.pin q (Us _ (Td _ hq))).turned (t':=s''.toks) (λb o hb e=>hs''.extBut b o hb e) (by rw[Qr (Ne.symm dc)];exact fC.1) fC.2.1 fC.2.2.2.1 fC.2.2.2.2.1 fC.2.2.2.2.2
  refine⟨_,_,I8,p _ _ (μ4++[D]) ((e2.trans e4).trans (Qp fD.1)) (Rep.set ((R.go (e2.trans e4) r4).go (Qp fD.1) (r4.push (o:=.lst accV) (u:=.lst ds) fD.1 ⟨accV,Qn,da.mono (Qp fD.1)⟩)) (.ref ?_) i)⟩
  rw[<-r4.len];simp
end
section
variable{X:Cx}{ca:Nat->Addr}{a b:Expr}{ma mb:ME}{pos:Pos}
theorem QjC:OpR X (binaryOp .Add) (λx y H Q=>∃a b ys,x=.ref a/\y=.ref b/\SqT X.K H a []/\SqT X.K H b ys/\Q (.ref b) H):=by
 intro pins s σ H x y v u Q I rx ry h
 obtain⟨a,b,ys,rfl,rfl,ha,hb,q⟩:=h
 cases rx
 cases ry
 obtain⟨us,r1,p1,_⟩:=I.tuple ha
 obtain⟨ts,r2,p2,_⟩:=I.tuple hb
 cases r1
 obtain⟨⟨cls,dd,data,sl⟩,ho,hc,n,hd⟩:=id p1
 obtain⟨⟨cls2,dd2,data2,sl2⟩,ho2,hc2,n2,hd2⟩:=id p2
 simp only at hc hd hc2 hd2
 subst hc hd hc2 hd2
 exact concat_meets ⟨_,ho,rfl⟩ ⟨_,ho2,rfl⟩ RX seq_tuple_add T9 T7 (T0 _ _)
   (tuple_addW0 a b _ _ n n2 dd dd2 sl sl2 (by simp)) ⟨ho,ho2,⟨.ref b,H,I,rfl,q⟩⟩
theorem QjD{K:Frag}:JD K ca (λx y H Q=>(((∃i j,x=.int i/\y=.int j/\Q (.int (i+j)) H)\/QmU K x y H Q)\/rCat x y H Q)\/(∃a b ys,x=.ref a/\y=.ref b/\SqT K H a []/\SqT K H b ys/\Q (.ref b) H)) pAdd:=by
 intro Φ σ H μ g x y dx dy Q r qx qy p
 unfold pAdd at p
 cases qx with
 |int i =>
  cases qy with
  |int j=>exact .inl (.inl (.inl ⟨i,j,rfl,rfl,p _ H μ .refl r (.int _)⟩))
  |_=>exact p.elim
 |@tup ax xs dsx hx hsx =>
  cases qy with
  |@tup ay ys dsy hy hsy =>
   dsimp only at p
   by_cases z:dsx.length+dsy.length<=SZ
   ·rw[Uc z]at p
    by_cases hx0:dsx=[]
    ·subst hx0
     cases hsx
     exact .inr ⟨ax,ay,ys,rfl,rfl,hx,hy,p _ H μ .refl r (.tup hy hsy)⟩
    ·refine .inl (.inl (.inr ⟨ax,ay,xs,ys,rfl,rfl,hx,hy,?_,by rw[hsx.length,hsy.length];exact Uv z JE,λe=>?_,λ_ t ht=>p _ _ μ (Zj ht) (r.new ht) (.tup (.of Qn) ((hsx.append hsy).mono (Zj ht)))⟩))
     ·rintro rfl
      cases hsx
      exact hx0 rfl
     ·subst e
      cases hsy
      rw[UY]at p
      exact p _ H μ .refl r (.tup hx hsx)
   ·rw[Ud z]at p;exact p.elim
  |_=>exact p.elim
 |@ref n an hn =>
  cases qy with
  |@ref m am hm =>
   dsimp only at p
   cases hg:g[n]? with
   |none=>rw[hg]at p;exact p.elim
   |some o =>
    cases hg2:g[m]? with
    |none=>rw[hg,hg2]at p;cases o <;> exact p.elim
    |some o2 =>
     rw[hg,hg2]at p
     obtain⟨a1,ha1,or1⟩:=r.addr hg
     obtain⟨a2,ha2,or2⟩:=r.addr hg2
     rw[hn]at ha1;cases ha1
     rw[hm]at ha2;cases ha2
     cases o with
     |lst xs =>
      cases o2 with
      |lst ys =>
       dsimp only at p
       obtain⟨vs,hH,q⟩:=or1
       obtain⟨ws,hH2,q2⟩:=or2
       by_cases z:xs.length+ys.length<=SZ
       ·rw[Uc z]at p
        refine .inl (.inr ⟨an,am,vs,ws,rfl,rfl,hH,hH2,by rw[q.length,q2.length];exact Uv z JE,λt ht=>p _ _ (μ++[t]) (Qp ht) (r.push ht ⟨_,Qn,(q.append q2).mono (Qp ht)⟩) (.ref ?_)⟩)
        rw[<-r.len];simp
       ·rw[Ud z]at p;exact p.elim
      |_=>exact p.elim
     |_=>cases o2 <;> exact p.elim
  |_=>exact p.elim
 |_=>cases qy <;> exact p.elim
theorem ZL(ha:PE3 ca X a ma)(hb:PE3 ca X b mb):PE3 ca X (.BinOp a .Add b pos) (mOp2 pAdd ma mb) :=
 QhJ (λ_ _=>((op_add.or Qlo).or Qm0).or QjC) QjD ha hb
theorem QhT{K:Frag}{C:Int->Int->Prop}{h:Int->Int->V}{f:D->D->G->Res D}(hf:∀Φ σ i j g Q H μ,GRep K ca μ H g->Post K ca Φ σ Q H μ (f (.int i) (.int j) g)->C i j/\Q (h i j) H)(hn:∀Φ σ x y g Q H μ,Post K ca Φ σ Q H μ (f x y g)->∃i j,x=.int i/\y=.int j):JD K ca (rI C h) f:=by
 intro Φ σ H μ g x y dx dy Q r qx qy p
 obtain⟨i,j,rfl,rfl⟩:=hn Φ σ dx dy g Q H μ p
 cases qx
 cases qy
 obtain⟨c,q⟩:=hf Φ σ i j g Q H μ r p
 exact⟨i,j,rfl,rfl,c,q⟩
theorem QfR{K:Frag}{h:Int->Int->V}{f:D->D->G->Res D}(hf:∀Φ σ i j g Q H μ,GRep K ca μ H g->Post K ca Φ σ Q H μ (f (.int i) (.int j) g)->Q (h i j) H)(hn:∀Φ σ x y g Q H μ,Post K ca Φ σ Q H μ (f x y g)->∃i j,x=.int i/\y=.int j):JD K ca (rI0 h) f:=by
 intro Φ σ H μ g x y dx dy Q r qx qy p
 obtain⟨i,j,rfl,rfl⟩:=hn Φ σ dx dy g Q H μ p
 cases qx
 cases qy
 exact⟨i,j,rfl,rfl,hf Φ σ i j g Q H μ r p⟩
theorem QbH{K:Frag}{f:D->D->G->Res D}(h:∀x y g,(∃i j,x=D.int i/\y=D.int j)\/f x y g=.stuck)(Φ:XS)(σ:L2.St)(x y:D)(g:G)(Q:VK)(H:Hp)(μ:List Addr)(p:Post K ca Φ σ Q H μ (f x y g)):∃i j,x=.int i/\y=.int j:=by
 rcases h x y g with z|z
 ·exact z
 ·rw[z]at p;exact p.elim
theorem YX(ha:PE3 ca X a ma)(hb:PE3 ca X b mb):PE3 ca X (.BinOp a .Sub b pos) (mOp2 pSub ma mb) :=
 QhJ (λ_ _=>QmI) (QfR (λΦ σ i j g Q H μ r p=>p _ H μ .refl r (.int _)) (QbH λx y g=>by cases x <;> cases y <;> first|exact .inl ⟨_,_,rfl,rfl⟩|exact .inr rfl)) ha hb
theorem Zo(ha:PE3 ca X a ma)(hb:PE3 ca X b mb):PE3 ca X (.BinOp a .FloorDiv b pos) (mOp2 QN ma mb) :=
 QhJ (λ_ _=>Qld) (QhT (λΦ σ i j g Q H μ r p=>by
  unfold QN at p
  by_cases z:0<j/\j<1073741824
  ·dsimp only at p;rw[Uc z]at p;exact⟨z,p _ H μ .refl r (.int _)⟩
  ·dsimp only at p;rw[Ud z]at p;exact p.elim) (QbH λx y g=>by cases x <;> cases y <;> first|exact .inl ⟨_,_,rfl,rfl⟩|exact .inr rfl)) ha hb
theorem Q9(ha:PE3 ca X a ma)(hb:PE3 ca X b mb):PE3 ca X (.BinOp a .Mod b pos) (mOp2 pMod ma mb) :=
 QhJ (λ_ _=>QmJ) (QhT (λΦ σ i j g Q H μ r p=>by
  unfold pMod at p
  by_cases z:0<j
  ·dsimp only at p;rw[Uc z]at p;exact⟨z,p _ H μ .refl r (.int _)⟩
  ·dsimp only at p;rw[Ud z]at p;exact p.elim) (QbH λx y g=>by cases x <;> cases y <;> first|exact .inl ⟨_,_,rfl,rfl⟩|exact .inr rfl)) ha hb
theorem Dens.rep{K:Frag}{μ:List Addr}{H:Hp}{vs:List V}{ds:List D}(h:Dens K μ H vs ds):∀k:Nat,Dens K μ H (List.replicate k vs).flatten (List.replicate k ds).flatten
 |0=>.nil
 |k+1=>by rw[UQ,UQ,Tz,Tz];exact h.append (Dens.rep h k)
theorem QjE{K:Frag}:JD K ca (λx y H Q=>(∃i j,x=.int i/\y=.int j/\(cM i\/cM j)/\Q (.int (i*j)) H)\/rRep x y H Q) pMul:=by
 intro Φ σ H μ g x y dx dy Q r qx qy p
 unfold pMul at p
 cases qx with
 |int i =>
  cases qy with
  |int j =>
   dsimp only at p
   by_cases z:cM i\/cM j
   ·rw[Uc z]at p;exact .inl ⟨i,j,rfl,rfl,z,p _ H μ .refl r (.int _)⟩
   ·rw[Ud z]at p;exact p.elim
  |_=>exact p.elim
 |@ref n an hn =>
  cases qy with
  |int k =>
   dsimp only at p
   cases hg:g[n]? with
   |none=>rw[hg]at p;exact p.elim
   |some o =>
    rw[hg]at p
    obtain⟨a1,ha1,or1⟩:=r.addr hg
    rw[hn]at ha1;cases ha1
    cases o with
    |lst xs =>
     obtain⟨vs,hH,q⟩:=or1
     dsimp only at p
     by_cases z:(0<=k/\k<1073741824)/\xs.length*k.toNat<=SZ
     ·rw[Uc z]at p
      refine .inr ⟨an,k,vs,rfl,rfl,hH,by omega,by omega,by rw[q.length];exact Uv z.2 JE,λt ht=>p _ _ (μ++[t]) (Qp ht) (r.push ht ⟨_,Qn,(q.rep k.toNat).mono (Qp ht)⟩) (.ref ?_)⟩
      rw[<-r.len];simp
     ·rw[Ud z]at p;exact p.elim
    |_=>exact p.elim
  |_=>exact p.elim
 |_=>cases qy <;> exact p.elim
theorem QgG(ha:PE3 ca X a ma)(hb:PE3 ca X b mb):PE3 ca X (.BinOp a .Mult b pos) (mOp2 pMul ma mb) :=
 QhJ (λ_ _=>op_mul.or Qm1) QjE ha hb
theorem Qaw(ha:PE3 ca X a ma):PE3 ca X (.UnaryOp .USub a pos) (mOp1 pNeg ma) :=
 r_un (λ_ _=>QmK) (λΦ σ H μ g x dx Q r qx p=>by
  cases qx with
  |int i=>exact⟨i,rfl,p _ H μ .refl r (.int _)⟩
  |_=>exact p.elim) ha
theorem Yz{K:Frag}(r:Int->Int->Bool):JD K ca (rI0 λi j=>.bl (r i j)) (pCmp r) :=
 QfR (λΦ σ i j g Q H μ r p=>p _ H μ .refl r (.bl _)) (QbH λx y g=>by cases x <;> cases y <;> first|exact .inl ⟨_,_,rfl,rfl⟩|exact .inr rfl)
theorem r_lt(ha:PE3 ca X a ma)(hb:PE3 ca X b mb):PE3 ca X (.Compare a [.Lt] [b] pos) (mOp2 pLt ma mb):=QgE (λ_ _=>Qle) (Yz _) ha hb (Jl b)
theorem r_gt(ha:PE3 ca X a ma)(hb:PE3 ca X b mb):PE3 ca X (.Compare a [.Gt] [b] pos) (mOp2 pGt ma mb):=QgE (λ_ _=>QmM) (Yz _) ha hb (Jl b)
theorem r_ge(ha:PE3 ca X a ma)(hb:PE3 ca X b mb):PE3 ca X (.Compare a [.GtE] [b] pos) (mOp2 pGe ma mb):=QgE (λ_ _=>QmN) (Yz _) ha hb (Jl b)
theorem Qnc(ha:PE3 ca X a ma)(hb:PE3 ca X b mb):PT3 ca X (.Compare a [.Lt] [b] pos) (Qk (mOp2 pLt ma mb)):=J7 (λ_ _=>Qle) (Yz _) ha hb (Jl b)
theorem Qot(ha:PE3 ca X a ma)(hb:PE3 ca X b mb):PT3 ca X (.Compare a [.LtE] [b] pos) (Qk (mOp2 pLe ma mb)):=J7 (λ_ _=>QmL) (Yz _) ha hb (Jl b)
theorem Qb4(ha:PE3 ca X a ma)(hb:PE3 ca X b mb):PT3 ca X (.Compare a [.Gt] [b] pos) (Qk (mOp2 pGt ma mb)):=J7 (λ_ _=>QmM) (Yz _) ha hb (Jl b)
theorem Qnd(ha:PE3 ca X a ma)(hb:PE3 ca X b mb):PT3 ca X (.Compare a [.GtE] [b] pos) (Qk (mOp2 pGe ma mb)):=J7 (λ_ _=>QmN) (Yz _) ha hb (Jl b)
end
section
variable{X:Cx}{ca:Nat->Addr}{pins:List (Addr×Obj)}{σ:L2.St}{H:Hp}{s:Shared}{μ:List Addr}{g:G}
theorem QaV{eq:D->D->Option Bool}:∀(xs ys:List D)(b:Bool),eqGs eq xs ys=some b->∃e:Nat->Bool,(∀(j:Nat)(x y:D),xs[j]?=some x->ys[j]?=some y->eq x y=some (e j)) /\
  b=((List.range (min xs.length ys.length)).all e && (xs.length == ys.length))
 |[],[],b,h=>by cases h;exact⟨λ_=>true,λj x y h=>by simp at h,by simp⟩
 |[],_::ys,b,h=>by cases h;exact⟨λ_=>true,λj x y h=>by simp at h,by simp⟩
 |_::xs,[],b,h=>by cases h;exact⟨λ_=>true,λj x y _ h=>by simp at h,by simp⟩
 |x::xs,y::ys,b,h=>by
  unfold eqGs at h
  cases h1:eq x y with
  |none=>rw[h1]at h;cases h
  |some c =>
   cases h2:eqGs eq xs ys with
   |none=>rw[h1,h2]at h;cases h
   |some d =>
    rw[h1,h2]at h
    cases h
    obtain⟨e,e1,e2⟩:=QaV xs ys d h2
    refine⟨λj=>match j with|0=>c|j+1=>e j,λj x' y' hx hy=>?_,?_⟩
    ·cases j with
     |zero =>
      simp at hx hy
      subst hx hy
      exact h1
     |succ j =>
      simp at hx hy
      exact e1 j x' y' hx hy
    ·rw[UR,UR,Nat.add_min_add_right,List.range_succ_eq_map,Rl,List.all_map,e2]
     simp[Function.comp_def,Bool.and_assoc]
theorem QbI{A:Around}{eq:D->D->Option Bool}{vs ws:List V}{ds es:List D}{us ts:List Value}{e:Nat->Bool}(qv:Dens X.K μ H vs ds)(qw:Dens X.K μ H ws es)(rv:Vals vs us)(rw':Vals ws ts)(he:∀(j:Nat) (x y:D),ds[j]?=some x->es[j]?=some y->eq x y=some (e j))(ih:∀{v w:V} {d d':D} {u t:Value} {b:Bool},Den X.K μ H v d->Den X.K μ H w d'->RelV v u->RelV w t->eq d d'=some b->SeqAt.EqAt A s u t b):
  ∀(j:Nat)(h1:j<us.toArray.size)(h2:j<ts.toArray.size),SeqAt.EqAt A s us.toArray[j] ts.toArray[j] (e j):=by
 intro j h1 h2
 have l1:j<us.length:=by simpa using h1
 have l2:j<ts.length:=by simpa using h2
 have l3:j<vs.length:=by rw[rv.length];exact l1
 have l4:j<ws.length:=by rw[rw'.length];exact l2
 obtain⟨x,hx,qx⟩:=qv.getV (i:=j) (v:=vs[j]) (by simp[l3])
 obtain⟨y,hy,qy⟩:=qw.getV (i:=j) (v:=ws[j]) (by simp[l4])
 obtain⟨u,hu,ru⟩:=rv.get (i:=j) (x:=vs[j]) (by simp[l3])
 obtain⟨t,ht,rt⟩:=rw'.get (i:=j) (x:=ws[j]) (by simp[l4])
 have eu:us.toArray[j]=u:=by
  have:us[j]?=some us[j]:=by simp[l1]
  rw[this]at hu;simpa using hu
 have et:ts.toArray[j]=t:=by
  have:ts[j]?=some ts[j]:=by simp[l2]
  rw[this]at ht;simpa using ht
 rw[eu,et]
 exact ih qx qy ru rt (he j x y hx hy)
theorem QhU{A:Around}{eq:D->D->Option Bool}{a c:Addr}{vs ws:List V}{ds es:List D}{b:Bool}(hu:A.units<cLine)(I:Inv X pins σ H s)(h1:SqT X.K H a vs)(q1:Dens X.K μ H vs ds)(h2:SqT X.K H c ws)(q2:Dens X.K μ H ws es)(ih:∀{v w:V} {d d':D} {u t:Value} {b:Bool},Den X.K μ H v d->Den X.K μ H w d'->RelV v u->RelV w t->eq d d'=some b->SeqAt.EqAt A.in1 s u t b)(h:eqGs eq ds es=some b):SeqAt.RcAt A s (.ref a) (.ref c) b:=by
 obtain⟨us,r1,p1,_⟩:=I.tuple h1
 obtain⟨ts,r2,p2,_⟩:=I.tuple h2
 obtain⟨e,e1,e2⟩:=QaV ds es b h
 have q:=SeqAt.RcAt.tuples (A:=A) p1 p2 hu (e:=e) (QbI q1 q2 r1 r2 e1 ih)
 have l1:us.toArray.size=ds.length:=by rw[Uf,<-r1.length,q1.length]
 have l2:ts.toArray.size=es.length:=by rw[Uf,<-r2.length,q2.length]
 rw[l1,l2]at q
 rw[e2]
 exact q
theorem QhV{A:Around}{eq:D->D->Option Bool}{a c:Addr}{vs ws:List V}{ds es:List D}{b:Bool}(hu:A.units<cLine)(I:Inv X pins σ H s)(h1:SqL X.K H a vs)(q1:Dens X.K μ H vs ds)(h2:SqL X.K H c ws)(q2:Dens X.K μ H ws es)(ih:∀{v w:V} {d d':D} {u t:Value} {b:Bool},Den X.K μ H v d->Den X.K μ H w d'->RelV v u->RelV w t->eq d d'=some b->SeqAt.EqAt A.in1 s u t b)(h:(if ds.length=es.length then eqGs eq ds es else some false)=some b):SeqAt.RcAt A s (.ref a) (.ref c) b:=by
 obtain⟨us,r1,p1,_⟩:=I.list h1
 obtain⟨ts,r2,p2,_⟩:=I.list h2
 have l1:us.toArray.size=ds.length:=by rw[Uf,<-r1.length,q1.length]
 have l2:ts.toArray.size=es.length:=by rw[Uf,<-r2.length,q2.length]
 by_cases hl:ds.length=es.length
 ·rw[Uc hl]at h
  obtain⟨e,e1,e2⟩:=QaV ds es b h
  have q:=SeqAt.RcAt.lists (A:=A) p1.isList p2.isList (by rw[l1,l2,hl]) hu (e:=e) (QbI q1 q2 r1 r2 e1 ih)
  rw[l1]at q
  rw[e2,<-hl,Nat.min_self]
  simpa using q
 ·rw[Ud hl]at h
  cases h
  exact SeqAt.RcAt.lists_lengths p1.isList p2.isList (by rw[l1,l2];simpa using hl) hu
theorem Qeg{K:Frag}{μ:List Addr}{H:Hp}:∀{vs:List V}{ds:List D}{ns:List Int},Dens K μ H vs ds->Qd9 ds=some ns->vs=ns.map V.int
 |_,_,ns,.nil,h=>by cases h;rfl
 |_,_,ns,.cons (ds:=ds) h1 h2,h=>by
  cases h1 with
  |int i =>
   unfold Qd9 at h
   cases hr:Qd9 ds with
   |none=>rw[hr]at h;cases h
   |some ms=>rw[hr]at h;cases h;rw[UG,Qeg h2 hr]
  |_=>cases h
theorem Qdn(I:Inv X pins σ H s):∀(f:Nat){v:V}{d e:D}{b:Bool},Den X.K μ H v d->Den X.K μ H v e->eqI f d e=some b->b=true
 |0,v,d,e,b,h1,h2,h=>by
  cases h1 with
  |int i=>cases h2;cases h;simp
  |_=>cases h
 |f+1,v,d,e,b,h1,h2,h=>by
  cases h1 with
  |int i=>cases h2;cases h;simp
  |tup t1 q1 =>
   cases h2 with
   |tup t2 q2 =>
    have ev:=I.tuple_inj t1 t2
    subst ev
    have h:eqGs (eqI f) _ _=some b:=h
    have key:∀{vs:List V}{ds es:List D}{b:Bool},Dens X.K μ H vs ds->Dens X.K μ H vs es->eqGs (eqI f) ds es=some b->b=true:=by
     intro vs
     induction vs with
     |nil=>intro ds es b a1 a2 a3;cases a1;cases a2;cases a3;rfl
     |cons w ws ih =>
      intro ds es b a1 a2 a3
      cases a1 with
      |cons c1 c2=>cases a2 with
       |cons c3 c4 =>
        rename_i x xs y ys
        unfold eqGs at a3
        cases h1:eqI f x y with
        |none=>rw[h1]at a3;cases a3
        |some b1 =>
         cases h2:eqGs (eqI f) xs ys with
         |none=>rw[h1,h2]at a3;cases a3
         |some b2 =>
          rw[h1,h2]at a3
          cases a3
          rw[Qdn I f c1 c3 h1,ih c2 c4 h2];rfl
    exact key q1 q2 h
   |_=>cases h
  |_=>cases h2 <;> cases h
theorem Qeh(I:Inv X pins σ H s):∀(f:Nat){A:Around}{v w:V}{d e:D}{u t:Value}{b:Bool},A.units+f<cLine->Den X.K μ H v d->Den X.K μ H w e->RelV v u->RelV w t->eqI f d e=some b->SeqAt.EqAt A s u t b
 |0,A,v,w,d,e,u,t,b,hu,qv,qw,rv,rw',h=>by
  cases qv with
  |int i =>
   cases qw with
   |int j=>obtain⟨y,rfl⟩:=rv;obtain⟨z,rfl⟩:=rw';cases h;exact RI _ _ _ _
   |_=>cases h
  |_=>cases h
 |f+1,A,v,w,d,e,u,t,b,hu,qv,qw,rv,rw',h=>by
  cases qv with
  |int i =>
   cases qw with
   |int j=>obtain⟨y,rfl⟩:=rv;obtain⟨z,rfl⟩:=rw';cases h;exact RI _ _ _ _
   |_=>cases h
  |tup h1 q1 =>
   cases qw with
   |tup h2 q2 =>
    cases rv;cases rw'
    rename_i a1 vs ds a2 ws es
    by_cases ea:a1=a2
    ·subst ea
     rw[Qdn I (f+1) (.tup h1 q1) (.tup h2 q2) h]
     exact Wh _
    ·exact SeqAt.EqAt.of_refs ea (QhU (by omega) I h1 q1 h2 q2 (λa1 a2 a3 a4 a5=>Qeh I f (by show A.units+1+f<cLine;omega) a1 a2 a3 a4 a5) h)
   |_=>cases h
  |_=>cases qw <;> cases h
noncomputable def rEqI(K:Frag):R2:=λx y H Q=>∃(μ:List Addr)(a c:Addr)(vs ws:List V)(ds es:List D)(b:Bool),x=.ref a/\y=.ref c/\Dens K μ H vs ds/\Dens K μ H ws es/\((SqT K H a vs/\SqT K H c ws/\eqGs (eqI 2) ds es=some b)\/(SqL K H a vs/\SqL K H c ws/\(if ds.length=es.length then eqGs (eqI 2) ds es else some false)=some b))/\Q (.bl b) H
theorem QkO(hu:X.A.units+16<cLine):OpR X (compareOp .Eq) (rEqI X.K):=by
 intro pins s σ H x y v u Q I rx ry h
 obtain⟨μ,a,c,vs,ws,ds,es,b,rfl,rfl,q1,q2,h,q⟩:=h
 cases rx;cases ry
 have ih:∀{v w:V}{d d':D}{u t:Value}{b:Bool},Den X.K μ H v d->Den X.K μ H w d'->RelV v u->RelV w t->eqI 2 d d'=some b->SeqAt.EqAt X.A.in1 s u t b:=λa1 a2 a3 a4 a5=>Qeh I 2 (by show X.A.units+1+2<cLine;omega) a1 a2 a3 a4 a5
 rcases h with⟨h1,h2,h3⟩|⟨h1,h2,h3⟩
 ·exact(QhU (A:=X.A) (by omega) I h1 q1 h2 q2 ih h3) _ _ _ _ ⟨.bl b,H,I,rfl,q⟩
 ·exact(QhV (A:=X.A) (by omega) I h1 q1 h2 q2 ih h3) _ _ _ _ ⟨.bl b,H,I,rfl,q⟩
noncomputable def Qne(K:Frag):R2:=λx y H Q=>∃(a:Addr)(vs:List V)(t:Str),x=.ref a/\y=.str t/\SqT K H a vs/\Q (.bl false) H
theorem QhW(hu:X.A.units+16<cLine):OpR X (compareOp .Eq) (Qne X.K):=by
 intro pins s σ H x y v u Q I rx ry h
 obtain⟨a,vs,t,rfl,rfl,hq,q⟩:=h
 cases rx
 obtain⟨z,rfl⟩:=ry
 obtain⟨its,_,p1,_⟩:=I.tuple hq
 exact(SeqAt.RcAt.tuple_str (A:=X.A) t z p1 (by omega)) _ _ _ _ ⟨.bl false,H,I,rfl,q⟩
theorem QhX{K:Frag}:JD K ca (λx y H Q=>(rEq x y H Q\/rEqI K x y H Q)\/Qne K x y H Q) pEq:=by
 intro Φ σ H μ g x y dx dy Q r qx qy p
 unfold pEq eqT at p
 cases qx with
 |non =>
  cases qy with
  |int j=>exact .inl (.inl ⟨rfl,by rw[show decide (V.non=V.int j)=false by simp];exact p _ H μ .refl r (.bl _)⟩)
  |_=>exact p.elim
 |int i =>
  cases qy with
  |int j=>exact .inl (.inl ⟨rfl,by rw[Qdc];exact p _ H μ .refl r (.bl _)⟩)
  |_=>exact p.elim
 |str i =>
  cases qy with
  |str j=>exact .inl (.inl ⟨rfl,by rw[Qdd];exact p _ H μ .refl r (.bl _)⟩)
  |_=>exact p.elim
 |bl i =>
  cases qy with
  |bl j=>exact .inl (.inl ⟨rfl,by rw[QfG];exact p _ H μ .refl r (.bl _)⟩)
  |_=>exact p.elim
 |tup h1 q1 =>
  cases qy with
  |tup h2 q2 =>
   rename_i a vs ds c ws es
   dsimp only at p
   cases e:eqGs (eqI 2) ds es with
   |none=>rw[e]at p;exact p.elim
   |some b=>rw[e]at p;exact .inl (.inr ⟨μ,a,c,vs,ws,ds,es,b,rfl,rfl,q1,q2,.inl ⟨h1,h2,e⟩,p _ H μ .refl r (.bl _)⟩)
  |str t=>rename_i a vs ds;exact .inr ⟨a,vs,t,rfl,rfl,h1,p _ H μ .refl r (.bl _)⟩
  |_=>exact p.elim
 |@ref n a hn =>
  cases qy with
  |@ref m c hm =>
   dsimp only at p
   cases hg:g[n]? with
   |none=>rw[hg]at p;exact p.elim
   |some o1 =>
    cases hg2:g[m]? with
    |none=>rw[hg,hg2]at p;cases o1 <;> exact p.elim
    |some o2 =>
     rw[hg,hg2]at p
     obtain⟨b1,hb1,ob1⟩:=r.addr hg
     obtain⟨b2,hb2,ob2⟩:=r.addr hg2
     rw[hn]at hb1;cases hb1
     rw[hm]at hb2;cases hb2
     cases o1 with
     |lst xs =>
      cases o2 with
      |lst ys =>
       obtain⟨vs,hH1,q1⟩:=ob1
       obtain⟨ws,hH2,q2⟩:=ob2
       dsimp only at p
       cases e:(if xs.length=ys.length then eqGs (eqI 2) xs ys else some false) with
       |none=>rw[e]at p;exact p.elim
       |some b=>rw[e]at p;exact .inl (.inr ⟨μ,a,c,vs,ws,xs,ys,b,rfl,rfl,q1,q2,.inr ⟨.of hH1,.of hH2,e⟩,p _ H μ .refl r (.bl _)⟩)
      |_=>exact p.elim
     |_=>cases o2 <;> exact p.elim
  |_=>exact p.elim
 |_=>cases qy <;> exact p.elim
theorem QhY{A:Around}{eq:D->D->Option Bool}{a c:Addr}{vs ws:List V}{ds es:List D}{b:Bool}(hu:A.units<cLine)(I:Inv X pins σ H s)(h1:SqL X.K H a vs)(q1:Dens X.K μ H vs ds)(h2:SqL X.K H c ws)(q2:Dens X.K μ H ws es)(ih:∀{v w:V} {d d':D} {u t:Value} {b:Bool},Den X.K μ H v d->Den X.K μ H w d'->RelV v u->RelV w t->eq d d'=some b->SeqAt.EqAt A.in1 s u t b)(h:(if ds.length=es.length then eqGs eq ds es else some false)=some b):SeqAt.RcNeAt A s (.ref a) (.ref c) (!b):=by
 obtain⟨us,r1,p1,_⟩:=I.list h1
 obtain⟨ts,r2,p2,_⟩:=I.list h2
 have l1:us.toArray.size=ds.length:=by rw[Uf,<-r1.length,q1.length]
 have l2:ts.toArray.size=es.length:=by rw[Uf,<-r2.length,q2.length]
 by_cases hl:ds.length=es.length
 ·rw[Uc hl]at h
  obtain⟨e,e1,e2⟩:=QaV ds es b h
  have q:=SeqAt.RcNeAt.lists (A:=A) p1.isList p2.isList (by rw[l1,l2,hl]) hu (e:=e) (QbI q1 q2 r1 r2 e1 ih)
  rw[l1]at q
  rw[e2,<-hl,Nat.min_self]
  simpa using q
 ·rw[Ud hl]at h
  cases h
  exact SeqAt.RcNeAt.lists_lengths p1.isList p2.isList (by rw[l1,l2];simpa using hl) hu
noncomputable def rNeI(K:Frag):R2:=λx y H Q=>∃(μ:List Addr)(a c:Addr)(vs ws:List V)(ds es:List D)(b:Bool),x=.ref a/\y=.ref c/\Dens K μ H vs ds/\Dens K μ H ws es/\SqL K H a vs/\SqL K H c ws/\(if ds.length=es.length then eqGs (eqI 2) ds es else some false)=some b/\Q (.bl (!b)) H
theorem Qnf(hu:X.A.units+16<cLine):OpR X (compareOp .NotEq) (rNeI X.K):=by
 intro pins s σ H x y v u Q I rx ry h
 obtain⟨μ,a,c,vs,ws,ds,es,b,rfl,rfl,q1,q2,h1,h2,h3,q⟩:=h
 cases rx;cases ry
 have ih:∀{v w:V}{d d':D}{u t:Value}{b:Bool},Den X.K μ H v d->Den X.K μ H w d'->RelV v u->RelV w t->eqI 2 d d'=some b->SeqAt.EqAt X.A.in1 s u t b:=λa1 a2 a3 a4 a5=>Qeh I 2 (by show X.A.units+1+2<cLine;omega) a1 a2 a3 a4 a5
 exact(QhY (A:=X.A) (by omega) I h1 q1 h2 q2 ih h3) _ _ _ _ ⟨.bl (!b),H,I,rfl,q⟩
theorem QhZ{A:Around}{eq:D->D->Option Bool}{a c:Addr}{vs ws:List V}{ds es:List D}{b:Bool}(hu:A.units<cLine)(I:Inv X pins σ H s)(h1:SqT X.K H a vs)(q1:Dens X.K μ H vs ds)(h2:SqT X.K H c ws)(q2:Dens X.K μ H ws es)(ih:∀{v w:V} {d d':D} {u t:Value} {b:Bool},Den X.K μ H v d->Den X.K μ H w d'->RelV v u->RelV w t->eq d d'=some b->SeqAt.EqAt A.in1 s u t b)(h:eqGs eq ds es=some b):SeqAt.RcNeAt A s (.ref a) (.ref c) (!b):=by
 obtain⟨us,r1,p1,_⟩:=I.tuple h1
 obtain⟨ts,r2,p2,_⟩:=I.tuple h2
 obtain⟨e,e1,e2⟩:=QaV ds es b h
 have q:=SeqAt.RcNeAt.tuples (A:=A) p1 p2 hu (e:=e) (QbI q1 q2 r1 r2 e1 ih)
 have l1:us.toArray.size=ds.length:=by rw[Uf,<-r1.length,q1.length]
 have l2:ts.toArray.size=es.length:=by rw[Uf,<-r2.length,q2.length]
 rw[l1,l2]at q
 rw[e2]
 exact q
theorem Qei(I:Inv X pins σ H s)(f:Nat):∀{vs:List V}{ds es:List D}{b:Bool},Dens X.K μ H vs ds->Dens X.K μ H vs es->eqGs (eqI f) ds es=some b->b=true
 |[],ds,es,b,a1,a2,a3=>by cases a1;cases a2;cases a3;rfl
 |w::ws,ds,es,b,a1,a2,a3=>by
  cases a1 with
  |cons c1 c2=>cases a2 with
   |cons c3 c4 =>
    rename_i x xs y ys
    unfold eqGs at a3
    cases h1:eqI f x y with
    |none=>rw[h1]at a3;cases a3
    |some b1 =>
     cases h2:eqGs (eqI f) xs ys with
     |none=>rw[h1,h2]at a3;cases a3
     |some b2 =>
      rw[h1,h2]at a3
      cases a3
      rw[Qdn I f c1 c3 h1,Qei I f c2 c4 h2];rfl
theorem Qng{A:Around}{v w:V}{d e:D}{u t:Value}{b:Bool}(I:Inv X pins σ H s)(r:GRep X.K ca μ H g)(hu:A.units+4<cLine)(qv:Den X.K μ H v d)(qw:Den X.K μ H w e)(rv:RelV v u)(rw':RelV w t)(h:eqR g d e=some b):SeqAt.EqAt A s u t b:=by
 have key:(∃n m,d=.ref n/\e=.ref m)\/eqR g d e=eqI 2 d e:=by
  cases d <;> cases e <;> first|exact .inl ⟨_,_,rfl,rfl⟩|exact .inr rfl
 rcases key with⟨n,m,rfl,rfl⟩|key
 ·cases qv with
  |@ref _ a hn =>
   cases qw with
   |@ref _ c hm =>
    unfold eqR at h
    dsimp only at h
    cases hg:g[n]? with
    |none=>rw[hg]at h;cases h
    |some o1 =>
     cases hg2:g[m]? with
     |none=>rw[hg,hg2]at h;cases o1 <;> cases h
     |some o2 =>
      rw[hg,hg2]at h
      obtain⟨b1,hb1,ob1⟩:=r.addr hg
      obtain⟨b2,hb2,ob2⟩:=r.addr hg2
      rw[hn]at hb1;cases hb1
      rw[hm]at hb2;cases hb2
      cases o1 with
      |lst xs =>
       cases o2 with
       |lst ys =>
        obtain⟨vs,hH1,q1⟩:=ob1
        obtain⟨ws,hH2,q2⟩:=ob2
        dsimp only at h
        cases rv;cases rw'
        by_cases ea:a=c
        ·subst ea
         have ev:vs=ws:=by rw[hH1]at hH2;cases hH2;rfl
         subst ev
         rw[Uc (by rw[<-q1.length,<-q2.length])]at h
         rw[Qei I 2 q1 q2 h]
         exact Wh _
        ·exact SeqAt.EqAt.of_refs ea (QhV (by omega) I (.of hH1) q1 (.of hH2) q2 (λa1 a2 a3 a4 a5=>Qeh I 2 (by show A.units+1+2<cLine;omega) a1 a2 a3 a4 a5) h)
       |_=>cases h
      |_=>cases o2 <;> cases h
 ·rw[key]at h
  exact Qeh I 2 (by omega) qv qw rv rw' h
noncomputable def rNeT(K:Frag)(ca:Nat->Addr):R2:=λx y H Q=>∃(μ:List Addr)(g:G)(a c:Addr)(vs ws:List V)(ds es:List D)(b:Bool),GRep K ca μ H g/\x=.ref a/\y=.ref c/\Dens K μ H vs ds/\Dens K μ H ws es/\SqT K H a vs/\SqT K H c ws/\eqGs (eqR g) ds es=some b/\Q (.bl (!b)) H
theorem Qnh(hu:X.A.units+16<cLine):OpR X (compareOp .NotEq) (rNeT X.K ca):=by
 intro pins s σ H x y v u Q I rx ry h
 obtain⟨μ,g,a,c,vs,ws,ds,es,b,r,rfl,rfl,q1,q2,h1,h2,h3,q⟩:=h
 cases rx;cases ry
 exact(QhZ (A:=X.A) (by omega) I h1 q1 h2 q2 (λa1 a2 a3 a4 a5=>Qng I r (by show X.A.units+1+4<cLine;omega) a1 a2 a3 a4 a5) h3) _ _ _ _ ⟨.bl (!b),H,I,rfl,q⟩
theorem Qlx{K:Frag}:JD K ca (λx y H Q=>(rNe x y H Q\/rNeI K x y H Q)\/rNeT K ca x y H Q) pNe:=by
 intro Φ σ H μ g x y dx dy Q r qx qy p
 unfold pNe neT at p
 cases qx with
 |int i =>
  cases qy with
  |non=>exact .inl (.inl ⟨rfl,by rw[show decide (V.int i=V.non)=false by simp];exact p _ H μ .refl r (.bl _)⟩)
  |int j=>exact .inl (.inl ⟨rfl,by rw[Qdc];exact p _ H μ .refl r (.bl _)⟩)
  |_=>exact p.elim
 |str i =>
  cases qy with
  |str j=>exact .inl (.inl ⟨rfl,by rw[Qdd];exact p _ H μ .refl r (.bl _)⟩)
  |_=>exact p.elim
 |tup h1 q1 =>
  cases qy with
  |tup h2 q2 =>
   rename_i a vs ds c ws es
   dsimp only at p
   cases e:eqGs (eqR g) ds es with
   |none=>rw[e]at p;exact p.elim
   |some b=>rw[e]at p;exact .inr ⟨μ,g,a,c,vs,ws,ds,es,b,r,rfl,rfl,q1,q2,h1,h2,e,p _ H μ .refl r (.bl _)⟩
  |_=>exact p.elim
 |bl i =>
  cases qy with
  |bl j=>exact .inl (.inl ⟨rfl,by rw[QfG];exact p _ H μ .refl r (.bl _)⟩)
  |_=>exact p.elim
 |@ref n a hn =>
  cases qy with
  |@ref m c hm =>
   dsimp only at p
   cases hg:g[n]? with
   |none=>rw[hg]at p;exact p.elim
   |some o1 =>
    cases hg2:g[m]? with
    |none=>rw[hg,hg2]at p;cases o1 <;> exact p.elim
    |some o2 =>
     rw[hg,hg2]at p
     obtain⟨b1,hb1,ob1⟩:=r.addr hg
     obtain⟨b2,hb2,ob2⟩:=r.addr hg2
     rw[hn]at hb1;cases hb1
     rw[hm]at hb2;cases hb2
     cases o1 with
     |lst xs =>
      cases o2 with
      |lst ys =>
       obtain⟨vs,hH1,q1⟩:=ob1
       obtain⟨ws,hH2,q2⟩:=ob2
       dsimp only at p
       cases e:(if xs.length=ys.length then eqGs (eqI 2) xs ys else some false) with
       |none=>rw[e]at p;exact p.elim
       |some b=>rw[e]at p;exact .inl (.inr ⟨μ,a,c,vs,ws,xs,ys,b,rfl,rfl,q1,q2,.of hH1,.of hH2,e,p _ H μ .refl r (.bl _)⟩)
      |_=>exact p.elim
     |_=>cases o2 <;> exact p.elim
  |_=>exact p.elim
 |_=>cases qy <;> exact p.elim
end
section
variable{X:Cx}{ca:Nat->Addr}{a b e:Expr}{ma mb me:ME}{pos p:Pos}{k:Nat}
theorem hu16{A:Around}(hr:Room k A):A.units+16<cLine:=by have:=hr.units;omega
theorem r_eq(hr:Room k X.A)(ha:PE3 ca X a ma)(hb:PE3 ca X b mb):PE3 ca X (.Compare a [.Eq] [b] pos) (mOp2 pEq ma mb):=QgE (λpn Φ=>(op_eq.or (QkO (X:=xat X ca pn Φ) (hu16 hr))).or (QhW (X:=xat X ca pn Φ) (hu16 hr))) QhX ha hb (Jl b)
theorem YY(hr:Room k X.A)(ha:PE3 ca X a ma)(hb:PE3 ca X b mb):PT3 ca X (.Compare a [.Eq] [b] pos) (Qk (mOp2 pEq ma mb)):=J7 (λpn Φ=>(op_eq.or (QkO (X:=xat X ca pn Φ) (hu16 hr))).or (QhW (X:=xat X ca pn Φ) (hu16 hr))) QhX ha hb (Jl b)
theorem Qb5(hr:Room k X.A)(ha:PE3 ca X a ma)(hb:PE3 ca X b mb):PT3 ca X (.Compare a [.NotEq] [b] pos) (Qk (mOp2 pNe ma mb)):=J7 (λpn Φ=>(op_ne.or (Qnf (X:=xat X ca pn Φ) (hu16 hr))).or (Qnh (X:=xat X ca pn Φ) (hu16 hr))) Qlx ha hb (Jl b)
theorem QfS{K:Frag}{μ:List Addr}{H:Hp}{x:V}{d:D}(q:Den K μ H x d):decide (x=.non)=isNon d:=by cases q <;> simp[isNon]
theorem Qh0{K:Frag}:JD K ca (λx y H Q=>y=.non/\Q (.bl (decide (x=.non))) H) pIs:=by
 intro Φ σ H μ g x y dx dy Q r qx qy p
 cases qy with
 |non=>exact⟨rfl,p _ H μ .refl r (by rw[QfS qx];exact .bl _)⟩
 |_=>exact p.elim
theorem QgH{K:Frag}:JD K ca (λx y H Q=>y=.non/\Q (.bl (!decide (x=.non))) H) QaQ:=by
 intro Φ σ H μ g x y dx dy Q r qx qy p
 cases qy with
 |non=>exact⟨rfl,p _ H μ .refl r (by rw[QfS qx];exact .bl _)⟩
 |_=>exact p.elim
theorem r_is(ha:PE3 ca X a ma)(hb:PE3 ca X b mb):PE3 ca X (.Compare a [.Is] [b] pos) (mOp2 pIs ma mb):=QgE (λ_ _=>QkD) Qh0 ha hb (Jl b)
theorem Qh1(ha:PE3 ca X a ma)(hb:PE3 ca X b mb):PT3 ca X (.Compare a [.Is] [b] pos) (Qk (mOp2 pIs ma mb)):=J7 (λ_ _=>QkD) Qh0 ha hb (Jl b)
theorem QfT(ha:PE3 ca X a ma)(hb:PE3 ca X b mb):PT3 ca X (.Compare a [.IsNot] [b] pos) (Qk (mOp2 QaQ ma mb)):=J7 (λ_ _=>Qlf) QgH ha hb (Jl b)
theorem Qdo{K:Frag}{μ:List Addr}{H:Hp}{vs:List V}{ds:List D}{i:Int}{d:D}(q:Dens K μ H vs ds)(h:atD ds i=some d):∃v,atI vs i=some v/\Den K μ H v d:=by
 unfold atD at h
 cases hj:ixD ds.length i with
 |none=>rw[hj]at h;cases h
 |some j =>
  rw[hj]at h
  obtain⟨v,h1,h2⟩:=q.get (show ds[j]?=some d from h)
  refine⟨v,?_,h2⟩
  unfold atI
  rw[q.length,show ixN ds.length i=some j from hj]
  exact h1
theorem Qly{K:Frag}:JD K ca (rIx K) pIx:=by
 intro Φ σ H μ g x y dx dy Q r qx qy p
 unfold pIx at p
 cases qx with
 |tup ht hs =>
  cases qy with
  |int i =>
   dsimp only at p
   rename_i a vs ds
   cases h:atD ds i with
   |none=>rw[h]at p;exact p.elim
   |some d =>
    rw[h]at p
    obtain⟨v,h1,h2⟩:=Qdo hs h
    exact .inr (.inl ⟨a,vs,i,v,rfl,rfl,ht,h1,p v H μ .refl r h2⟩)
  |_=>exact p.elim
 |fl ht hs =>
  cases qy with
  |int i =>
   dsimp only at p
   rename_i a vs ds
   cases h:atD ds i with
   |none=>rw[h]at p;exact p.elim
   |some d =>
    rw[h]at p
    obtain⟨v,h1,h2⟩:=Qdo hs h
    exact .inl ⟨a,vs,i,v,rfl,rfl,ht.sq,h1,p v H μ .refl r h2⟩
  |_=>exact p.elim
 |@ref n a hn =>
  cases qy with
  |int i =>
   dsimp only at p
   cases hg:g[n]? with
   |none=>rw[hg]at p;exact p.elim
   |some o =>
    rw[hg]at p
    obtain⟨a',ha',ob⟩:=r.addr hg
    rw[hn]at ha';cases ha'
    cases o with
    |lst ds =>
     obtain⟨vs,hH,hs⟩:=ob
     dsimp only at p
     cases h:atD ds i with
     |none=>rw[h]at p;exact p.elim
     |some d =>
      rw[h]at p
      obtain⟨v,h1,h2⟩:=Qdo hs h
      exact .inl ⟨a,vs,i,v,rfl,rfl,.of hH,h1,p v H μ .refl r h2⟩
    |_=>exact p.elim
  |_=>exact p.elim
 |str s =>
  cases qy with
  |int i =>
   dsimp only at p
   by_cases z:s.length<=SZ
   ·rw[Uc z]at p
    cases h:atD s.cps.toList i with
    |none=>rw[h]at p;exact p.elim
    |some c =>
     rw[h]at p
     exact .inr (.inr ⟨s,i,c,rfl,rfl,Uv z JE,h,p _ H μ .refl r (.str _)⟩)
   ·rw[Ud z]at p;exact p.elim
  |_=>exact p.elim
 |_=>cases qy <;> exact p.elim
theorem Qi(ha:PE3 ca X a ma)(hb:PE3 ca X b mb)(hs:Qdf b:=by exact λ_ _=>rfl):PE3 ca X (.Subscript a b pos) (mOp2 pIx ma mb):=r_ix (λ_ _=>QmW) Qly ha hb hs
theorem QjF{x:Str}{id:String}{r:List V->Hp->VK->Prop}{f:D->G->Res D}(hc:∀pn Φ,CallR (xat X ca pn Φ) (.builtin id) r)(hm:X.mg x=none)(hv:bootBuiltins x=some (.builtin id))(hp:∀(Φ:XS) (σ:L2.St) (H:Hp) (μ:List Addr) (g:G) (y:V) (d:D) (Q:VK),GRep X.K ca μ H g->Den X.K μ H y d->Post X.K ca Φ σ Q H μ (f d g)->r [y] H Q)(he:PE3 ca X e me)(hg:Gl X x)(hn:x ≠ "__name__")(hdb:(x == ("__debug__" : Str))=false)(hs:starEach [e] X.env=[(false,eval e X.env)])(hpl:(backTo pos (starEach [] X.env)).any (·.1)=false):PE3 ca X (.Call (.Name x p) [e] [] pos) (mOp1 f me) :=
 λpn Φ=>Za (QaP (X:=xat X ca pn Φ) (hc pn Φ) hg hm hv (Jp he Qj hs pn Φ) hn hdb hs hpl) λσ H Q hQ=>by
  obtain⟨σ3,g,μ,R,q⟩:=hQ
  refine⟨σ3,g,μ,R,?_⟩
  unfold mOp1 at q
  unfold Qb mNil
  cases hm:me σ3 g with
  |raise _ _=>rw[hm]at q;exact q
  |stuck=>rw[hm]at q;exact q.elim
  |ok d g1 =>
   rw[hm,Res.bind_ok]at q
   rw[Res.bind_ok,Res.bind_ok]
   intro vs H1 μ1 e1 r1 q1
   cases q1 with
   |cons h1 h2 =>
    cases h2
    exact hp Φ σ H1 μ1 g1 _ d Q r1 h1 (q.go e1)
end
section
variable{X:Cx}{ca:Nat->Addr}{a b e o:Expr}{ma mb me mo:ME}{pos p apos:Pos}{k:Nat}
theorem r_ty{x:Str}{T:String}{r:List V->Hp->VK->Prop}{f:D->G->Res D}(hc:∀pn Φ,CallR (xat X ca pn Φ) (.type T) r)(hm:X.mg x=none)(hv:bootBuiltins x=some (.type T))(hp:∀(Φ:XS) (σ:L2.St) (H:Hp) (μ:List Addr) (g:G) (y:V) (d:D) (Q:VK),GRep X.K ca μ H g->Den X.K μ H y d->Post X.K ca Φ σ Q H μ (f d g)->r [y] H Q)(he:PE3 ca X e me)(hg:Gl X x)(hn:x ≠ "__name__")(hdb:(x == ("__debug__" : Str))=false)(hs:starEach [e] X.env=[(false,eval e X.env)])(hpl:(backTo pos (starEach [] X.env)).any (·.1)=false):PE3 ca X (.Call (.Name x p) [e] [] pos) (mOp1 f me) :=
 λpn Φ=>Za (Qhy (X:=xat X ca pn Φ) (hc pn Φ) hg hm hv (Jp he Qj hs pn Φ) hn hdb hs hpl) λσ H Q hQ=>by
  obtain⟨σ3,g,μ,R,q⟩:=hQ
  refine⟨σ3,g,μ,R,?_⟩
  unfold mOp1 at q
  unfold Qb mNil
  cases hm:me σ3 g with
  |raise _ _=>rw[hm]at q;exact q
  |stuck=>rw[hm]at q;exact q.elim
  |ok d g1 =>
   rw[hm,Res.bind_ok]at q
   rw[Res.bind_ok,Res.bind_ok]
   intro vs H1 μ1 e1 r1 q1
   cases q1 with
   |cons h1 h2 =>
    cases h2
    exact hp Φ σ H1 μ1 g1 _ d Q r1 h1 (q.go e1)
theorem ZS(hm:X.mg "len" = none)(he:PE3 ca X e me)(hg:Gl X "len":=by rfl)(hs:starEach [e] X.env=[(false,eval e X.env)]:=by rfl)(hpl:(backTo pos (starEach [] X.env)).any (·.1)=false:=by rfl):
  PE3 ca X (.Call (.Name "len" p) [e] [] pos) (mOp1 pLen me) :=
 QjF (r:=λxs H Q=>∃p ys,xs=[V.ref p]/\(SqL X.K H p ys\/SqT X.K H p ys)/\Q (V.int (ys.length:Int)) H) (λ_ _=>Qd5) hm boot_len (λΦ σ H μ g y d Q r q pp=>by
  unfold pLen at pp
  cases q with
  |@tup t vs ds ht hs=>exact⟨t,vs,rfl,.inr ht,pp _ H μ .refl r (by rw[hs.length];exact .int _)⟩
  |@fl t vs ds ht hs=>exact⟨t,vs,rfl,.inl ht.sq,pp _ H μ .refl r (by rw[hs.length];exact .int _)⟩
  |@ref n t hn =>
   dsimp only at pp
   cases hgn:g[n]? with
   |none=>rw[hgn]at pp;exact pp.elim
   |some ob =>
    rw[hgn]at pp
    obtain⟨t',ht',orp⟩:=r.addr hgn
    rw[hn]at ht';cases ht'
    cases ob with
    |lst ds=>obtain⟨vs,hH,q⟩:=orp;exact⟨t,vs,rfl,.inl (.of hH),pp _ H μ .refl r (by rw[q.length];exact .int _)⟩
    |_=>exact pp.elim
  |_=>exact pp.elim) he hg (by decide) (by decide) hs hpl
theorem Qh2(hm:X.mg "tuple" = none)(he:PE3 ca X e me)(hg:Gl X "tuple":=by rfl)(hs:starEach [e] X.env=[(false,eval e X.env)]:=by rfl)(hpl:(backTo pos (starEach [] X.env)).any (·.1)=false:=by rfl):
  PE3 ca X (.Call (.Name "tuple" p) [e] [] pos) (mOp1 QaR me) :=
 r_ty (r:=λxs H Q=>∃p ys,xs=[V.ref p]/\((SqL X.K H p ys/\∀l,H l=none->Q (.ref l) (upd H l (.tup ys)))\/(SqT X.K H p ys/\Q (.ref p) H))) (λ_ _=>Qdi) hm boot_tuple (λΦ σ H μ g y d Q r q pp=>by
  unfold QaR at pp
  cases q with
  |@tup t vs ds ht hs=>exact⟨t,vs,rfl,.inr ⟨ht,pp _ H μ .refl r (.tup ht hs)⟩⟩
  |@fl t vs ds ht hs=>exact⟨t,vs,rfl,.inl ⟨ht.sq,λl hl=>pp _ _ μ (Zj hl) (r.new hl) (.tup (.of Qn) (hs.mono (Zj hl)))⟩⟩
  |@ref n t hn =>
   dsimp only at pp
   cases hgn:g[n]? with
   |none=>rw[hgn]at pp;exact pp.elim
   |some ob =>
    rw[hgn]at pp
    obtain⟨t',ht',orp⟩:=r.addr hgn
    rw[hn]at ht';cases ht'
    cases ob with
    |lst ds=>obtain⟨vs,hH,q⟩:=orp;exact⟨t,vs,rfl,.inl ⟨.of hH,λl hl=>pp _ _ μ (Zj hl) (r.new hl) (.tup (.of Qn) (q.mono (Zj hl)))⟩⟩
    |_=>exact pp.elim
  |_=>exact pp.elim) he hg (by decide) (by decide) hs hpl
theorem Qh3(hm:X.mg "list" = none)(he:PE3 ca X e me)(hg:Gl X "list":=by rfl)(hs:starEach [e] X.env=[(false,eval e X.env)]:=by rfl)(hpl:(backTo pos (starEach [] X.env)).any (·.1)=false:=by rfl):
  PE3 ca X (.Call (.Name "list" p) [e] [] pos) (mOp1 Qba me) :=
 r_ty (r:=λxs H Q=>∃p ys,xs=[V.ref p]/\(SqL X.K H p ys\/SqT X.K H p ys)/\∀l,H l=none->Q (.ref l) (upd H l (.lst ys))) (λ_ _=>Qd6) hm boot_list (λΦ σ H μ g y d Q r q pp=>by
  have el:∀l:Addr,(μ++[l])[g.length]?=some l:=λl=>by rw[<-r.len];simp
  unfold Qba at pp
  cases q with
  |@fl t vs ds ht hs=>exact⟨t,vs,rfl,.inl ht.sq,λl hl=>pp _ _ (μ++[l]) (Qp hl) (r.push hl ⟨vs,Qn,hs.mono (Qp hl)⟩) (.ref (el l))⟩
  |@tup t vs ds ht hs=>exact⟨t,vs,rfl,.inr ht,λl hl=>pp _ _ (μ++[l]) (Qp hl) (r.push hl ⟨vs,Qn,hs.mono (Qp hl)⟩) (.ref (el l))⟩
  |@ref n t hn =>
   dsimp only at pp
   cases hgn:g[n]? with
   |none=>rw[hgn]at pp;exact pp.elim
   |some ob =>
    rw[hgn]at pp
    obtain⟨t',ht',orp⟩:=r.addr hgn
    rw[hn]at ht';cases ht'
    cases ob with
    |lst ds=>obtain⟨vs,hH,q⟩:=orp;exact⟨t,vs,rfl,.inl (.of hH),λl hl=>pp _ _ (μ++[l]) (Qp hl) (r.push hl ⟨vs,Qn,q.mono (Qp hl)⟩) (.ref (el l))⟩
    |_=>exact pp.elim
  |_=>exact pp.elim) he hg (by decide) (by decide) hs hpl
theorem Qlz(hm:X.mg "int" = none)(he:PE3 ca X e me)(hg:Gl X "int":=by rfl)(hs:starEach [e] X.env=[(false,eval e X.env)]:=by rfl)(hpl:(backTo pos (starEach [] X.env)).any (·.1)=false:=by rfl):
  PE3 ca X (.Call (.Name "int" p) [e] [] pos) (mOp1 pInt me) :=
 r_ty (λ_ _=>Qhu) hm boot_int (λΦ σ H μ g y d Q r q pp=>by
  cases q with
  |int i=>exact .inl ⟨i,rfl,pp _ H μ .refl r (.int _)⟩
  |bl b=>exact .inr ⟨b,rfl,pp _ H μ .refl r (.int _)⟩
  |_=>exact pp.elim) he hg (by decide) (by decide) hs hpl
theorem JF(ho:PE3 ca X o mo)(he:PE3 ca X e me)(hbase:attributeBase o "append" X.env (eval o X.env)=eval o X.env:=by rfl)(hfew:((backTo pos (starEach [e] X.env)).all (λx=>!x.1) && (backToKw pos (keywordEach [] X.env)).all (λx=>x.1.isSome) && decide ([e].length+([]:List Keyword).length+(if ([]:List Keyword).isEmpty then 0 else 1)<30))=true:=by rfl)(hline:(apos.endLine == pos.line)=true:=by rfl)(hs:starEach [e] X.env=(false,eval e X.env)::starEach [] X.env:=by rfl)(hplain:(backTo pos (starEach [] X.env)).any (·.1)=false:=by rfl):
  PE3 ca X (.Call (.Attribute o "append" apos) [e] [] pos) (Zv mo me) :=
 λpn Φ=>Za (Qlq (X:=xat X ca pn Φ) T8 PySem.F.slot_list_append PySem.F.type_list_append QhC (ho pn Φ) (Jp he Qj hs pn Φ) hbase hfew hline hs hplain) λσ H Q ⟨σ3,g,μ,R,q⟩=>Q5 (Jo R q) λx H1 hQ=>by
  obtain⟨d,g1,μ1,e1,R1,q1,p1⟩:=hQ
  cases q1 with
  |@ref n t hn =>
   dsimp only at p1
   cases hgn:g1[n]? with
   |none=>rw[hgn]at p1;exact p1.elim
   |some ob =>
    rw[hgn]at p1
    obtain⟨t',ht',orp⟩:=R1.g.addr hgn
    rw[hn]at ht';cases ht'
    cases ob with
    |lst ds0 =>
     obtain⟨vs0,hH0,_⟩:=orp
     dsimp only at p1
     refine⟨.inl ⟨rfl,_,.of hH0⟩,σ3,g1,μ1,R1,?_⟩
     unfold Qb mNil
     cases hm:me σ3 g1 with
     |raise _ _=>rw[hm]at p1;exact p1
     |stuck=>rw[hm]at p1;exact p1.elim
     |ok y g2 =>
      rw[hm,Res.bind_ok]at p1
      rw[Res.bind_ok,Res.bind_ok]
      intro vs H2 μ2 e2 r2 q2
      cases q2 with
      |@cons vy _ _ _ h1 h2 =>
       cases h2
       cases hg2:g2[n]? with
       |none=>rw[hg2]at p1;exact p1.elim
       |some ob2 =>
        rw[hg2]at p1
        obtain⟨t',ht',orp⟩:=r2.addr hg2
        rw[e2.at hn]at ht';cases ht'
        cases ob2 with
        |lst ds =>
         obtain⟨ws,hH,qs⟩:=orp
         dsimp only at p1
         by_cases z:ds.length<SZ
         ·rw[Uc z]at p1
          have ex:Ext X.K μ2 H2 μ2 (upd H2 t (.lst (ws++[vy]))):=J4 hH (by intro _ z;cases z) (by intro _ _ z;cases z)
          refine⟨t,ws,_,rfl,rfl,hH,by rw[qs.length];exact Ut z JE,p1 _ _ μ2 (e2.trans ex) ?_ .non⟩
          exact r2.set (e2.at hn) hH (by intro _ z;cases z) (by intro _ _ z;cases z) ⟨_,Qn,(qs.mono ex).append (.cons (h1.mono ex) .nil)⟩
         ·rw[Ud z]at p1;exact p1.elim
        |_=>exact p1.elim
    |_=>exact p1.elim
  |_=>exact p1.elim
theorem Dens.dropLast{K:Frag}{μ:List Addr}{H:Hp}{vs:List V}{ds:List D}(h:Dens K μ H vs ds):Dens K μ H vs.dropLast ds.dropLast:=by
 rw[Wn,Wn,h.length]
 exact h.take _
theorem Qou(ho:PE3 ca X o mo)(hbase:attributeBase o "pop" X.env (eval o X.env)=eval o X.env:=by rfl)(hline:(apos.endLine == pos.line)=true:=by rfl):PE3 ca X (.Call (.Attribute o "pop" apos) [] [] pos) (mOp1 pPop mo) :=
 λpn Φ=>Za (QkI (X:=xat X ca pn Φ) T8 PySem.F.slot_list_pop PySem.F.type_list_pop QmY (ho pn Φ) hbase hline) λσ H Q ⟨σ3,g,μ,R,q⟩=>Q5 (Jo R q) λx H1 hQ=>by
  obtain⟨d,g1,μ1,e1,R1,q1,p1⟩:=hQ
  unfold pPop at p1
  cases q1 with
  |@ref n t hn =>
   dsimp only at p1
   cases hgn:g1[n]? with
   |none=>rw[hgn]at p1;exact p1.elim
   |some ob =>
    rw[hgn]at p1
    obtain⟨t',ht',orp⟩:=R1.g.addr hgn
    rw[hn]at ht';cases ht'
    cases ob with
    |lst ds =>
     obtain⟨ws,hH,qs⟩:=orp
     dsimp only at p1
     cases hl:ds[ds.length-1]? with
     |none=>rw[hl]at p1;exact p1.elim
     |some y =>
      rw[hl]at p1
      obtain⟨v,h1,h2⟩:=qs.get hl
      have ex:Ext X.K μ1 H1 μ1 (upd H1 t (.lst ws.dropLast)):=J4 hH (by intro _ z;cases z) (by intro _ _ z;cases z)
      refine⟨.inl ⟨rfl,_,.of hH⟩,t,ws,v,rfl,rfl,hH,by rw[qs.length];exact h1,p1 v _ μ1 ex ?_ (h2.mono ex)⟩
      exact R1.g.set hn hH (by intro _ z;cases z) (by intro _ _ z;cases z) ⟨_,Qn,(qs.mono ex).dropLast⟩
    |_=>exact p1.elim
  |_=>exact p1.elim
end
def IsIt(b:Bool)(h:Heap)(i l:Addr)(k:Nat):Prop:=if b=true then h.IsListIter i l k else h.IsTupleIter i l k
def IsSq(b:Bool)(h:Heap)(l:Addr)(xs:Array Value):Prop:=if b=true then h.IsList l xs else h.IsTuple l xs
theorem IsIt.at{b:Bool}{h h':Heap}{i l:Addr}{k:Nat}(x:IsIt b h i l k)(hk:∀o,h.get? i=some o->h'.get? i=some o):IsIt b h' i l k:=by
 cases b
 ·exact Heap.IsTupleIter.at (show h.IsTupleIter i l k from x) hk
 ·exact Heap.IsListIter.at (show h.IsListIter i l k from x) hk
theorem IsSq.at{b:Bool}{h h':Heap}{l:Addr}{xs:Array Value}(x:IsSq b h l xs)(hk:∀o,h.get? l=some o->h'.get? l=some o):IsSq b h' l xs:=by
 cases b
 ·obtain⟨o,e,c⟩:=(show h.IsTuple l xs from x);exact⟨o,hk o e,c⟩
 ·obtain⟨o,e,c⟩:=(show h.IsList l xs from x);exact⟨o,hk o e,c⟩
theorem IsIt.lt{b:Bool}{h:Heap}{i l:Addr}{k:Nat}(x:IsIt b h i l k):i<h.objs.size:=by
 cases b
 ·obtain⟨o,e,_⟩:=(show h.IsTupleIter i l k from x);exact Uk e
 ·obtain⟨o,e,_⟩:=(show h.IsListIter i l k from x);exact Uk e
theorem IsIt.rec{b:Bool}{h:Heap}{i l:Addr}{k:Nat}(x:IsIt b h i l k):∃o,h.get? i=some o/\∀v,o.data≠.cell v:=by
 cases b
 ·obtain⟨o,e,c,d⟩:=(show h.IsTupleIter i l k from x);exact⟨o,e,λv z=>by rw[d]at z;cases z⟩
 ·obtain⟨o,e,c,d⟩:=(show h.IsListIter i l k from x);exact⟨o,e,λv z=>by rw[d]at z;cases z⟩
theorem IsSq.lt{b:Bool}{h:Heap}{l:Addr}{xs:Array Value}(x:IsSq b h l xs):l<h.objs.size:=by
 cases b
 ·obtain⟨o,e,_⟩:=(show h.IsTuple l xs from x);exact Uk e
 ·obtain⟨o,e,_⟩:=(show h.IsList l xs from x);exact Uk e
section
variable{prog:Program}{w:World}{A:Around}{E:Value->Shared->Prop}{s:Shared}
theorem QgI{it t:Addr}{i:Nat}{items:Array Value}{x:Value}{Q:Value->Shared->Prop}(hit:s.heap.IsTupleIter it t i)(ht:s.heap.IsTuple t items)(hx:items[i]?=some x)(hQ:∀h',h'.IsTupleIter it t (i+1)->Heap.SameBut it s.heap h'->Q x {s with heap:=h'}):
  wpAny (model prog w) A (Builtin.SmallTypes.nextOf (.ref it)) Q E s:=by
 obtain⟨o,ho,hc,hd⟩:=id hit;obtain⟨ol,hol,_,nl,hdl⟩:=ht;unfold Builtin.SmallTypes.nextOf
 refine Ua (U2 (name:=Str.ofString "__next__") hit.typeIs Tr (TH Tr hit.typeIs Ry ?_ (Ro _)))
 show wpAny _ _ (field (.ref it) 0 >>= _) _ _ s;refine Ua (UM ho hd (x:=.ref t) rfl ?_)
 show wpAny _ _ (if (Value.ref t == Value.none)=true then _ else _) _ _ s;rw[Ud (show ¬((Value.ref t == Value.none)=true) from Ue)]
 show wpAny _ _ (field (.ref it) 1 >>= _) _ _ s;refine Ua (UM ho hd (x:=.int i 0) rfl ?_)
 show wpAny _ _ (seqItems? (.ref t) >>= _) _ _ s;refine Ua (Te hol hdl ?_);simp only[RO,hx]
 refine Ua (Re ho hd (by simp) (Ui ⟨x,rfl,Ui (hQ _ ⟨_,TM _ ho (Obj.isFreed_of_fields (T5 hd _)),(Obj.cls_mapFields ..).trans hc,by rw[T5 hd];simp[rawInt]⟩ (Heap.SameBut.update ..))⟩))
theorem Qdp{it t:Addr}{i:Nat}{items:Array Value}{Q:Value->Shared->Prop}(hh:A.handled=none)(hit:s.heap.IsTupleIter it t i)(ht:s.heap.IsTuple t items)(hx:items[i]?=none)(hE:∀h' e,Heap.ExtBut it s.heap h'->(∃o,h'.get? e=some o/\o.cls=.type "StopIteration")->E (.ref e) {s with heap:=h'}):wpAny (model prog w) A (Builtin.SmallTypes.nextOf (.ref it)) Q E s:=by
 obtain⟨o,ho,hc,hd⟩:=id hit;obtain⟨ol,hol,_,nl,hdl⟩:=ht;unfold Builtin.SmallTypes.nextOf
 refine Ua (U2 (name:=Str.ofString "__next__") hit.typeIs Tr (TH Tr hit.typeIs Ry ?_ (Ro _)))
 show wpAny _ _ (field (.ref it) 0 >>= _) _ _ s;refine Ua (UM ho hd (x:=.ref t) rfl ?_)
 show wpAny _ _ (if (Value.ref t == Value.none)=true then _ else _) _ _ s;rw[Ud (show ¬((Value.ref t == Value.none)=true) from Ue)]
 show wpAny _ _ (field (.ref it) 1 >>= _) _ _ s;refine Ua (UM ho hd (x:=.int i 0) rfl ?_)
 show wpAny _ _ (seqItems? (.ref t) >>= _) _ _ s;refine Ua (Te hol hdl ?_);simp only[RO,hx]
 refine Ua (WR (Ua (Re ho hd (by simp) ?_)))
 show wpAny _ _ (newExc (.type "StopIteration") [] >>= _) _ _ _;refine Ua ?_;simp only[newExc,newTuple];refine Ua (U5 ?_ (by size_fits))
 refine Ua (m:=firstArgMember _ _) (Wx (a:=Value.none) (by first|rfl|(simp only[firstArgMember];rfl)) ?_);refine U5 ?_ (by size_fits);simp only[raiseNew]
 refine Ua (wpAny_handled ?_);(first|rw[show A.in1.handled=none from hh]|rw[hh]);refine Ua (Ui (wpAny_throw ?_))
 exact hE _ _ (((Heap.SameBut.update ..).extBut.push _).push _) ⟨_,Uo _ rfl,rfl⟩
theorem Qh4{b:Bool}{it l:Addr}{i:Nat}{xs:Array Value}{x:Value}{Q:Value->Shared->Prop}(hit:IsIt b s.heap it l i)(hl:IsSq b s.heap l xs)(hx:xs[i]?=some x)(hQ:∀h',IsIt b h' it l (i+1)->Heap.SameBut it s.heap h'->Q x {s with heap:=h'}):
  wpAny (model prog w) A (Builtin.SmallTypes.nextOf (.ref it)) Q E s:=by
 cases b
 ·exact QgI hit hl hx hQ
 ·exact wpAny_nextOf_list_item hit hl hx hQ
theorem Qh5{b:Bool}{it l:Addr}{i:Nat}{xs:Array Value}{Q:Value->Shared->Prop}(hh:A.handled=none)(hit:IsIt b s.heap it l i)(hl:IsSq b s.heap l xs)(hx:xs[i]?=none)(hE:∀h' e,Heap.ExtBut it s.heap h'->(∃o,h'.get? e=some o/\o.cls=.type "StopIteration")->E (.ref e) {s with heap:=h'}):wpAny (model prog w) A (Builtin.SmallTypes.nextOf (.ref it)) Q E s:=by
 cases b
 ·exact Qdp hh hit hl hx hE
 ·exact wpAny_nextOf_list_end hh hit hl hx hE
theorem QlA{b1 b2:Bool}{z TI TO i1 i2 l1 l2:Addr}{k:Nat}{xs ys:Array Value}{x y a b:Value}{Q:Value->Shared->Prop}(D:ZipApart z TI TO i1 i2 l1 l2)(hz:IsZip s.heap z TI TO .none)(hTI:IsPair s.heap TI (.ref i1) (.ref i2))(hTO:IsPair s.heap TO a b)(h1:IsIt b1 s.heap i1 l1 k)(h2:IsIt b2 s.heap i2 l2 k)(hl1:IsSq b1 s.heap l1 xs)(hl2:IsSq b2 s.heap l2 ys)(hx:xs[k]?=some x)(hy:ys[k]?=some y)(hQ:∀h',IsZip h' z TI TO (rawInt s.heap.objs.size)->IsPair h' TO x y->IsIt b1 h' i1 l1 (k+1)->IsIt b2 h' i2 l2 (k+1)->IsPair h' s.heap.objs.size x y->h'.objs.size=s.heap.objs.size+1 ->
   (∀c o,c≠z->c≠TO->c≠i1->c≠i2->s.heap.get? c=some o->h'.get? c=some o)->Q (.ref s.heap.objs.size) {s with heap:=h'}):
  wpAny (model prog w) A (Builtin.«zip.__next__» ⟨[.ref z],[]⟩) (λfin s'=>∃v,fin=.done (.ret v)/\Q v s') E s:=by
 show wpAny _ _ (field (.ref z) 2 >>= _) _ _ _;refine Ua (UM hz rfl (x:=.bool false) rfl ?_)
 show wpAny _ _ (field (.ref z) 3 >>= _) _ _ _;refine Ua (UM hz rfl (x:=.ref TI) rfl ?_);refine Ua (Te hTI rfl ?_)
 show wpAny _ _ (Builtin.SmallTypes.ownedTupleIsFree (.ref z) >>= _) _ _ _;refine Ua ?_;unfold Builtin.SmallTypes.ownedTupleIsFree
 refine Ua (UM hz rfl (x:=.none) rfl (Ui ?_));simp only[Rv];refine Ua (WR ?_);refine Ua (UM hz rfl (x:=.ref TO) rfl ?_)
 refine Ua (Tt hz (by simp) λg1 hz1 hs1=>?_);replace hz1:IsZip g1 z TI TO .ellipsis:=hz1
 refine Ua ?_;simp only[List.zipIdx_cons,List.zipIdx_nil,Rs,RK];refine Ua (Ua (RT ?_))
 show wpAny _ _ (Builtin.SmallTypes.nextOf (.ref i1) >>= _) _ _ _
 refine Ua (Qh4 (h1.at λo e=>hs1.extBut _ o D.i1z e) (hl1.at λo e=>hs1.extBut _ o D.l1z e) hx λg2 h12 hs2=>Ui ?_)
 have hTO2:IsPair g2 TO a b:=hs2.extBut _ _ D.TOi1 (hs1.extBut _ _ D.TOz hTO)
 refine Ua (Te hTO2 rfl ?_);refine Ua (Rn hTO2 λg3 hTO3 hs3=>?_);replace hTO3:IsPair g3 TO x b:=hTO3
 refine Ua (Wy (Ui ?_));refine Ua (Ua (RT ?_))
 show wpAny _ _ (Builtin.SmallTypes.nextOf (.ref i2) >>= _) _ _ _
 refine Ua (Qh4 (h2.at λo e=>hs3.extBut _ o D.TOi2.symm (hs2.extBut _ o D.i12.symm (hs1.extBut _ o D.i2z e))) (hl2.at λo e=>hs3.extBut _ o D.l2TO (hs2.extBut _ o D.l2i1 (hs1.extBut _ o D.l2z e))) hy λg4 h24 hs4=>Ui ?_)
 have hTO4:IsPair g4 TO x b:=hs4.extBut _ _ D.TOi2 hTO3
 refine Ua (Te hTO4 rfl ?_);refine Ua (Rn hTO4 λg5 hTO5 hs5=>?_);replace hTO5:IsPair g5 TO x y:=hTO5
 refine Ua (Wy (Ui (Ui ?_)));refine Ua (Te hTO5 rfl ?_);refine Ua (wpAny_newTuple ?_)
 have hsz:g5.objs.size=s.heap.objs.size:=by rw[hs5.1,hs4.1,hs3.1,hs2.1,hs1.1]
 have hz5:IsZip g5 z TI TO .ellipsis:=hs5.extBut _ _ D.TOz.symm (hs4.extBut _ _ D.i2z.symm (hs3.extBut _ _ D.TOz.symm (hs2.extBut _ _ D.i1z.symm hz1)))
 have hk5:∀c o,c≠z->c≠TO->c≠i1->c≠i2->s.heap.get? c=some o->g5.get? c=some o:=λc o c1 c2 c3 c4 e=>hs5.extBut _ _ c2 (hs4.extBut _ _ c4 (hs3.extBut _ _ c2 (hs2.extBut _ _ c3 (hs1.extBut _ _ c1 e))))
 have h15:IsIt b1 g5 i1 l1 (k+1):=h12.at λo e=>hs5.extBut _ o D.TOi1.symm (hs4.extBut _ o D.i12 (hs3.extBut _ o D.TOi1.symm e))
 have h25:IsIt b2 g5 i2 l2 (k+1):=h24.at λo e=>hs5.extBut _ o D.TOi2.symm e
 have hzlt:z<g5.objs.size:=Uk hz5
 show wpAny _ _ (Builtin.SmallTypes.ownedTupleHandOut (.ref z) (.ref g5.objs.size) >>= _) _ _ _
 refine Ua ?_;unfold Builtin.SmallTypes.ownedTupleHandOut
 have hz6:IsZip (g5.push {cls:=.type "tuple",data:=.seq #[x,y]}) z TI TO .ellipsis:=Ub _ hz5
 refine Ua (Tt hz6 (by simp) λg7 hz7 hs7=>?_);replace hz7:IsZip g7 z TI TO (rawInt g5.objs.size):=hz7
 refine Tt hz7 (by simp) λg8 hz8 hs8=>?_;replace hz8:IsZip g8 z TI TO (rawInt g5.objs.size):=hz8
 have upz:∀c o,c≠z->g5.get? c=some o->g8.get? c=some o:=λc o c1 e=>hs8.extBut _ _ c1 (hs7.extBut _ _ c1 (Ub _ e))
 have hT8:IsPair g8 g5.objs.size x y:=hs8.extBut _ _ (Rz hzlt) (hs7.extBut _ _ (Rz hzlt) (Uo _ rfl))
 have hsz8:g8.objs.size=g5.objs.size+1:=by rw[hs8.1,hs7.1,U9]
 rw[hsz]at hz8 hT8 hsz8;refine Ui ⟨_,rfl,?_⟩;show Q (.ref g5.objs.size) _;rw[hsz]
 exact hQ g8 hz8 (upz _ _ D.TOz hTO5) (h15.at λo e=>upz _ o D.i1z e) (h25.at λo e=>upz _ o D.i2z e) hT8 hsz8 λc o c1 c2 c3 c4 e=>upz c o c1 (hk5 c o c1 c2 c3 c4 e)
theorem Qni{b1 b2:Bool}{z TI TO i1 i2 l1 l2:Addr}{k:Nat}{xs ys:Array Value}{a b:Value}{Q:Fin->Shared->Prop}(hh:A.handled=none)(D:ZipApart z TI TO i1 i2 l1 l2)(hz:IsZip s.heap z TI TO .none)(hTI:IsPair s.heap TI (.ref i1) (.ref i2))(hTO:IsPair s.heap TO a b)(h1:IsIt b1 s.heap i1 l1 k)(h2:IsIt b2 s.heap i2 l2 k)(hl1:IsSq b1 s.heap l1 xs)(hl2:IsSq b2 s.heap l2 ys)(hend:xs[k]?=none\/ys[k]?=none)(hE:∀h' e,(∀c o,c≠z->c≠TO->c≠i1->c≠i2->s.heap.get? c=some o->h'.get? c=some o)->(∃o,h'.get? e=some o/\o.cls=.type "StopIteration")->E (.ref e) {s with heap:=h'}):
  wpAny (model prog w) A (Builtin.«zip.__next__» ⟨[.ref z],[]⟩) Q E s:=by
 show wpAny _ _ (field (.ref z) 2 >>= _) _ _ _;refine Ua (UM hz rfl (x:=.bool false) rfl ?_)
 show wpAny _ _ (field (.ref z) 3 >>= _) _ _ _;refine Ua (UM hz rfl (x:=.ref TI) rfl ?_);refine Ua (Te hTI rfl ?_)
 show wpAny _ _ (Builtin.SmallTypes.ownedTupleIsFree (.ref z) >>= _) _ _ _;refine Ua ?_;unfold Builtin.SmallTypes.ownedTupleIsFree
 refine Ua (UM hz rfl (x:=.none) rfl (Ui ?_));simp only[Rv];refine Ua (WR ?_);refine Ua (UM hz rfl (x:=.ref TO) rfl ?_)
 refine Ua (Tt hz (by simp) λg1 hz1 hs1=>?_);replace hz1:IsZip g1 z TI TO .ellipsis:=hz1
 refine Ua ?_;simp only[List.zipIdx_cons,List.zipIdx_nil,Rs,RK];refine Ua (Ua (RT ?_))
 show wpAny _ _ (Builtin.SmallTypes.nextOf (.ref i1) >>= _) _ _ _
 cases hx:xs[k]? with
 |none =>
  refine Ua (Qh5 hh (h1.at λo e=>hs1.extBut _ o D.i1z e) (hl1.at λo e=>hs1.extBut _ o D.l1z e) hx λg2 e hs2 he=>?_)
  obtain⟨oe,hoe,hce⟩:=he;have hz2:IsZip g2 z TI TO .ellipsis:=hs2 _ _ D.i1z.symm hz1
  have hez:e≠z:=λq=>by subst q;rw[hz2]at hoe;cases hoe;simp at hce
  refine Tt hz2 (by simp) λg3 _ hs3=>hE g3 e (λc o c1 _ c3 _ q=>hs3.extBut _ _ c1 (hs2 _ _ c3 (hs1.extBut _ _ c1 q))) ⟨oe,hs3.extBut _ _ hez hoe,hce⟩
 |some x =>
  have hy:ys[k]?=none:=by rcases hend with q|q;(· rw[hx]at q;cases q);exact q
  refine Ua (Qh4 (h1.at λo e=>hs1.extBut _ o D.i1z e) (hl1.at λo e=>hs1.extBut _ o D.l1z e) hx λg2 h12 hs2=>Ui ?_)
  have hTO2:IsPair g2 TO a b:=hs2.extBut _ _ D.TOi1 (hs1.extBut _ _ D.TOz hTO)
  refine Ua (Te hTO2 rfl ?_);refine Ua (Rn hTO2 λg3 hTO3 hs3=>?_);refine Ua (Wy (Ui ?_));refine Ua (Ua (RT ?_))
  show wpAny _ _ (Builtin.SmallTypes.nextOf (.ref i2) >>= _) _ _ _
  refine Ua (Qh5 hh (h2.at λo e=>hs3.extBut _ o D.TOi2.symm (hs2.extBut _ o D.i12.symm (hs1.extBut _ o D.i2z e))) (hl2.at λo e=>hs3.extBut _ o D.l2TO (hs2.extBut _ o D.l2i1 (hs1.extBut _ o D.l2z e))) hy λg4 e hs4 he=>?_)
  obtain⟨oe,hoe,hce⟩:=he;have hz4:IsZip g4 z TI TO .ellipsis:=hs4 _ _ D.i2z.symm (hs3.extBut _ _ D.TOz.symm (hs2.extBut _ _ D.i1z.symm hz1))
  have hez:e≠z:=λq=>by subst q;rw[hz4]at hoe;cases hoe;simp at hce
  refine Tt hz4 (by simp) λg5 _ hs5=>hE g5 e (λc o c1 c2 c3 c4 q=>hs5.extBut _ _ c1 (hs4 _ _ c4 (hs3.extBut _ _ c2 (hs2.extBut _ _ c3 (hs1.extBut _ _ c1 q))))) ⟨oe,hs5.extBut _ _ hez hoe,hce⟩
theorem QgJ{b1 b2:Bool}{z TI TO i1 i2 l1 l2:Addr}{k:Nat}{xs ys:Array Value}{x y a b:Value}{Q:Option Value->Shared->Prop}(D:ZipApart z TI TO i1 i2 l1 l2)(hz:IsZip s.heap z TI TO .none)(hTI:IsPair s.heap TI (.ref i1) (.ref i2))(hTO:IsPair s.heap TO a b)(h1:IsIt b1 s.heap i1 l1 k)(h2:IsIt b2 s.heap i2 l2 k)(hl1:IsSq b1 s.heap l1 xs)(hl2:IsSq b2 s.heap l2 ys)(hx:xs[k]?=some x)(hy:ys[k]?=some y)(hQ:∀h',IsZip h' z TI TO (rawInt s.heap.objs.size)->IsPair h' TO x y->IsIt b1 h' i1 l1 (k+1)->IsIt b2 h' i2 l2 (k+1)->IsPair h' s.heap.objs.size x y->h'.objs.size=s.heap.objs.size+1 ->
   (∀c o,c≠z->c≠TO->c≠i1->c≠i2->s.heap.get? c=some o->h'.get? c=some o)->Q (some (.ref s.heap.objs.size)) {s with heap:=h'}):wpAny (model prog w) A (pyNext (.ref z)) Q E s:=by
 have hT:s.TypeIs (.ref z) "zip":=⟨_,hz,rfl⟩;unfold pyNext
 exact Ua (RU (U2 (name:=Str.ofString "__next__") hT Rt (TH Rt hT F.entry_zip_next (QlA D hz hTI hTO h1 h2 hl1 hl2 hx hy λh' a1 a2 a3 a4 a5 a6 a7=>Ui (hQ h' a1 a2 a3 a4 a5 a6 a7)) (F.args_zip_next_1 _))))
theorem Qdq{b1 b2:Bool}{z TI TO i1 i2 l1 l2:Addr}{k:Nat}{xs ys:Array Value}{a b:Value}{Q:Option Value->Shared->Prop}(hh:A.handled=none)(D:ZipApart z TI TO i1 i2 l1 l2)(hz:IsZip s.heap z TI TO .none)(hTI:IsPair s.heap TI (.ref i1) (.ref i2))(hTO:IsPair s.heap TO a b)(h1:IsIt b1 s.heap i1 l1 k)(h2:IsIt b2 s.heap i2 l2 k)(hl1:IsSq b1 s.heap l1 xs)(hl2:IsSq b2 s.heap l2 ys)(hend:xs[k]?=none\/ys[k]?=none)(hQ:∀h',(∀c o,c≠z->c≠TO->c≠i1->c≠i2->s.heap.get? c=some o->h'.get? c=some o)->Q none {s with heap:=h'}):wpAny (model prog w) A (pyNext (.ref z)) Q E s:=by
 have hT:s.TypeIs (.ref z) "zip":=⟨_,hz,rfl⟩;unfold pyNext
 refine Ua (RU (U2 (name:=Str.ofString "__next__") hT Rt (TH Rt hT F.entry_zip_next (Qni hh D hz hTI hTO h1 h2 hl1 hl2 hend λh' e hk he=>?_) (F.args_zip_next_1 _))))
 obtain⟨o,ho,hc⟩:=he;refine Ua (wpAny_isInstance (T:="StopIteration") (b:=true) ⟨o,ho,hc⟩ isSubtype_stop ?_);exact Ui (hQ _ hk)
noncomputable def Qnj(b:Bool):String:=if b=true then "list_iterator" else "tuple_iterator"
noncomputable def Qdr(b:Bool)(l:Addr):Obj:={cls:=.type (Qnj b),data:=.fields #[.ref l,.int 0 0]}
theorem Qej{b:Bool}{l:Addr}{xs:Array Value}{Q:Value->Shared->Prop}(hl:IsSq b s.heap l xs)(h:Q (.ref s.heap.objs.size) {s with heap:=s.heap.push (Qdr b l)}):wpAny (model prog w) A (pyIter (.ref l)) Q E s:=by
 cases b
 ·exact wpAny_pyIter_tuple hl h
 ·exact Rc hl h
theorem IsSq.push{b:Bool}{h:Heap}{l:Addr}{xs:Array Value}(x:IsSq b h l xs)(o:Obj):IsSq b (h.push o) l xs:=x.at λ_ e=>Ub _ e
noncomputable abbrev zH1(b1:Bool)(h:Heap)(l1:Addr):Heap:=h.push (Qdr b1 l1)
noncomputable abbrev zH2(b1 b2:Bool)(h:Heap)(l1 l2:Addr):Heap:=(zH1 b1 h l1).push (Qdr b2 l2)
noncomputable abbrev zH3(b1 b2:Bool)(h:Heap)(l1 l2:Addr):Heap:=(zH2 b1 b2 h l1 l2).push {cls:=.type "tuple",data:=.seq #[.ref h.objs.size,.ref (zH1 b1 h l1).objs.size]}
noncomputable abbrev zH4(b1 b2:Bool)(h:Heap)(l1 l2:Addr):Heap:=(zH3 b1 b2 h l1 l2).push {cls:=.type "tuple",data:=.seq #[.none,.none]}
noncomputable abbrev zH5(b1 b2:Bool)(h:Heap)(l1 l2:Addr):Heap:=(zH4 b1 b2 h l1 l2).push {cls:=.type "zip",data:=.fields #[.none,.bool false,.bool false,.ref (zH2 b1 b2 h l1 l2).objs.size,.ref (zH3 b1 b2 h l1 l2).objs.size]}
theorem QlB(b1 b2:Bool)(l1 l2:Addr)(xs ys:Array Value):Meets (Builtin.«zip.__new__» ⟨[.type "zip",.ref l1,.ref l2],[]⟩) (λ_ R s=>IsSq b1 s.heap l1 xs/\IsSq b2 s.heap l2 ys/\R (.ok (.ret (.ref (zH4 b1 b2 s.heap l1 l2).objs.size))) {s with heap:=zH5 b1 b2 s.heap l1 l2}) :=
 .of_wp λprog w A R s h=>by
  obtain⟨hp,g,d,tk,os⟩:=s;obtain⟨hl1,hl2,h⟩:=h;have hsub:=sub_zip
  have hL1:IsSq b1 (Shared.heap ⟨hp,g,d,tk,os⟩) l1 xs:=hl1
  have hL2:IsSq b2 (Shared.heap ⟨hp.push (Qdr b1 l1),g,d,tk,os⟩) l2 ys:=hl2.push _
  wp_walk using Qej hL1,Qej hL2
  exact⟨_,rfl,h⟩
theorem itAt(b:Bool){h:Heap}{i l:Addr}(e:h.get? i=some (Qdr b l)):IsIt b h i l 0:=by
 cases b
 ·exact⟨_,e,rfl,rfl⟩
 ·exact⟨_,e,rfl,rfl⟩
theorem QjG{b1 b2:Bool}{l1 l2:Addr}{xs ys:Array Value}{Q:Value->Shared->Prop}(hl1:IsSq b1 s.heap l1 xs)(hl2:IsSq b2 s.heap l2 ys)(h:∀h',IsZip h' (s.heap.objs.size+4) (s.heap.objs.size+2) (s.heap.objs.size+3) .none->IsPair h' (s.heap.objs.size+2) (.ref s.heap.objs.size) (.ref (s.heap.objs.size+1))->IsPair h' (s.heap.objs.size+3) .none .none ->
   IsIt b1 h' s.heap.objs.size l1 0->IsIt b2 h' (s.heap.objs.size+1) l2 0->h'.objs.size=s.heap.objs.size+5->(∀c o,s.heap.get? c=some o->h'.get? c=some o)->Q (.ref (s.heap.objs.size+4)) {s with heap:=h'}):
  wpAny (model prog w) A (call (.type "zip") [.ref l1,.ref l2]) Q E s:=by
 refine callType_new F.called_zip (by decide) (F.typeCall_zip_2 _ _) (F.newCall_zip_2 _ _) (λobj=>F.args_object_init_3 obj _ _) F.entry_zip_new (QlB b1 b2 l1 l2 xs ys) ⟨hl1,hl2,?_⟩
 have z1:(zH1 b1 s.heap l1).objs.size=s.heap.objs.size+1:=U9 ..
 have z2:(zH2 b1 b2 s.heap l1 l2).objs.size=s.heap.objs.size+2:=by rw[U9,z1]
 have z3:(zH3 b1 b2 s.heap l1 l2).objs.size=s.heap.objs.size+3:=by rw[U9,z2]
 have z4:(zH4 b1 b2 s.heap l1 l2).objs.size=s.heap.objs.size+4:=by rw[U9,z3]
 have z5:(zH5 b1 b2 s.heap l1 l2).objs.size=s.heap.objs.size+5:=by rw[U9,z4]
 have g5:(zH5 b1 b2 s.heap l1 l2).get? (zH4 b1 b2 s.heap l1 l2).objs.size=some _:=Uo _ rfl
 have g4:(zH5 b1 b2 s.heap l1 l2).get? (zH3 b1 b2 s.heap l1 l2).objs.size=some _:=Ub _ (Uo _ rfl)
 have g3:(zH5 b1 b2 s.heap l1 l2).get? (zH2 b1 b2 s.heap l1 l2).objs.size=some _:=Ub _ (Ub _ (Uo _ rfl))
 have g2:(zH5 b1 b2 s.heap l1 l2).get? (zH1 b1 s.heap l1).objs.size=some (Qdr b2 l2):=Ub _ (Ub _ (Ub _ (Uo _ (by unfold Qdr;rfl))))
 have g1:(zH5 b1 b2 s.heap l1 l2).get? s.heap.objs.size=some (Qdr b1 l1):=Ub _ (Ub _ (Ub _ (Ub _ (Uo _ (by unfold Qdr;rfl)))))
 show _/\_
 rw[z2,z3,z4]at g5;rw[z1,z2]at g3;rw[z3]at g4;rw[z1]at g2;rw[z4]
 exact⟨⟨_,g5,rfl⟩,h _ g5 g3 g4 (itAt b1 g1) (itAt b2 g2) z5 λc o q=>Ub _ (Ub _ (Ub _ (Ub _ (Ub _ q))))⟩
end
def Sq(b:Bool)(K:Frag)(H:Hp)(a:Addr)(xs:List V):Prop:=if b=true then SqL K H a xs else SqT K H a xs
theorem Sq.real{b:Bool}{X:Cx}{pins:List (Addr×Obj)}{σ:L2.St}{H:Hp}{s:Shared}{a:Addr}{xs:List V}(I:Inv X pins σ H s)(h:Sq b X.K H a xs):∃its:List Value,Vals xs its/\IsSq b s.heap a its.toArray:=by
 cases b
 ·obtain⟨its,r,p,_⟩:=I.tuple (show SqT X.K H a xs from h);exact⟨its,r,p⟩
 ·obtain⟨its,r,p,_⟩:=I.list (show SqL X.K H a xs from h);exact⟨its,r,p.isList⟩
theorem Sq.inj{b:Bool}{X:Cx}{pins:List (Addr×Obj)}{σ:L2.St}{H:Hp}{s:Shared}{a:Addr}{xs ys:List V}(I:Inv X pins σ H s)(h:Sq b X.K H a xs)(h':Sq b X.K H a ys):xs=ys:=by
 cases b
 ·exact I.tuple_inj h h'
 ·exact I.list_inj h h'
noncomputable def Itz(K:Frag)(b1 b2:Bool)(a1 a2:Addr):It :=
  ⟨λi H=>∃xs ys x y,Sq b1 K H a1 xs/\Sq b2 K H a2 ys/\xs[i]?=some x/\ys[i]?=some y,
   λi H v H'=>∃p x y,H p=none/\v=.ref p/\H'=upd H p (.tup [x,y])/\(∀xs,Sq b1 K H a1 xs->xs[i]?=some x)/\∀ys,Sq b2 K H a2 ys->ys[i]?=some y,
   λi H=>∃xs ys,Sq b1 K H a1 xs/\Sq b2 K H a2 ys/\(xs.length<=i\/ys.length<=i)⟩
noncomputable def Qov(b1 b2:Bool)(z TI TO i1 i2 l1 l2:Addr)(i:Nat)(h:Heap):Prop :=
 IsZip h z TI TO .none/\IsPair h TI (.ref i1) (.ref i2)/\(∃a b,IsPair h TO a b)/\IsIt b1 h i1 l1 i/\IsIt b2 h i2 l2 i
theorem QjH{P:Program}{w:World}{K:Frag}{elts:List Expr}{kk:Nat}{tp:Pos}(b1 b2:Bool)(z TI TO i1 i2 l1 l2:Addr)(D:ZipApart z TI TO i1 i2 l1 l2):
  Turn P w K (.Tuple elts kk tp) (Itz K b1 b2 l1 l2) [z,TI,TO,i1,i2] z (Qov b1 b2 z TI TO i1 i2 l1 l2) where
 mem:=by simp
 obj:=λi h st b hb=>by
  obtain⟨hz,hTI,⟨a,c,hTO⟩,h1,h2⟩:=st
  have hb':b=z\/b=TI\/b=TO\/b=i1\/b=i2:=by simpa using hb
  rcases hb' with rfl|rfl|rfl|rfl|rfl
  ·exact⟨_,hz,λv q=>by cases q⟩
  ·exact⟨_,hTI,λv q=>by cases q⟩
  ·exact⟨_,hTO,λv q=>by cases q⟩
  ·exact h1.rec
  ·exact h2.rec
 keep:=λi h h' st k=>by
  obtain⟨hz,hTI,⟨a,c,hTO⟩,h1,h2⟩:=st
  exact⟨k z (by simp) _ hz,k TI (by simp) _ hTI,⟨a,c,k TO (by simp) _ hTO⟩,h1.at λo e=>k i1 (by simp) o e,h2.at λo e=>k i2 (by simp) o e⟩
 item:=by
  intro X hP hw hK hc i pins s σ H E I hf st hg
  subst hP hw hK
  obtain⟨xs,ys,x,y,q1,q2,hx,hy⟩:=hg
  obtain⟨us,r1,p1⟩:=q1.real I
  obtain⟨ts,r2,p2⟩:=q2.real I
  obtain⟨u,hu,ru⟩:=r1.get hx
  obtain⟨t,ht,rt⟩:=r2.get hy
  obtain⟨hz,hTI,⟨a,c,hTO⟩,h1,h2⟩:=st
  have fz:=hf z (by simp)
  have fTI:=hf TI (by simp)
  have fTO:=hf TO (by simp)
  have f1:=hf i1 (by simp)
  have f2:=hf i2 (by simp)
  refine QgJ D hz hTI hTO h1 h2 p1 p2 (by simpa using hu) (by simpa using ht) λh' a1 a2 a3 a4 a5 a6 hk=>?_
  have hp:H s.heap.objs.size=none:=I.hok.fresh (Uh _)
  have inC:∀b,b∈[z,TO,i1,i2]->FpOk X pins H b:=λb hb=>by
   have hb':b=z\/b=TO\/b=i1\/b=i2:=by simpa using hb
   rcases hb' with rfl|rfl|rfl|rfl
   ·exact fz
   ·exact fTO
   ·exact f1
   ·exact f2
  have hk':∀b o,b∉[z,TO,i1,i2]->s.heap.get? b=some o->h'.get? b=some o:=λb o hb e=>hk b o (λq=>hb (by simp[q])) (λq=>hb (by simp[q])) (λq=>hb (by simp[q])) (λq=>hb (by simp[q])) e
  have nC:∀b v,H b=some v->b∉[z,TO,i1,i2]:=λb v e hb=>by rw[(inC b hb).1]at e;cases e
  have nP:∀b v,H b=some v->b≠s.heap.objs.size:=λb v e=>QQ e hp
  have I1:Inv X pins σ (upd H s.heap.objs.size (.tup [x,y])) {s with heap:=h'}:=by
   refine I.step (g':=s.gens) (t':=s.toks) (d':=s.drawn) (ch:=[z,TO,i1,i2]) (λb hb=>⟨(inC b hb).2.2.2.1,(inC b hb).2.1,(inC b hb).2.2.2.2.1,(inC b hb).2.2.2.2.2⟩) (λb o _ _ hb e _=>hk' b o hb e) (λb o _ _ hb e _=>⟨o.slots,hk' b o hb e⟩)
    (λb o hb e n=>by rw[Qr (UA (Uk e))];exact n) (λb o hb e=>⟨o,hk' b o hb e⟩) (λb v e=>by rw[Qr (nP b _ e)];exact e) (λb o v e=>by rw[Qr (nP b _ e)];exact e) (λb ps e=>⟨#[],by rw[Qr (nP b _ e),e];simp⟩)
    (λm hm=>?_) (λb v e=>?_) I.bare
   ·obtain⟨o,es,ep,ho,rr⟩:=hm
    exact⟨o,es,ep,hk' _ o (λhb=>(inC _ hb).2.1 rfl) ho,rr⟩
   ·by_cases hb:b=s.heap.objs.size
    ·subst hb
     rw[Qn]at e;cases e
     exact⟨by rw[RS];show 2<=16777216;decide,[u,t],.cons ru (.cons rt .nil),⟨_,a5,rfl,_,rfl⟩⟩
    ·rw[Qr hb]at e
     refine(I.hok b v e).stay (λc' v' hc' q=>?_) (λc' q=>by rw[Qr (nP c' _ q)];exact q) λc' xs' q=>by rw[Qr (nP c' _ q)];exact q
     rcases hc' with rfl|hc'
     ·exact hk' _ _ (nC _ _ e) q
     ·exact hk' _ _ (nC _ _ hc') q
  refine⟨_,rfl,wpAny_letOwnedTupleGo_zip a1 λh'' hz'' hs''=>?_⟩
  have hpz:s.heap.objs.size≠z:=Rz (Uk hz)
  have I2:Inv X pins σ (upd H s.heap.objs.size (.tup [x,y])) {s with heap:=h''}:=Inv.turned (s:={s with heap:=h'}) (t':=s.toks) I1 (λb o hb e=>hs''.extBut b o hb e) (by rw[Qr (Ne.symm hpz)];exact fz.1) fz.2.1 fz.2.2.2.1 fz.2.2.2.2.1 fz.2.2.2.2.2
  refine⟨.ref s.heap.objs.size,_,I2,rfl,⟨_,x,y,hp,rfl,rfl,λxs' q=>by rw[q.inj I q1];exact hx,λys' q=>by rw[q.inj I q2];exact hy⟩,
   ⟨hz'',hs''.extBut _ _ D.TIz (hk _ _ D.TIz D.TITO D.TIi1 D.TIi2 hTI),⟨_,_,hs''.extBut _ _ D.TOz a2⟩,a3.at λo e=>hs''.extBut _ o D.i1z e,a4.at λo e=>hs''.extBut _ o D.i2z e⟩,λb hb=>?_⟩
  have lt:b<s.heap.objs.size:=by
   have hb':b=z\/b=TI\/b=TO\/b=i1\/b=i2:=by simpa using hb
   rcases hb' with rfl|rfl|rfl|rfl|rfl
   ·exact Uk hz
   ·exact Uk hTI
   ·exact Uk hTO
   ·exact h1.lt
   ·exact h2.lt
  rw[Qr (UA lt)]
  exact(hf b hb).1
 done:=by
  intro X hP hw hK hc i pins s σ H E I hf st hg
  subst hP hw hK
  obtain⟨xs,ys,q1,q2,hl⟩:=hg
  obtain⟨us,r1,p1⟩:=q1.real I
  obtain⟨ts,r2,p2⟩:=q2.real I
  have l1:=r1.length
  have l2:=r2.length
  obtain⟨hz,hTI,⟨a,c,hTO⟩,h1,h2⟩:=st
  have inC:∀b,b∈[z,TO,i1,i2]->FpOk X pins H b:=λb hb=>hf b (by
   have hb':b=z\/b=TO\/b=i1\/b=i2:=by simpa using hb
   rcases hb' with rfl|rfl|rfl|rfl <;> simp)
  refine Qdq (I.ok.hd hc) D hz hTI hTO h1 h2 p1 p2 (by
   rcases hl with z|z
   ·exact .inl (by simp;omega)
   ·exact .inr (by simp;omega)) λh' hk=>⟨rfl,?_⟩
  have hk':∀b o,b∉[z,TO,i1,i2]->s.heap.get? b=some o->h'.get? b=some o:=λb o hb e=>hk b o (λq=>hb (by simp[q])) (λq=>hb (by simp[q])) (λq=>hb (by simp[q])) (λq=>hb (by simp[q])) e
  have nC:∀b v,H b=some v->b∉[z,TO,i1,i2]:=λb v e hb=>by rw[(inC b hb).1]at e;cases e
  refine I.step (g':=s.gens) (t':=s.toks) (d':=s.drawn) (ch:=[z,TO,i1,i2]) (λb hb=>⟨(inC b hb).2.2.2.1,(inC b hb).2.1,(inC b hb).2.2.2.2.1,(inC b hb).2.2.2.2.2⟩) (λb o _ _ hb e _=>hk' b o hb e) (λb o _ _ hb e _=>⟨o.slots,hk' b o hb e⟩)
   (λb o hb e n=>n) (λb o hb e=>⟨o,hk' b o hb e⟩) (λb v e=>e) (λb o v e=>e) (λb ps e=>⟨#[],by rw[e];simp⟩) (λm hm=>?_) (λb v e=>?_) I.bare
  ·obtain⟨o,es,ep,ho,rr⟩:=hm
   exact⟨o,es,ep,hk' _ o (λhb=>(inC _ hb).2.1 rfl) ho,rr⟩
  ·refine(I.hok b v e).stay (λc' v' hc' q=>?_) (λc' q=>q) λc' xs' q=>q
   rcases hc' with rfl|hc'
   ·exact hk' _ _ (nC _ _ e) q
   ·exact hk' _ _ (nC _ _ hc') q
 self:=λ_ _ _ _ _ st h=>wpAny_pyIter_zip st.1 h
section
variable{X:Cx}{ca:Nat->Addr}{e1 e2:Expr}{m1 m2:ME}{p pos tp:Pos}{elts:List Expr}{kk:Nat}
theorem Qnk{ta:TA}(hg:Gl X "zip")(hm:X.mg "zip" = none)(ha:PA X [e1,e2] ta)(hs:starEach [e1,e2] X.env=[(false,eval e1 X.env),(false,eval e2 X.env)])(hs2:starEach [e2] X.env=[(false,eval e2 X.env)]):
  PI X (.Tuple elts kk tp) (.Call (.Name "zip" p) [e1,e2] [] pos) (λσ H R=>ta σ H λvs H1=>∃b1 b2 a1 a2 xs ys,vs=[.ref a1,.ref a2]/\Sq b1 X.K H1 a1 xs/\Sq b2 X.K H1 a2 ys/\R (Itz X.K b1 b2 a1 a2) H1):=by
 intro pins s σ H R I h
 refine Call_ (QbS I hg hm boot_zip (U3 (thn (ha pos pins s σ H _ I h) λus s1 ⟨vs,H1,I1,r1,q1⟩=>?_) (by rw[hs,hs2]) (by rw[hs2];rfl)))
 obtain⟨b1,b2,a1,a2,xs,ys,rfl,q1,q2,q⟩:=q1
 cases r1 with
 |cons ru rr =>
  cases rr with
  |cons rt rr =>
   cases rr
   cases ru
   cases rt
   obtain⟨its1,v1,p1⟩:=q1.real I1
   obtain⟨its2,v2,p2⟩:=q2.real I1
   refine QjG p1 p2 λh' hz hTI hTO hi1 hi2 hsz hk=>wpAny_pyIter_zip hz ?_
   have I2:Inv X pins σ H1 {s1 with heap:=h'}:=I1.kept (t':=s1.toks) hk
   refine⟨s1.heap.objs.size+4,_,_,_,H1,rfl,I2,QjH b1 b2 _ (s1.heap.objs.size+2) (s1.heap.objs.size+3) s1.heap.objs.size (s1.heap.objs.size+1) a1 a2 (PyProof.Rows.zipApart_new p1.lt p2.lt),⟨hz,hTI,⟨_,_,hTO⟩,hi1,hi2⟩,λb hb=>?_,q⟩
   have hb':b=s1.heap.objs.size+4\/b=s1.heap.objs.size+2\/b=s1.heap.objs.size+3\/b=s1.heap.objs.size\/b=s1.heap.objs.size+1:=by simpa using hb
   have hle:s1.heap.objs.size<=b:=by rcases hb' with h|h|h|h|h <;> rw[h] <;> first|exact Uh _|exact Nat.le_add_right _ _
   exact I1.fpOk hle (I1.hok.fresh hle)
theorem JG{K:Frag}{μ:List Addr}{H:Hp}{g:G}{v:V}{d:D}{b:Bool}{ds:List D}(r:GRep K ca μ H g)(q:Den K μ H v d)(h:QG g d=some (b,ds)):∃a vs,v=.ref a/\Sq b K H a vs/\Dens K μ H vs ds:=by
 cases q with
 |@tup a vs es ht hs=>cases h;exact⟨a,vs,rfl,ht,hs⟩
 |@fl a vs es ht hs=>cases h;exact⟨a,vs,rfl,ht.sq,hs⟩
 |@ref n a hn =>
  unfold QG at h
  dsimp only at h
  cases hg:g[n]? with
  |none=>rw[hg]at h;cases h
  |some o =>
   rw[hg]at h
   obtain⟨a',ha',ob⟩:=r.addr hg
   rw[hn]at ha';cases ha'
   cases o with
   |lst es=>cases h;obtain⟨vs,hH,q⟩:=ob;exact⟨a,vs,rfl,SqL.of hH,q⟩
   |_=>cases h
 |_=>cases h
theorem Qc5{K:Frag}{μ:List Addr}{H:Hp}{g g':G}{μ':List Addr}{H':Hp}{d:D}{v:V}{b b':Bool}{ds ds':List D}(h:QG g d=some (b,ds))(h':QG g' d=some (b',ds')):b=b':=by
 unfold QG at h h'
 cases d with
 |tup es=>cases h;cases h';rfl
 |fl es=>cases h;cases h';rfl
 |ref n =>
  dsimp only at h h'
  have k1:b=true:=by
   cases hg:g[n]? with
   |none=>rw[hg]at h;cases h
   |some o=>rw[hg]at h;cases o <;> cases h <;> rfl
  have k2:b'=true:=by
   cases hg:g'[n]? with
   |none=>rw[hg]at h';cases h'
   |some o=>rw[hg]at h';cases o <;> cases h' <;> rfl
  rw[k1,k2]
 |_=>cases h
theorem QlC{K:Frag}{μ:List Addr}{H:Hp}{g:G}{v1 v2:V}{d1 d2:D}{b1 b2:Bool}{xs ys:List D}{t:Nat}(q1:Den K μ H v1 d1)(q2:Den K μ H v2 d2)(h1:QG g d1=some (b1,xs))(h2:QG g d2=some (b2,ys)){a1 a2:Addr}(e1:v1=.ref a1)(e2:v2=.ref a2):
  Sim K ca μ H ⟨λg i=>(match QG g d1,QG g d2 with
  |some (_,xs),some (_,ys)=>(match xs[i]?,ys[i]? with
   |some x,some y=>some (some (.tup [x,y]))
   |_,_=>some none)
  |_,_=>none),t⟩ (Itz K b1 b2 a1 a2):=by
 intro i H1 μ1 g1 ex r
 dsimp only
 cases k1:QG g1 d1 with
 |none=>trivial
 |some p1 =>
  obtain⟨c1,xs1⟩:=p1
  cases k2:QG g1 d2 with
  |none=>trivial
  |some p2 =>
   obtain⟨c2,ys1⟩:=p2
   have f1:=Qc5 (K:=K) (μ:=μ) (H:=H) (μ':=μ) (H':=H) (v:=v1) h1 k1
   have f2:=Qc5 (K:=K) (μ:=μ) (H:=H) (μ':=μ) (H':=H) (v:=v1) h2 k2
   subst f1 f2
   obtain⟨z1,vs,w1,s1,d1s⟩:=JG r (q1.mono ex) k1
   obtain⟨z2,ws,w2,s2,d2s⟩:=JG r (q2.mono ex) k2
   rw[e1]at w1;cases w1
   rw[e2]at w2;cases w2
   dsimp only
   cases hx:xs1[i]? with
   |none =>
    refine⟨vs,ws,s1,s2,.inl ?_⟩
    rw[d1s.length];exact US.mp hx
   |some x =>
    cases hy:ys1[i]? with
    |none =>
     refine⟨vs,ws,s1,s2,.inr ?_⟩
     rw[d2s.length];exact US.mp hy
    |some y =>
     obtain⟨vx,hvx,qx⟩:=d1s.get hx
     obtain⟨vy,hvy,qy⟩:=d2s.get hy
     refine⟨⟨vs,ws,vx,vy,s1,s2,hvx,hvy⟩,λv H' yl=>?_⟩
     obtain⟨pp,x',y',hp,rfl,rfl,u1,u2⟩:=yl
     have:=u1 vs s1
     rw[hvx]at this;cases this
     have:=u2 ws s2
     rw[hvy]at this;cases this
     exact⟨Zj hp,r.new hp,.tup (.of Qn) (.cons (qx.mono (Zj hp)) (.cons (qy.mono (Zj hp)) .nil))⟩
theorem Qnl(hm:X.mg "zip" = none)(h1:PE3 ca X e1 m1)(h2:PE3 ca X e2 m2)(hg:Gl X "zip":=by rfl)(hs:starEach [e1,e2] X.env=[(false,eval e1 X.env),(false,eval e2 X.env)]:=by rfl)(hs2:starEach [e2] X.env=[(false,eval e2 X.env)]:=by rfl)(hs3:starEach [e1,e2] X.env=(false,eval e1 X.env)::starEach [e2] X.env:=by rfl):PI3 ca X (.Tuple elts kk tp) (.Call (.Name "zip" p) [e1,e2] [] pos) (Qax m1 m2) :=
 λpn Φ=>Qe3 (Qnk (X:=xat X ca pn Φ) hg hm (Jp h1 (Jp h2 Qj hs2) hs3 pn Φ) hs hs2) λσ H R hQ=>by
  obtain⟨σ3,g,μ,Rp,q⟩:=hQ
  refine⟨σ3,g,μ,Rp,?_⟩
  unfold Qax at q
  unfold Qb mNil
  cases hm1:m1 σ3 g with
  |raise _ _=>rw[hm1]at q;exact q
  |stuck=>rw[hm1]at q;exact q.elim
  |ok d1 g1 =>
   rw[hm1,Res.bind_ok]at q
   rw[Res.bind_ok]
   cases hm2:m2 σ3 g1 with
   |raise _ _=>rw[hm2]at q;exact q
   |stuck=>rw[hm2]at q;exact q.elim
   |ok d2 g2 =>
    rw[hm2,Res.bind_ok]at q
    rw[Res.bind_ok,Res.bind_ok,Res.bind_ok]
    intro vs H1 μ1 ex r1 q1
    cases q1 with
    |@cons v1 _ _ _ n1 q1 =>
     cases q1 with
     |@cons v2 _ _ _ n2 q1 =>
      cases q1
      unfold Qbq at q
      cases k1:QG g2 d1 with
      |none=>rw[k1]at q;exact q.elim
      |some p1 =>
       obtain⟨b1,xs⟩:=p1
       cases k2:QG g2 d2 with
       |none=>rw[k1,k2]at q;exact q.elim
       |some p2 =>
        obtain⟨b2,ys⟩:=p2
        rw[k1,k2]at q
        obtain⟨a1,us,rfl,s1,_⟩:=JG r1 n1 k1
        obtain⟨a2,ts,rfl,s2,_⟩:=JG r1 n2 k2
        exact⟨b1,b2,a1,a2,us,ts,rfl,s1,s2,q _ H1 μ1 ex r1 (QlC n1 n2 k1 k2 rfl rfl)⟩
end
theorem Je(K:Frag)(t c:Ty):kitOne K (.type t.name) (.type c.name)=some (tyLe t c):=by
 cases t <;> cases c <;> kernel_rfl
section
variable{X:Cx}{ca:Nat->Addr}{a b c e:Expr}{ma mb mc me:ME}{pos p p2:Pos}{k:Nat}
theorem Qh6(c:Ty):CallR X (.builtin "isinstance") (λxs H Q=>∃x g μ d t,xs=[x,.ty c.name]/\GRep X.K ca μ H g/\Den X.K μ H x d/\tyOf g d=some t/\Q (.bl (tyLe t c)) H):=by
 intro pins s σ H xs us Q I rv h
 obtain⟨x,g,μ,d,t,rfl,r,q,ht,qq⟩:=h
 obtain⟨u,u2,rfl,ru,ru2⟩:=rv.two
 cases ru2
 have fin:∀tk,EP X pins σ Q (.bool (tyLe t c)) {s with toks:=tk}:=λtk=>⟨.bl _,H,I.tok tk,rfl,qq⟩
 cases q with
 |non=>cases ht;exact YG I ru .non (Je X.K .non c) fin
 |bl y=>cases ht;exact YG I ru (.bl y) (Je X.K .bool c) fin
 |int y=>cases ht;exact YG I ru (.int y) (Je X.K .int c) fin
 |str y=>cases ht;exact YG I ru (.str y) (Je X.K .str c) fin
 |@tup a vs ds hq hs =>
  cases ht
  cases ru
  obtain⟨its,_,⟨o,h1,h2,_⟩,_⟩:=I.tuple hq
  exact UN RH I.kIn ⟨o,h1,h2⟩ (Je X.K .tuple c) (λz=>nomatch z) fin
 |@fl a vs ds hq hs =>
  cases ht
  cases ru
  obtain⟨its,_,p,_⟩:=I.list hq.sq
  obtain⟨o,h1,h2,_⟩:=p.isList
  exact UN TR I.kIn ⟨o,h1,h2⟩ (Je X.K .list c) (λz=>nomatch z) fin
 |@ref n a hn =>
  unfold tyOf at ht
  dsimp only at ht
  cases hg:g[n]? with
  |none=>rw[hg]at ht;cases ht
  |some o =>
   rw[hg]at ht
   obtain⟨a',ha',ob⟩:=r.addr hg
   rw[hn]at ha';cases ha'
   cases o with
   |lst ds=>cases ht;obtain⟨vs,hH,_⟩:=ob;exact YG I ru (.lst hH) (Je X.K .list c) fin
   |dct ks=>cases ht;obtain⟨kv,hH,_⟩:=ob;exact YG I ru (.dK hH) (Je X.K .dict c) fin
   |ins _ _=>cases ht
   |exc _=>cases ht
theorem YI{x:Str}(c:Ty)(hi:X.mg "isinstance" = none)(hm:X.mg x=none)(hv:bootBuiltins x=some (.type c.name))(he:PE3 ca X e me)(hgi:Gl X "isinstance":=by rfl)(hg:Gl X x:=by rfl)(hnm:x ≠ "__name__":=by decide)(hdb:(x == ("__debug__" : Str))=false:=by decide)(hs:starEach [e,.Name x p2] X.env=(false,eval e X.env)::starEach [.Name x p2] X.env:=by rfl)(hs2:starEach [.Name x p2] X.env=(false,eval (.Name x p2) X.env)::starEach [] X.env:=by rfl)(hpl:(backTo pos (starEach [.Name x p2] X.env)).any (·.1)=false:=by rfl):
  PE3 ca X (.Call (.Name "isinstance" p) [e,.Name x p2] [] pos) (mOp1 (Z8 c) me) :=
 λpn Φ=>Za (QaP (X:=xat X ca pn Φ) (Qh6 (ca:=ca) c) hgi hi boot_isinstance (JC (X:=xat X ca pn Φ) (he pn Φ) (JC (X:=xat X ca pn Φ) (QeT (X:=xat X ca pn Φ) (v:=.ty c.name) hg hm hv rfl hnm hdb) QdZ hs2) hs) (by decide) (by decide) hs hpl) λσ H Q ⟨σ3,g,μ,R,q⟩ =>
  Q5 (Jo R q) λy H1 hQ=>by
   obtain⟨d,g1,μ1,e1,R1,q1,p1⟩:=hQ
   unfold Z8 at p1
   cases ht:tyOf g1 d with
   |none=>rw[ht]at p1;exact p1.elim
   |some t=>rw[ht]at p1;exact⟨y,g1,μ1,d,t,rfl,R1.g,q1,ht,p1 _ H1 μ1 .refl R1.g (.bl _)⟩
theorem QfU{K:Frag}{μ:List Addr}{H:Hp}:∀{vs:List V}{ds:List D}{us:List Value}{b:Bool},Dens K μ H vs ds->Vals vs us->allB ds=some b->∃bs:List Bool,us=bs.map Value.bool/\bs.all id=b
 |_,_,_,b,.nil,.nil,h=>by cases h;exact⟨[],rfl,rfl⟩
 |_,_,_,b,@Dens.cons _ _ _ _ _ _ ds q qs,.cons r rs,h=>by
  cases q with
  |bl c =>
   unfold allB at h
   cases hd:allB ds with
   |none=>rw[hd]at h;cases h
   |some d =>
    rw[hd]at h
    cases h
    obtain⟨bs,h1,h2⟩:=QfU qs rs hd
    cases r
    exact⟨c::bs,by rw[h1];rfl,by simp[h2]⟩
  |_=>cases h
theorem Qh7(bs:List Bool):((List.range bs.length).all λi=>(bs[i]?).getD true)=bs.all id:=by
 rw[Tw,UI,UI]
 constructor
 ·intro h b hb
  obtain⟨i,hi,rfl⟩:=U7 hb
  have:=h i (TV.mpr hi)
  simpa[hi]using this
 ·intro h i hi
  have hi':=TV.mp hi
  have:=h bs[i] (UJ hi')
  simpa[hi']using this
theorem Qh8(hc:X.calm=true):CallR X (.builtin "all") (λxs H Q=>∃p vs ds μ b,xs=[.ref p]/\SqL X.K H p vs/\Dens X.K μ H vs ds/\allB ds=some b/\Q (.bl b) H):=by
 intro pins s σ H xs us Q I rv h
 obtain⟨l,vs,ds,μ,b,rfl,hq,q,hb,qq⟩:=h
 obtain⟨u,rfl,ru⟩:=rv.one
 cases ru
 obtain⟨its,rs,pl,_⟩:=I.list hq
 obtain⟨bs,rfl,e2⟩:=QfU q rs hb
 have hl:=pl.isList
 have hlt:l<s.heap.objs.size:=by obtain⟨_,e,_⟩:=hl;exact Uk e
 refine call_all_walk (Rc hl ⟨s.heap.objs.size,[s.heap.objs.size,l],[s.heap.objs.size],_,_,_,λi=>(bs[i]?).getD true,rfl,Walks.list (A:=X.A.in1) (show X.A.in1.handled=none from I.ok.hd hc) _ l (UA hlt) _,⟨⟨_,Uo _ rfl,rfl,rfl⟩,hl.push _⟩,λi v s' Q' E' hP hQ=>?_,λh' tk hk=>?_⟩)
 ·have hP:(bs.map Value.bool).toArray[i]?=some v:=hP
  rw[TN,Up]at hP
  cases hi:bs[i]? with
  |none=>rw[hi]at hP;cases hP
  |some c =>
   rw[hi]at hP
   cases hP
   simp only[hi,Option.getD_some]at hQ
   exact Tg hQ
 ·have kept:∀c o,s.heap.get? c=some o->h'.get? c=some o:=λc o e=>hk c o (λhm=>by rw[Uu.mp hm]at e;exact U6 _ (Uk e)) (Ub _ e)
  have ea:((List.range (bs.map Value.bool).toArray.size).all λi=>(bs[i]?).getD true)=b:=by
   rw[Uf,Um,Qh7,e2]
  rw[ea]
  exact⟨.bl b,H,I.kept kept,rfl,qq⟩
theorem QlD(hc:X.calm=true)(hm:X.mg "all" = none)(he:PE3 ca X e me)(hg:Gl X "all":=by rfl)(hs:starEach [e] X.env=[(false,eval e X.env)]:=by rfl)(hpl:(backTo pos (starEach [] X.env)).any (·.1)=false:=by rfl):
  PE3 ca X (.Call (.Name "all" p) [e] [] pos) (mOp1 pAll me) :=
 QjF (r:=λxs H Q=>∃p vs ds μ b,xs=[V.ref p]/\SqL X.K H p vs/\Dens X.K μ H vs ds/\allB ds=some b/\Q (.bl b) H) (λpn Φ=>Qh8 (X:=xat X ca pn Φ) hc) hm boot_all (λΦ σ H μ g y d Q r q pp=>by
  unfold pAll at pp
  cases q with
  |@ref n t hn =>
   dsimp only at pp
   cases hgn:g[n]? with
   |none=>rw[hgn]at pp;exact pp.elim
   |some ob =>
    rw[hgn]at pp
    obtain⟨t',ht',orp⟩:=r.addr hgn
    rw[hn]at ht';cases ht'
    cases ob with
    |lst ds =>
     obtain⟨vs,hH,q⟩:=orp
     dsimp only at pp
     cases hb:allB ds with
     |none=>rw[hb]at pp;exact pp.elim
     |some b=>rw[hb]at pp;exact⟨t,vs,ds,μ,b,rfl,.of hH,q,hb,pp _ H μ .refl r (.bl _)⟩
    |_=>exact pp.elim
  |_=>exact pp.elim) he hg (by decide) (by decide) hs hpl
theorem QjI{K:Frag}{Φ:XS}{r r':R2}{f f':D->D->G->Res D}(h1:JD K ca r f)(h2:JD K ca r' f')(σ:L2.St)(H:Hp)(Q:VK)(h:up K ca Φ (Qc2 f f' ma mb mc) σ H Q):QkE r r' (up K ca Φ ma) (up K ca Φ mb) (up K ca Φ mc) σ H Q:=by
 obtain⟨σ3,g,μ,R,p⟩:=h
 refine Q5 (Jo R p) λx H1 ⟨dx,g1,μ1,e1,R1,q1,p1⟩=>?_
 refine Q5 (Jo R1 p1) λy H2 ⟨dy,g2,μ2,e2,R2,q2,p2⟩=>?_
 refine h1 Φ σ H2 μ2 g2 x y dx dy _ R2.g (q1.mono e2) q2 ?_
 cases hf:f dx dy g2 with
 |raise _ _=>rw[hf]at p2;exact p2
 |stuck=>rw[hf]at p2;exact p2.elim
 |ok z g3 =>
  rw[hf,Res.bind_ok]at p2
  intro v H3 μ3 e3 r3 q3
  cases q3 with
  |bl t =>
   refine⟨t,rfl,?_⟩
   cases t with
   |true =>
    rw[Uc rfl]
    dsimp only at p2
    refine Q5 (Jo (R2.go e3 r3) (p2.go e3)) λw' H4 ⟨dw,g4,μ4,e4,R4,q4,p4⟩=>?_
    exact h2 Φ σ H4 μ4 g4 y w' dy dw Q R4.g ((q2.mono e3).mono e4) q4 p4
   |false =>
    rw[Ud Ue]
    exact p2 _ H3 μ3 e3 r3 (.bl _)
  |_=>exact p2.elim
theorem Qnm(ha:PE3 ca X a ma)(hb:PE3 ca X b mb)(hc:PE3 ca X c mc)(hm:lastMarks [.LtE,.Lt] [b,c]=false:=by with_unfolding_all rfl):PE3 ca X (.Compare a [.LtE,.Lt] [b,c] pos) (Qc2 pLe pLt ma mb mc) :=
 λpn Φ=>Za (Qjr (X:=xat X ca pn Φ) QmL Qle (ha pn Φ) (hb pn Φ) (hc pn Φ) hm) (QjI (Yz _) (Yz _))
theorem QkP{K:Frag}{μ:List Addr}{H:Hp}{v:V}{d:D}(q:Den K μ H v d)(h:QcP d=true):QcN v=true:=by cases q <;> first|rfl|cases h
theorem Qh9{K:Frag}{μ:List Addr}{H:Hp}:∀{vs:List V}{ds:List D},Dens K μ H vs ds->ds.all QcP=true->vs.all QcN=true
 |_,_,.nil,_=>rfl
 |_,_,.cons q qs,h=>by
  rw[Rl,UH]at h ⊢
  exact⟨QkP q h.1,Qh9 qs h.2⟩
theorem Qow{K:Frag}{μ:List Addr}{H:Hp}{v w:V}{d e:D}(q:Den K μ H v d)(q':Den K μ H w e)(h:QcP d=true)(h':QcP e=true):eqV v w=eqF d e:=by
 cases q <;> cases q' <;> first|rfl|cases h|cases h'
theorem Qnn{K:Frag}{μ:List Addr}{H:Hp}{w:V}{e:D}(q':Den K μ H w e)(h':QcP e=true):∀{vs:List V}{ds:List D},Dens K μ H vs ds->ds.all QcP=true->(vs.any λy=>eqV y w)=ds.any λd=>eqF d e
 |_,_,.nil,_=>rfl
 |_,_,.cons q qs,h=>by
  rw[Rl,UH]at h
  rw[Tp,Tp,Qow q q' h.1 h',Qnn q' h' qs h.2]
theorem QlE{K:Frag}(neg:Bool):JD K ca (rIn K neg) (pIn neg):=by
 intro Φ σ H μ g x y dx dy Q r qx qy p
 unfold pIn at p
 cases hs:QG g dy with
 |none=>rw[hs]at p;exact p.elim
 |some pr =>
  obtain⟨bb,ds⟩:=pr
  rw[hs]at p
  dsimp only at p
  by_cases z:QcP dx=true/\ds.all QcP=true
  ·rw[Uc z]at p
   obtain⟨a,vs,rfl,sq,qs⟩:=JG r qy hs
   refine⟨a,vs,rfl,?_,QkP qx z.1,Qh9 qs z.2,p _ H μ .refl r ?_⟩
   ·cases bb
    ·exact .inr sq
    ·exact .inl sq
   ·unfold inV
    rw[Qnn qx z.1 qs z.2]
    cases neg <;> exact .bl _
  ·rw[Ud z]at p;exact p.elim
theorem r_in(ha:PE3 ca X a ma)(hb:PE3 ca X b mb)(hm:behindInMarks .In b=false:=by rfl):PE3 ca X (.Compare a [.In] [b] pos) (mOp2 (pIn false) ma mb):=QgE (λ_ _=>QhB) (QlE false) ha hb hm
end
section
variable{prog:Program}{w:World}{A:Around}{E:Value->Shared->Prop}{s:Shared}
theorem Qbd{t sl:Addr}{items:Array Value}{vl vu:Value}{lo hi:Option Int}{Q:Value->Shared->Prop}(ht:IsTup s.heap t items)(hs:s.heap.IsSliceOf sl vl vu .none)(pl:IsPart vl lo)(pu:IsPart vu hi)(h1:HT.sIx items.size 0 lo=0)(h2:HT.sIx items.size items.size hi=items.size)(h:Q (.ref t) s):wpAny (model prog w) A (getItem (.ref t) (.ref sl)) Q E s:=by
 obtain⟨os,hos,hcs,hds⟩:=id hs
 have hTs:s.TypeIs (.ref sl) "slice":=⟨os,hos,hcs⟩
 unfold getItem
 try with_reducible refine To ?_
 first|refine Ua (Ui ?_)|skip
 refine Ua (wpAny_sequenceKey ht.typeIs (by decide) ?_)
 refine Ua (U2 (name:=Str.ofString "__getitem__") ht.typeIs UO (TH UO ht.typeIs entry_tuple_getitem ?_ (args_tuple_getitem _ _)))
 show wpAny _ _ (Builtin.Tuple.tupleItemsOf (.ref t) >>= _) _ _ s
 refine Ua (tupleItemsOf_ ht (Ua (We hTs ?_)))
 rw[Uc (by decide)]
 refine Ua (HT.sliceApplied_gen hs pl pu ?_)
 rw[h1,h2]
 show wpAny _ _ (if (((0:Nat):Int) == 0 && (1:Int) == 1 && (items.size-0) == items.size)=true then _ else _) _ _ s
 rw[Uc (by simp)]
 unfold Builtin.Tuple.tupleIsExact
 refine Ua (Ua (We ht.typeIs (Ui ?_)))
 rw[Uc (by decide)]
 exact Ua (WR (Ui ⟨_,rfl,Ui h⟩))
end
theorem QjJ(n d:Nat)(o:Option Int):HT.sIx n d o=sIxD n d o:=by cases o <;> rfl
theorem Dens.cut{K:Frag}{μ:List Addr}{H:Hp}{vs:List V}{ds:List D}(lo hi:Option Int)(h:Dens K μ H vs ds):Dens K μ H (cutV vs lo hi) (cutD ds lo hi):=by
 unfold cutV cutD
 rw[QjJ,QjJ,h.length]
 exact(h.drop _).take _
section
variable{X:Cx}{ca:Nat->Addr}{e:Expr}{me:ME}{lo hi:Option Expr}{ml mh:MO}{pos p2:Pos}
theorem Qia:SlR X (λx lo hi H Q=>∃a xs,x=.ref a/\SqT X.K H a xs/\(HT.sIx xs.length 0 lo=0/\HT.sIx xs.length xs.length hi=xs.length)/\Q (.ref a) H):=by
 intro pins s σ H x v vl vu lo hi sl Q I rx hs pl pu h
 obtain⟨a,xs,rfl,hx,hw,q⟩:=h
 cases rx
 obtain⟨its,r,ht,hz⟩:=I.tuple hx
 have hlen:its.toArray.size=xs.length:=by rw[Uf];exact r.length.symm
 refine⟨"tuple",_,UO.lookup,ht.typeIs,?_⟩
 exact Qbd ht hs pl pu (by rw[hlen];exact hw.1) (by rw[hlen];exact hw.2) ⟨.ref a,H,I,rfl,q⟩
noncomputable def upO(K:Frag)(ca:Nat->Addr)(Φ:XS)(m:MO):TO:=λσ H Q=>∃σ3 g μ,Rep K ca μ σ3 g σ H/\match m σ3 g with
 |.ok o g'=>∀H' μ',Ext K μ H μ' H'->GRep K ca μ' H' g'->Q o H'
 |.raise x g'=>RaP K ca Φ σ H μ x g'
 |.stuck=>False
def PO3(ca:Nat->Addr)(X:Cx)(e:Option Expr)(m:MO):Prop:=∀pn Φ,PO (xat X ca pn Φ) e (upO X.K ca Φ m)
theorem Qan:PO3 ca X none Zi:=λpn Φ pins s σ H Q I ⟨_,_,μ,R,p⟩=>Qlm (X:=xat X ca pn Φ) pins s σ H Q I (p H μ .refl R.g)
theorem Qc6(he:PE3 ca X e me):PO3 ca X (some e) (Jc me):=λpn Φ pins s σ H Q I hQ=>by
 obtain⟨σ3,g,μ,R,p⟩:=hQ
 refine Qln (X:=xat X ca pn Φ) (he pn Φ) pins s σ H Q I ⟨σ3,g,μ,R,?_⟩
 unfold Jc at p
 cases hm:me σ3 g with
 |raise _ _=>rw[hm]at p;exact p
 |stuck=>rw[hm]at p;exact p
 |ok d g1 =>
  rw[hm,Res.bind_ok]at p
  intro v H1 μ1 e1 r1 q1
  cases q1 with
  |int i=>exact⟨i,rfl,p H1 μ1 e1 r1⟩
  |_=>exact p.elim
theorem QlF{α:Type}(xs:List α)(lo hi:Option Int)(h1:sIxD xs.length 0 lo=0)(h2:sIxD xs.length xs.length hi=xs.length):cutD xs lo hi=xs:=by
 unfold cutD
 rw[h1,h2];simp
theorem Qbe(he:PE3 ca X e me)(hl:PO3 ca X lo ml)(hh:PO3 ca X hi mh):PE3 ca X (.Subscript e (.Slice lo hi none p2) pos) (ZU me ml mh):=λpn Φ =>
 Za (Qjv (X:=xat X ca pn Φ) ((sl_tup.or Qia).or Qlp) (he pn Φ) (hl pn Φ) (hh pn Φ)) λσ H Q ⟨σ3,g,μ,R,p⟩=>Q5 (Jo R p) λx H1 hQ=>by
  obtain⟨d,g1,μ1,e1,R1,q1,p1⟩:=hQ
  refine⟨σ3,g1,μ1,R1,?_⟩
  cases hm:ml σ3 g1 with
  |raise _ _=>rw[hm]at p1;exact p1
  |stuck=>rw[hm]at p1;exact p1
  |ok l g2 =>
   rw[hm,Res.bind_ok]at p1
   intro H2 μ2 e2 r2
   refine⟨σ3,g2,μ2,R1.go e2 r2,?_⟩
   cases hm2:mh σ3 g2 with
   |raise _ _=>rw[hm2]at p1;exact RaP.go e2 p1
   |stuck=>rw[hm2]at p1;exact p1
   |ok u g3 =>
    rw[hm2,Res.bind_ok]at p1
    intro H3 μ3 e3 r3
    have p3:=Post.go (e2.trans e3) p1
    have q3:=(q1.mono e2).mono e3
    unfold JW at p3
    cases q3 with
    |@tup a vs ds ht hs =>
     by_cases hw:HT.sIx vs.length 0 l=0/\HT.sIx vs.length vs.length u=vs.length
     ·refine .inl (.inr ⟨a,vs,rfl,ht,hw,p3 _ H3 μ3 .refl r3 ?_⟩)
      rw[QlF ds l u (by rw[<-QjJ,<-hs.length];exact hw.1) (by rw[<-QjJ,<-hs.length];exact hw.2)]
      exact .tup ht hs
     ·exact .inl (.inl ⟨a,vs,rfl,ht,hw,λt ht'=>p3 _ _ μ3 (Zj ht') (r3.new ht') (.tup (.of Qn) ((hs.cut l u).mono (Zj ht')))⟩)
    |@fl a vs ds ht hs =>
     refine .inr ⟨a,vs,rfl,ht.sq,λt ht'=>p3 _ _ (μ3++[t]) (Qp ht') (r3.push ht' ⟨_,Qn,(hs.cut l u).mono (Qp ht')⟩) (.ref ?_)⟩
     rw[<-r3.len];simp
    |@ref n a hn =>
     dsimp only at p3
     cases hg:g3[n]? with
     |none=>rw[hg]at p3;exact p3.elim
     |some o =>
      rw[hg]at p3
      obtain⟨a',ha',ob⟩:=r3.addr hg
      rw[hn]at ha';cases ha'
      cases o with
      |lst ds =>
       obtain⟨vs,hH,hs⟩:=ob
       refine .inr ⟨a,vs,rfl,.of hH,λt ht'=>p3 _ _ (μ3++[t]) (Qp ht') (r3.push ht' ⟨_,Qn,(hs.cut l u).mono (Qp ht')⟩) (.ref ?_)⟩
       rw[<-r3.len];simp
      |_=>exact p3.elim
    |_=>exact p3.elim
end
abbrev bmV:List Value:=[.type "ValueError",.type "Exception",.type "BaseException",.type "object"]
structure ExK(K:Frag)(C:Addr):Prop where
 ga:findIn K (.ref C) "__getattribute__" = some (some (.builtin "BaseException.__getattribute__"))
 gx:findIn K (.ref C) "__getattr__" = some none
 cl:findIn K (.ref C) "__class__" = some (some (.builtin "object.__class__"))
 gt:specialIn K (.builtin "object.__class__") "__get__" = some (some (.builtin "getset_descriptor.__get__"))
 tk:takesIn K (.builtin "object.__class__")=some true
 mr:mroIn K C (.type "object")=some true
 sb:subIn K (.ref C) (.type "BaseException")=some true
 ci:(clsIn K C).isSome=true
section
variable{prog:Program}{w:World}{A:Around}{E:Value->Shared->Prop}{s:Shared}{K:Frag}{C e:Addr}{oe:Obj}{vs:Array Value}
theorem QfV{h:Heap}(hx:h.get? e=some oe)(hc:oe.cls=.ref C)(hd:oe.data=.fields vs)(hn:oe.dict=none):PySem.W.InstAt h e oe C none :=
 ⟨hx,hc,by obtain⟨c,d,dt,sl⟩:=oe;obtain rfl:dt=_:=hd;rfl,by rw[hn];trivial⟩
theorem QlG(F:ExK K C):findObj K C none "__class__" = some (.bind (.builtin "getset_descriptor.__get__") (.builtin "object.__class__")):=by
 obtain⟨cd,hc⟩:=Tc.mp F.ci
 unfold findObj
 rw[hc,Option.bind_some,F.cl,Option.bind_some]
 simp[F.gt,F.tk]
theorem QjK{nm:Value}{Q:Unit->Shared->Prop}(X:K.In s.heap)(F:ExK K C)(I:PySem.W.InstAt s.heap e oe C none)(hq:Q () s):wpAny (model prog w) A (checkBuiltinCall "BaseException.__getattribute__" ⟨[.ref e,nm],[]⟩) Q E s:=by
 obtain⟨h,g,d,t,os⟩:=s
 have hk:builtinKind "BaseException.__getattribute__" = some .slot:=by decide +kernel
 have hsplit:splitId "BaseException.__getattribute__" = some ("BaseException", "__getattribute__"):=by decide +kernel
 have L0:=I.type (M:=model prog w)
 have L1:=Rw (M:=model prog w) X F.sb
 have ha:=PySem.F.args_bexc_ga (.ref e) nm
 simp only[checkBuiltinCall,hk,hsplit]
 unfold isInstance
 refine Ua (Ua (L0.at (L1.at ?_)))
 repeat (first|exact hq|wp_step)
theorem Qib{Q:Option Value->Shared->Prop}(X:K.In s.heap)(F:ExK K C)(I:PySem.W.InstAt s.heap e oe C none)(h:Q (some (.ref C)) {s with toks:=s.toks+1}):wpAny (model prog w) A (getAttr? (.ref e) "__class__") Q E s:=by
 obtain⟨hh,g,d,t,os⟩:=s
 have L0:=I.type (M:=model prog w)
 have L1:=Rj (M:=model prog w) X F.ga
 have L2:=Rj (M:=model prog w) X F.gx
 have L3:=looks_find (M:=model prog w) X I (QlG F)
 have hb:=PySem.F.attr_ValueError.ga.bind (.ref e)
 unfold getAttr? getAttrBy? getAttrBy
 refine Ua (wpAny_mkText (Ua (RU (To (Ua (L0.at (Ua (L1.at ?_))))))))
 show wpAny _ _ (getAttrByItsOwn _ _ _ _ _ _) _ _ _
 unfold getAttrByItsOwn hookBefore callGetattribute boundAndCalled
 refine Ua (L2.at ?_)
 refine Ua (RU (To ?_))
 show wpAny _ _ (bindSpecial (.builtin "BaseException.__getattribute__") (.ref e) >>= _) _ _ _
 rw[hb]
 refine Ua (Ui ?_)
 refine WQ (codeAny_call_builtin PySem.F.attr_ValueError.ga.plain PySem.F.entry_bexc_ga (QjK (s:=⟨hh,g,d,t+1,os⟩) X F I ?_))
 unfold Builtin.«object.__getattribute__»
 refine Ua (Wx (a:=(Value.ref e,[Value.str "__class__" t])) rfl ?_)
 refine Ua (Wx (a:=Str.ofString "__class__") rfl ?_)
 refine Ua (L0.at (Ua (L3.at ?_)))
 show wpAny _ _ (Builtin.ObjectAttr.bindTo (.builtin "getset_descriptor.__get__") (.builtin "object.__class__") (.ref e) (.ref C)) _ _ _
 refine Ua (To (WQ (class_get (s:=⟨hh,g,d,t+1,os⟩) (od:=none) X I F.mr ?_)))
 refine Ui ?_
 show wpAny (model prog w) A (handedOut (Value.ref C)) _ _ _
 exact Ui (Ui h)
theorem QjL(F:ExK K C):KitX K (.ref e) (.ref C) (λh=>∃o vs,h.get? e=some o/\(o.cls=.ref C/\o.dict=none)/\o.data=.fields vs) where
 ty:=λM h _ ⟨o,vs,h1,h2,h3⟩=>(QfV h1 h2.1 h3 h2.2).type
 it:=λ_ _ X _=>by
  obtain⟨cd,hc⟩:=Tc.mp F.ci
  unfold clsIn at hc
  split at hc
  ·rename_i c' d' cd' sl' ho
   intro A' Q' E' s' k q
   unfold isType loadHead
   exact Ua (Wv (k _ _ (X _ _ ho)) (Ui q))
  ·cases hc
 ne:=λh tp dd its n sl X htp=>by
  obtain⟨cd,hc⟩:=Tc.mp F.ci
  refine Bool.eq_false_iff.mpr λq=>?_
  have z:C=tp:=Value.ref.inj (U1.mp q)
  subst z
  unfold clsIn at hc
  split at hc
  ·rename_i c' d' cd' sl' ho
   cases (X _ _ ho).symm.trans htp
  ·cases hc
 ca:=λX ⟨o,vs,h1,h2,h3⟩ k=>Qib X F (QfV h1 h2.1 h3 h2.2) k
end
structure IsX(K:Frag)(ca:Nat->Addr)(T:Value)(all cs:List Nat):Prop where
 ex:∀c∈all,ExK K (ca c)
 an:∀c∈all,kitOne K (.ref (ca c)) T=some (decide (c∈cs))
 no:kitOne K (.type "NoneType") T=some false
section
variable{X:Cx}{ca:Nat->Addr}{e:Expr}{me:ME}{pos p p2:Pos}{all cs:List Nat}
theorem QgK{u:V}{T:Value}(hu:∀v,L2.RelV u v->v=T)(h:IsX X.K ca T all cs):CallR X (.builtin "isinstance") (λxs H Q=>∃x g μ d b,xs=[x,u]/\GRep X.K ca μ H g/\Den X.K μ H x d/\Qay all cs d g=.ok (.bl b) g/\Q (.bl b) H):=by
 intro pins s σ H xs us Q I rv z
 obtain⟨x,g,μ,d,b,rfl,r,q,ht,qq⟩:=z
 obtain⟨v,v2,rfl,rx,r2⟩:=rv.two
 have e2:v2=T:=hu v2 r2
 subst e2
 have fin:∀tk,EP X pins σ Q (.bool b) {s with toks:=tk}:=λtk=>⟨.bl _,H,I.tok tk,rfl,qq⟩
 cases q with
 |non=>cases ht;exact YG I rx .non h.no fin
 |@ref n a hn =>
  unfold Qay at ht
  dsimp only at ht
  cases hg:g[n]? with
  |none=>rw[hg]at ht;cases ht
  |some o =>
   rw[hg]at ht
   obtain⟨a',ha',ob⟩:=r.addr hg
   rw[hn]at ha';cases ha'
   cases o with
   |exc ex =>
    dsimp only at ht
    by_cases hm:ex.1∈all
    ·rw[Uc hm]at ht
     cases ht
     cases rx
     obtain⟨⟨o,vs,h1,h2,h3⟩,_⟩:=I.hok a _ ob
     exact UN (QjL (h.ex _ hm)) I.kIn ⟨o,vs,h1,h2,h3⟩ (h.an _ hm) (λz=>nomatch z) fin
    ·rw[Ud hm]at ht;cases ht
   |_=>cases ht
 |_=>cases ht
theorem QjM{K:Frag}{Φ:XS}{u:V}(σ:L2.St)(H:Hp)(Q:VK)(h:up K ca Φ (mOp1 (Qay all cs) me) σ H Q):up K ca Φ me σ H λy H1=>∃x g μ d b,[y,u]=[x,u]/\GRep K ca μ H1 g/\Den K μ H1 x d/\Qay all cs d g=.ok (.bl b) g/\Q (.bl b) H1:=by
 obtain⟨σ3,g,μ,R,q⟩:=h
 refine Q5 (Jo R q) λy H1 ⟨d,g1,μ1,e1,R1,q1,p1⟩=>?_
 have:∃b,Qay all cs d g1=.ok (.bl b) g1:=by
  unfold Qay at p1 ⊢
  cases d with
  |non=>exact⟨false,rfl⟩
  |ref n =>
   dsimp only at p1 ⊢
   cases hg:g1[n]? with
   |none=>rw[hg]at p1;exact p1.elim
   |some o =>
    rw[hg]at p1
    cases o with
    |exc ex =>
     dsimp only at p1 ⊢
     by_cases hm:ex.1∈all
     ·rw[Uc hm];exact⟨_,rfl⟩
     ·rw[Ud hm]at p1;exact p1.elim
    |_=>exact p1.elim
  |_=>exact p1.elim
 obtain⟨b,hb⟩:=this
 rw[hb]at p1
 exact⟨y,g1,μ1,d,b,rfl,R1.g,q1,hb,p1 _ H1 μ1 .refl R1.g (.bl _)⟩
theorem QlH{x:Str}{C:Addr}(hi:X.mg "isinstance" = none)(hC:X.mg x=some (.ref C)/\IsX X.K ca (.ref C) all cs)(he:PE3 ca X e me)(hgi:Gl X "isinstance":=by rfl)(hg:Gl X x:=by rfl)(hdb:(x == ("__debug__" : Str))=false:=by decide)(hs:starEach [e,.Name x p2] X.env=(false,eval e X.env)::starEach [.Name x p2] X.env:=by rfl)(hs2:starEach [.Name x p2] X.env=(false,eval (.Name x p2) X.env)::starEach [] X.env:=by rfl)(hpl:(backTo pos (starEach [.Name x p2] X.env)).any (·.1)=false:=by rfl):
  PE3 ca X (.Call (.Name "isinstance" p) [e,.Name x p2] [] pos) (mOp1 (Qay all cs) me):=λpn Φ =>
 Za (QaP (X:=xat X ca pn Φ) (QgK (ca:=ca) (u:=.ref C) (λ_ h=>h) hC.2) hgi hi boot_isinstance (JC (X:=xat X ca pn Φ) (he pn Φ) (JC (X:=xat X ca pn Φ) (Qhl (X:=xat X ca pn Φ) (v:=.ref C) hg hC.1 rfl hdb) QdZ hs2) hs) (by decide) (by decide) hs hpl) λσ H Q h=>QjM σ H Q h
end
section
variable{K:Frag}{C:Addr}{x:Str}{mg:Str->Option Value}{h:Heap}
theorem QlI(X:K.In h)(e:mg x=some (.ref C))(q:excIn K C bmV "ValueError.__new__" = true):OwnCls x C bmV "ValueError.__new__" mg h:=by
 refine⟨e,?_⟩
 unfold excIn at q
 split at q
 ·rename_i dd cd sl ho
  split at q
  ·rename_i C' bm k0 k1 k2 k3 n k5 hm hs
   simp only[UH,U1,Bool.not_eq_true']at q
   obtain⟨⟨⟨⟨⟨rfl,rfl⟩,hdel⟩,ht⟩,hok⟩,hni⟩:=q
   obtain⟨nm,bs,mro,ns,qn,hd,sn,sub,ab,col,del⟩:=cd
   dsimp only at hm hdel hok hni
   subst hm hdel
   have hsl:sl = #[k0,k1,k2,k3,some (.builtin "ValueError.__new__"),k5]:=by
    obtain⟨l⟩:=sl
    simp only at hs
    rw[hs]
   subst hsl
   exact⟨bm,ns,nm,qn,bs,hd,sn,sub,ab,col,dd,k0,k1,k2,k3,k5,_,X _ _ ho,.of_isNs (isNs_of_in X hok),nsMap_none_of_in X hok hni,tail_of_in X ht⟩
  ·cases q
 ·cases q
end
theorem Inv.there'{X:Cx}{pins:List (Addr×Obj)}{σ:L2.St}{H:Hp}{s:Shared}{a:Addr}{o:HO}(I:Inv X pins σ H s)(h:H a=some o):∃u,s.heap.get? a=some u:=by
 have:=I.hok a o h
 cases o with
 |lst xs=>obtain⟨_,_,_,_,e⟩:=this;exact⟨_,e⟩
 |tup xs=>obtain⟨_,_,_,u,e,_⟩:=this;exact⟨u,e⟩
 |dK kvs=>obtain⟨_,_,_,_,u,_,_,e,_⟩:=this;exact⟨u,e⟩
 |dT kvs=>obtain⟨_,_,_,_,u,_,_,e,_⟩:=this;exact⟨u,e⟩
 |set S n=>obtain⟨u,_,_,_,e,_⟩:=this;exact⟨u,e⟩
 |ins C dx fs=>obtain⟨_,_,_,e,_⟩:=this;exact⟨_,e⟩
 |own y=>exact this
 |xd fs=>obtain⟨_,⟨_,_,_,e,_⟩,_⟩:=this;exact⟨_,e⟩
 |met f x=>exact⟨_,this⟩
 |rng lo hi=>obtain⟨_,_,_,e⟩:=this;exact⟨_,e⟩
 |frz u v=>exact⟨_,this.1⟩
 |tbl ps=>exact⟨_,this⟩
 |ext φ=>exact this.2.1
structure RaH(K:Frag)(mg:Str->Option Value)(ca:Nat->Addr)(c:Nat)(x:Str):Prop where
 at':mg x=some (.ref (ca c))
 ex:excIn K (ca c) bmV "ValueError.__new__" = true
section
variable{X:Cx}{ca:Nat->Addr}{e:Expr}{es:List Expr}{mr:MA}{np cpos pos:Pos}{c:Nat}{x:Str}
theorem Qab(h:RaH X.K X.mg ca c x)(hh:X.A.handled=none)(ha:PA3 ca X (e::es) mr)(hg:Gl X x:=by rfl)(hdb:(x == ("__debug__" : Str))=false:=by decide)(he:starEach (e::es) X.env=(false,eval e X.env)::starEach es X.env:=by rfl)(hpl:(backTo cpos (starEach es X.env)).any (·.1)=false:=by rfl):PS3 ca X (.Raise (some (.Call (.Name x np) (e::es) [] cpos)) none pos) (Yx c mr):=by
 intro pn Φ pins s σ H En I ⟨σ3,g,μ,R,p⟩
 obtain⟨bm,N,nm,q,bs,hdct,sn,sub,ab,col,dd,k0,k1,k2,k3,k5,mN,hC,hN,hni,T⟩:=(QlI (h:=X.base) I.ok.mod.kin h.at' h.ex).obj
 refine wpAny_Raise_call_subT (C:=ca c) (nm:=nm) (q:=q) (N:=N) (bs:=bs) (bm:=bm) (hdct:=hdct) (sn:=sn) (sub:=sub) (ab:=ab) (col:=col) (dd:=dd) (k0:=k0) (k1:=k1) (k2:=k2) (k3:=k3) (k5:=k5)
  RD (mN:=mN) (T.hasType RD.hasBase) hh ?_ hni (QbR I hg h.at' ⟨rfl,?_⟩ hdb)
 ·show(backTo cpos (starEach (e::es) X.env)).any (·.1)=false
  rw[he]
  show(false || (backTo cpos (starEach es X.env)).any (·.1))=false
  rw[hpl];rfl
 ·have z:upA X.K ca Φ mr σ H λvs H1=>vs.length<=sizeLine/\Φ (c,none) σ H1:=by
   refine⟨σ3,g,μ,R,?_⟩
   unfold Yx at p
   cases hm:mr σ3 g with
   |raise _ _=>rw[hm]at p;exact RaP.stmt R p
   |stuck=>rw[hm]at p;exact p
   |ok ds g1 =>
    rw[hm]at p
    dsimp only at p
    intro vs H1 μ1 e1 r1 q1
    by_cases hz:ds.length<=SZ
    ·rw[Uc hz]at p
     exact⟨q1.sz hz,p σ H1 μ1 e1 (R.go e1 r1)⟩
    ·rw[Ud hz]at p;exact p.elim
  have az:=ha pn Φ cpos pins s σ H _ I z
  have he':starEach (e::es) (xat X ca pn Φ).env=(false,eval e X.env)::starEach es X.env:=he
  show wpAny _ _ (evalArgs (.ref (ca c)) true (backTo cpos (starEach (e::es) X.env)) []) _ _ s
  rw[he']at az
  rw[he]
  refine Calls.evalArgs_plain (UU az (λus s2 ⟨vs,H1,I1,r1,hz,hΦ⟩=>⟨rfl,by rw[<-r1.length];exact hz,I1.bk _ _ hC,hN.keeps I1.bk,T.keeps I1.bk,λh' ea hm=>?_⟩) λ_ _ y=>y)
  have I2:Inv (xon X pn) [] σ H1 s2:=(QkL I1).pins_of λp hp=>absurd hp (by simp)
  have I3:Inv (xon X pn) [] σ H1 {s2 with heap:=h'}:=I2.kept (t':=s2.toks) hm.keeps
  have hn:H1 ea=none:=by
   cases hq:H1 ea with
   |none=>rfl
   |some o =>
    obtain⟨o',ho'⟩:=Inv.there' I2 hq
    rw[hm.new]at ho';cases ho'
  obtain⟨t,ht,_⟩:=hm.there
  exact⟨ea,(c,none),σ,H1,rfl,I3,⟨QfM I2 hm.new hn,rfl,_,_,ht,⟨rfl,rfl⟩,rfl,by simp,.inl rfl⟩,hΦ⟩
end
structure CatX(K:Frag)(ca:Nat->Addr)(C:Addr)(cs no:List Nat):Prop where
 ci:(clsIn K C).isSome=true
 ty:typeIn K (.ref C)=some (.type "type")
 sb:subIn K (.ref C) (.type "BaseException")=some true
 yes:∀c∈cs,subIn K (.ref (ca c)) (.ref C)=some true
 no':∀c∈no,subIn K (.ref (ca c)) (.ref C)=some false
section
variable{prog:Program}{w:World}{A:Around}{E:Value->Shared->Prop}{s:Shared}{K:Frag}{ca:Nat->Addr}{C D e:Addr}{oe:Obj}{cs no:List Nat}{b:Bool}
theorem Qic{Q:Bool->Shared->Prop}(X:K.In s.heap)(F:CatX K ca C cs no)(hx:s.heap.get? e=some oe)(hc:oe.cls=.ref D)(hs:subIn K (.ref D) (.ref C)=some b)(h:Q b s):wpAny (model prog w) A (excMatches (.ref e) (.ref C)) Q E s:=by
 obtain⟨hh,g,d,t,os⟩:=s
 have L0:=looks_typeIn (M:=model prog w) X F.ty
 have L1:=Rw (M:=model prog w) X F.sb
 have L2:=Rw (M:=model prog w) X hs
 have L3:Looks (model prog w) hh (isType (.ref C)) true:=by
  obtain⟨cd,hc⟩:=Tc.mp F.ci
  unfold clsIn at hc
  split at hc
  ·rename_i c' d' cd' sl' ho
   intro A' Q' E' s' k q
   unfold isType loadHead
   exact Ua (Wv (k _ _ (X _ _ ho)) (Ui q))
  ·cases hc
 have f:=tc_notTuple
 unfold excMatches isInstance
 refine Ua (Ua (L0.at (Wx f ?_)))
 simp only[T6,Wd]
 refine Ua (Ui ?_)
 simp only[Rs,RK]
 unfold isExcClass
 refine Ua (Ua (Ua (Ua (L3.at ?_))))
 rw[Uc rfl]
 refine L1.at ?_
 simp only[Bool.not_true,T6,Wd]
 refine Ui (Ui ?_)
 have L4:Looks (model prog w) hh (typeOf (.ref e)) (.ref D):=hc ▸ (Looks.ld hx).andThen .now
 refine Ua (L4.at (Ua (Ua (Ua (L2.at ?_)))))
 cases b with
 |true=>rw[Uc rfl];exact Ui (Ui (Ui h))
 |false=>rw[Ud Ue];exact Ui (Ui (Ui h))
end
noncomputable abbrev xmk(X:Cx)(v:Value):Cx:={X with A:=X.A.mark (some v),calm:=false}
section
variable{X:Cx}{ca:Nat->Addr}{pins:List (Addr×Obj)}{σ:L2.St}{H:Hp}{s:Shared}{a:Addr}{x:Xc}
theorem Qid(v:Value)(I:Inv X pins σ H s):Inv (xmk X v) pins σ H s :=
 ⟨⟨I.ok.mod,I.ok.kind,I.ok.glob,I.ok.blt,I.ok.above,I.ok.inj,I.ok.has,I.ok.cab,(λz=>by cases z),I.ok.frames,I.ok.stk,I.ok.exf,I.ok.bs,I.ok.bsz,I.ok.noex,I.ok.exfs,I.ok.funs,I.ok.frf⟩,I.os,I.bare,I.base,I.loc,I.cell,I.free,I.freeC,I.pin,I.hok,I.len⟩
theorem QbJ{v:Value}(h:X.calm=true->X.A.handled=none)(I:Inv (xmk X v) pins σ H s):Inv X pins σ H s :=
 ⟨⟨I.ok.mod,I.ok.kind,I.ok.glob,I.ok.blt,I.ok.above,I.ok.inj,I.ok.has,I.ok.cab,h,I.ok.frames,I.ok.stk,I.ok.exf,I.ok.bs,I.ok.bsz,I.ok.noex,I.ok.exfs,I.ok.funs,I.ok.frf⟩,I.os,I.bare,I.base,I.loc,I.cell,I.free,I.freeC,I.pin,I.hok,I.len⟩
theorem QgL{o:HO}(I:Inv X pins σ H s)(ha:FpW X pins H a)(new:ObjOk X.prog X.w (upd H a o) s.heap a o):Inv X pins σ (upd H a o) s:=by
 have ne:∀b u,H b=some u->b≠a:=λb u e=>QQ e ha.1
 refine Qeb (h':=s.heap) (H':=upd H a o) (g':=s.gens) (t':=s.toks) (d':=s.drawn) (ch:=[a]) I (λb hb=>?_) (λb o _ _ _ e _=>e) (λb o _ _ _ e _=>⟨o.slots,e⟩) (λb o hb e n=>?_) (λb o _ e=>⟨o,e⟩)
  (λb xs e=>by rw[Qr (ne b _ e)];exact e) (λb o u e=>by rw[Qr (ne b _ e)];exact e) (λb ps e=>⟨#[],by rw[Qr (ne b _ e),e];simp⟩) (λ_ h=>h) (λb u e=>?_) I.bare
 ·rw[Uu.mp hb]
  exact⟨ha.2.2.2.1,ha.2.1,ha.2.2.2.2.1,ha.2.2.2.2.2⟩
 ·rw[Qr (λz=>hb (by simp[z]))];exact n
 ·by_cases hb:b=a
  ·subst hb;rw[Qn]at e;cases e;exact new
  ·rw[Qr hb]at e
   exact(I.hok b u e).stay (λ_ _ _ q=>q) (λc q=>by rw[Qr (ne c _ q)];exact q) λc xs q=>by rw[Qr (ne c _ q)];exact q
theorem Qie{M:Model}{A:Around}{E:Value->Shared->Prop}{i:Nat}{n:Str}{pos:Pos}{Q:Unit->Shared->Prop}(I:Inv X pins σ H s)(hN:X.N.Nodup)(hi:X.N[i]?=some n)(hl:X.env.kindOf n=some .local)(h:∀s',Inv X pins (σ.set i none) H s'->Q () s'):wpAny M A (do bindName X.env n .none;unbindBehindTheSuite X.env n pos) Q E s:=by
 obtain⟨m,hn,hlk⟩:=id I.loc
 have hcls:(X.env.scope.kind == .class || (X.env.scope.kind == .module && X.env.locals != X.env.globals))=false:=by rw[I.ok.kind];rfl
 refine wpAny_nameGoes_keeps hl hn hcls λh' v hn' hs=>h _ ?_
 have old:∀b o,b≠X.env.locals->s.heap.get? b=some o->h'.get? b=some o:=λb o hb e=>(hs.2 b hb).trans e
 have neL:∀b o,X.s₀.heap.get? b=some o->b≠X.env.locals:=λb o e=>UA (Ut (Uk e) I.ok.above)
 obtain⟨oL,_,_,hoL,_⟩:=id hn
 refine⟨I.ok,I.os,I.bare,⟨λb o e n hb hx=>old b o (neL b o e) (I.base.keep b o e n hb hx),λb o e n hb hx=>?_,I.base.free,λb o e hx=>?_,I.base.tups,I.base.frzs,I.base.tbls⟩,⟨_,hn',λj y u e1 e2 e3=>?_⟩,λy c e=>?_,I.free,I.freeC,λp hp=>?_,λb o e=>?_,by simpa using I.len⟩
 ·obtain⟨sl,z⟩:=I.base.slot b o e n hb hx
  exact⟨sl,old b _ (neL b o e) z⟩
 ·obtain⟨o',z⟩:=I.base.there b o e hx
  exact⟨o',old b _ (neL b o e) z⟩
 ·have hj:j≠i:=λz=>by
   subst z
   rw[List.getElem?_set]at e2
   split at e2
   ·split at e2 <;> simp at e2
   ·rename_i q;exact q rfl
  rw[Ug (Ne.symm hj)]at e2
  obtain⟨u',r',q⟩:=hlk j y u e1 e2 e3
  refine⟨u',r',?_⟩
  rcases q with⟨k,e⟩|⟨k,c,e,z⟩
  ·refine .inl ⟨k,?_⟩
   have:y≠n:=λe=>hj (Qdb hN e1 (e ▸ hi))
   simp[this,e]
  ·exact .inr ⟨k,c,e,z.sameBut hs (I.cne y c e)⟩
 ·obtain⟨w',z⟩:=I.cell y c e
  exact⟨w',z.sameBut hs (I.cne y c e)⟩
 ·obtain⟨e,n,ne,nf,d⟩:=I.pin p hp
  exact⟨old p.1 _ ne e,n,ne,nf,d⟩
 ·refine(I.hok b o e).stay (λc w' hc q=>old c _ ?_ q) (λ_ q=>q) λ_ _ q=>q
  rintro rfl
  rcases hc with z|z
  ·rw[<-z,I.free]at e;cases e
  ·rw[I.free]at z;cases z
end
section
variable{X:Cx}{ca:Nat->Addr}{body suite:List Stmt}{b0:Stmt}{mb mc:MS}{np hpos pos:Pos}{C:Addr}{cs no:List Nat}{T n:Str}
theorem Qno{Y:Cx}{pn pins:List (Addr×Obj)}{E E':Value->Shared->Prop}{σ:L2.St}{H:Hp}{s:Shared}(I:Inv {Y with pn:=pn,xe:=E} pins σ H s):Inv {Y with pn:=pn++pins,xe:=E'} [] σ H s :=
 ⟨⟨I.ok.mod,I.ok.kind,I.ok.glob,I.ok.blt,I.ok.above,I.ok.inj,I.ok.has,I.ok.cab,I.ok.hd,I.ok.frames,I.ok.stk,I.ok.exf,I.ok.bs,I.ok.bsz,I.ok.noex,I.ok.exfs,I.ok.funs,I.ok.frf⟩,I.os,I.bare,I.base,I.loc,I.cell,I.free,I.freeC,λp hp=>I.pin p (by rw[UY]at hp;exact hp),I.hok,I.len⟩
theorem QaW{Y:Cx}{pn pins:List (Addr×Obj)}{E E':Value->Shared->Prop}{σ:L2.St}{H:Hp}{s:Shared}(I:Inv {Y with pn:=pn++pins,xe:=E} [] σ H s):Inv {Y with pn:=pn,xe:=E'} pins σ H s :=
 ⟨⟨I.ok.mod,I.ok.kind,I.ok.glob,I.ok.blt,I.ok.above,I.ok.inj,I.ok.has,I.ok.cab,I.ok.hd,I.ok.frames,I.ok.stk,I.ok.exf,I.ok.bs,I.ok.bsz,I.ok.noex,I.ok.exfs,I.ok.funs,I.ok.frf⟩,I.os,I.bare,I.base,I.loc,I.cell,I.free,I.freeC,λp hp=>I.pin p (by rw[UY];exact hp),I.hok,I.len⟩
theorem Qds{pn:List (Addr×Obj)}{σ:L2.St}{H:Hp}{s:Shared}{a:Addr}{x:Xc}{oe:Obj}{R:Result->Shared->Prop}{b:Bool}(I:Inv (xon X pn) [] σ H s)(hT:X.mg T=some (.ref C))(F:CatX X.K ca C cs no)(he:s.heap.get? a=some oe)(ho:XOb ca x oe)(hs:subIn X.K (.ref (ca x.1)) (.ref C)=some b)(hg:Gl X T)(hdb:(T == ("__debug__" : Str))=false)(h:R (.ok (if b then .brk else .next)) s):
  codeAny (model X.prog X.w) (X.A.mark (some (.ref a))) (.handlers (.ref a) [.ExceptHandler (some (.Name T np)) none [] hpos] X.env) R s :=
 codeAny_handlers_test (QbR (X:=xmk (xon X pn) (.ref a)) (Qid _ I) hg hT (Qic I.kIn F he ho.1 hs h) hdb)
theorem QlJ{pn pins:List (Addr×Obj)}{Φ:XS}{σ:L2.St}{H:Hp}{s:Shared}{a:Addr}{x:Xc}{Q:Flow->Shared->Prop}(hf:X.env.frame=some X.env.locals)(I:Inv (xon X (pn++pins)) [] σ H s)(fl:FlT (xon X (pn++pins)) ca a x H s.heap)(h:Φ x σ H):
  wpAny (model X.prog X.w) X.A (handleBy (.ref a) X.env []) Q (xat X ca pn Φ).xe s:=by
 refine wpAny_handleBy_nil ?_
 unfold PySem.passOn
 obtain⟨fp,ln,oe,vs,T,oT,ts,he,hc,hd,hv,hTa,fT,hT,hdT,hs3⟩:=id fl
 refine Ua (UM he hd hv ?_)
 rw[Ud (show ¬((Value.ref T == Value.none)=true) from by simp)]
 refine Ua (Jr (fo:=X.env.frame) I fl λh2 T oT ts oe vs I2 a1 a2 a3 a4 a5 a6 a7 a8 a9 a10=>wpAny_throw ?_)
 rw[hf]at a10
 have dn:∀{b:Addr},FpW (xon X (pn++pins)) [] H b->FpW (xon X pn) [] H b:=λz=>⟨z.1,z.2.1,z.2.2.1,z.2.2.2.1,z.2.2.2.2.1,λp hp=>z.2.2.2.2.2 p (by rw[UY]at hp ⊢;exact Td _ hp)⟩
 exact⟨a,x,σ,H,rfl,(QaW (Y:=X) I2).pins_of λp hp=>absurd hp (by simp),FlN.fl ⟨dn fp,ln,oe,vs,T,oT,ts,a1,a2,a3,a4,a5,dn a6,a7,a8,a10⟩,h⟩
def PH3(ca:Nat->Addr)(X:Cx)(hl:List ExceptHandler)(hs:List MH):Prop:=∀(pn pins:List (Addr×Obj))(Φ:XS)(En:Ends)(σ:L2.St)(H:Hp)(s:Shared)(a:Addr)(x:Xc)(σ3:S3)(g:G)(μ:List Addr),(X.calm=true->X.A.handled=none)->Inv (xon X (pn++pins)) [] σ H s->FlT (xon X (pn++pins)) ca a x H s.heap->Rep X.K ca μ σ3 g σ H->PostS X.K ca Φ En H μ (runH hs x σ3 g) ->
 wpAny (model X.prog X.w) X.A (handleBy (.ref a) X.env hl) (SP (xat X ca pn Φ) pins En) (xat X ca pn Φ).xe s
theorem Qnp(hf:X.env.frame=some X.env.locals:=by rfl):PH3 ca X [] []:=λpn pins Φ En σ H s a x σ3 g μ hcalm I fl R p=>QlJ hf I fl (p σ H μ .refl R)
theorem Qox{hs:List MH}{h0:ExceptHandler}{hr:List ExceptHandler}(hb:PSs3 ca X body mb)(hh:PH3 ca X (h0::hr) hs)(hk:X.stack=X.env::X.outer:=by rfl)(hf:X.env.frame=some X.env.locals:=by rfl):PS3 ca X (.Try body (h0::hr) [] [] pos) (mTry mb hs):=by
 intro pn Φ pins s σ H En I ⟨σ3,g,μ,R,p⟩
 refine wpAny_Try_except ?_
 have p1:PostS X.K ca (λx σ' H'=>∃σ4 g4 μ4,Rep X.K ca μ4 σ4 g4 σ' H'/\PostS X.K ca Φ En H' μ4 (runH hs x σ4 g4)) En H μ (mb σ3 g):=by
  unfold mTry at p
  cases hm:mb σ3 g with
  |nx _ _=>rw[hm]at p;exact p
  |rt _ _=>rw[hm]at p;exact p
  |bk _ _=>rw[hm]at p;exact p
  |ct _ _=>rw[hm]at p;exact p
  |raise x σ' g'=>rw[hm]at p;exact λσ4 H' μ' e R'=>⟨σ',g',μ',R',PostS.go e p⟩
  |stuck=>rw[hm]at p;exact p
 refine UU (hb (pn++pins) _ [] s σ H En (Qno (Y:=X) I) ⟨σ3,g,μ,R,p1⟩) (λf s1 h1=>?_) λv s1 h1=>?_
 ·cases f with
  |next=>obtain⟨σ',H',J,q⟩:=h1;exact Qhm (X:=xat X ca pn Φ) pins s1 σ' H' En (QaW (Y:=X) J) q
  |brk=>obtain⟨σ',H',J,q⟩:=h1;exact⟨σ',H',QaW (Y:=X) J,q⟩
  |cont=>obtain⟨σ',H',J,q⟩:=h1;exact⟨σ',H',QaW (Y:=X) J,q⟩
  |ret u=>obtain⟨v,σ',H',J,r,q⟩:=h1;exact⟨v,σ',H',QaW (Y:=X) J,r,q⟩
 ·obtain⟨a,x,σ',H',rfl,I1,fl,σ4,g4,μ4,R4,p4⟩:=h1
  refine Qe0 (X:=xon X (pn++pins)) I1 hk hf fl λh2 I2 f2=>?_
  refine Jr (X:=xon X (pn++pins)) (fo:=none) I2 f2.t λh3 T oT ts oe vs I3 a1 a2 a3 a4 a5 a6 a7 a8 a9 a10=>?_
  exact hh pn pins Φ En σ' H' _ a x σ4 g4 μ4 I.ok.hd I3 ⟨f2.1,f2.2.1,oe,vs,T,oT,ts,a1,a2,a3,a4,a5,a6,a7,a8,a9⟩ R4 p4
theorem Qoy{hl':List ExceptHandler}{hs:List MH}(i:Nat)(hN:X.N.Nodup)(hT:X.mg T=some (.ref C)/\CatX X.K ca C cs no)(hc:∀a,PSs3 ca (xmk X (.ref a)) (b0::suite) mc)(hrest:PH3 ca X hl' hs)(hi:X.N[i]?=some n:=by rfl)(hl:X.env.kindOf n=some .local:=by rfl)(hg:Gl X T:=by rfl)(hdb:(T == ("__debug__" : Str))=false:=by decide):
  PH3 ca X (.ExceptHandler (some (.Name T np)) (some n) (b0::suite) hpos::hl') (⟨cs,no,some i,mc⟩::hs):=by
 intro pn pins Φ En σ H s a x σ3 g μ hcalm I fl R p
 obtain⟨fp,ln,oe,vs,Tb,oT,ts,he,hox,hd,hv,hTa,fT,hTT,hdT,hs3⟩:=id fl
 unfold runH at p
 by_cases hx:x.1∈cs
 ·rw[Uc hx]at p
  dsimp only at p
  refine TZ (Qds I hT.1 hT.2 he hox (hT.2.yes _ hx) hg hdb ?_) (by intro q;cases q)
  refine codeAny_handlers_suite_as ?_
  refine Jr (fo:=none) I fl λh2 T2 oT2 ts2 oe2 vs2 I2 b1 b2 b3 b4 b5 b6 b7 b8 b9 b10=>?_
  have I3:Inv (xon X (pn++pins)) [] σ (upd H a (XO ca a x)) {s with heap:=h2}:=QgL I2 fp ⟨⟨oe2,vs2,b1,b2,b3⟩,⟨oe2,b1⟩,λh3 h4 ⟨o,ws,c1,c2,c3⟩ k=>⟨o,ws,k o c1,c2,c3⟩⟩
  have ex:Ext X.K μ H (μ++[a]) (upd H a (XO ca a x)):=Qp fp.1
  have G3:GRep X.K ca (μ++[a]) (upd H a (XO ca a x)) (g++[.exc x]):=R.g.push fp.1 Qn
  have ea:(μ++[a])[g.length]?=some a:=by rw[<-R.g.len];simp
  refine QbE (X:=xmk (xon X (pn++pins)) (.ref a)) (Qid _ I3) hN hi (.inl hl) (v:=.ref a) rfl (λs4 I4=>?_) (.inr hl)
  have R4:Rep X.K ca (μ++[a]) (σ3.set i (some (.ref g.length))) (g++[.exc x]) (σ.set i (some (.ref a))) (upd H a (XO ca a x)):=(R.go ex G3).set (.ref ea) i
  have hcc:=hc a (pn++pins) F0 [] s4 (σ.set i (some (.ref a))) (upd H a (XO ca a x)) {nx:=λσ' H'=>En.nx (σ'.set i none) H',rt:=En.rt} (Inv.wish I4 _) ⟨_,_,_,R4,by
   cases hm:mc (σ3.set i (some (.ref g.length))) (g++[.exc x]) with
   |nx σ5 g5 =>
    rw[hm]at p
    intro σ' H' μ' e' R'
    refine p (σ'.set i none) H' μ' (ex.trans e') ⟨R'.g,by rw[Ti,Ti,R'.len],λj d hj=>?_⟩
    have hji:j≠i:=λz=>by
     subst z
     rw[List.getElem?_set]at hj
     split at hj
     ·split at hj <;> simp at hj
     ·rename_i q;exact q rfl
    rw[Ug (Ne.symm hji)]at hj ⊢
    exact R'.st j d hj
   |rt d g5=>rw[hm]at p;exact λv H' μ' e'=>p v H' μ' (ex.trans e')
   |bk _ _=>rw[hm]at p;exact p.elim
   |ct _ _=>rw[hm]at p;exact p.elim
   |raise _ _ _=>rw[hm]at p;exact p.elim
   |stuck=>rw[hm]at p;exact p.elim⟩
  refine UU (noX hcc) (λf s5 h5=>?_) λ_ _ z=>z.elim
  cases f with
  |next =>
   obtain⟨σ',H',J,q⟩:=h5
   have J':Inv (xon X (pn++pins)) [] σ' H' s5:=QbJ (v:=.ref a) hcalm (Inv.wish J _)
   exact Qie (X:=xon X (pn++pins)) J' hN hi hl λs6 J6=>⟨_,H',QaW (Y:=X) J6,q⟩
  |ret u =>
   obtain⟨v,σ',H',J,r,q⟩:=h5
   have J':Inv (xon X (pn++pins)) [] σ' H' s5:=QbJ (v:=.ref a) hcalm (Inv.wish J _)
   exact Qie (X:=xon X (pn++pins)) J' hN hi hl λs6 J6=>⟨v,_,H',QaW (Y:=X) J6,r,q⟩
  |brk=>obtain⟨_,_,_,q⟩:=h5;exact q.elim
  |cont=>obtain⟨_,_,_,q⟩:=h5;exact q.elim
 ·rw[Ud hx]at p
  by_cases hn:x.1∈no
  ·rw[Uc hn]at p
   refine TZ (Qds I hT.1 hT.2 he hox (hT.2.no' _ hn) hg hdb ?_) (by intro q;cases q)
   exact hrest pn pins Φ En σ H s a x σ3 g μ hcalm I fl R p
  ·rw[Ud hn]at p;exact p.elim
theorem Qnq{hl':List ExceptHandler}{hs:List MH}(hT:X.mg T=some (.ref C)/\CatX X.K ca C cs no)(hc:∀a,PSs3 ca (xmk X (.ref a)) (b0::suite) mc)(hrest:PH3 ca X hl' hs)(hg:Gl X T:=by rfl)(hdb:(T == ("__debug__" : Str))=false:=by decide):
  PH3 ca X (.ExceptHandler (some (.Name T np)) none (b0::suite) hpos::hl') (⟨cs,no,none,mc⟩::hs):=by
 intro pn pins Φ En σ H s a x σ3 g μ hcalm I fl R p
 obtain⟨fp,ln,oe,vs,Tb,oT,ts,he,hox,hd,hv,hTa,fT,hTT,hdT,hs3⟩:=id fl
 unfold runH at p
 by_cases hx:x.1∈cs
 ·rw[Uc hx]at p
  dsimp only at p
  refine TZ (Qds I hT.1 hT.2 he hox (hT.2.yes _ hx) hg hdb ?_) (by intro q;cases q)
  refine codeAny_handlers_suite ?_
  refine Jr (fo:=none) I fl λh2 T2 oT2 ts2 oe2 vs2 I2 b1 b2 b3 b4 b5 b6 b7 b8 b9 b10=>?_
  have hcc:=hc a (pn++pins) F0 [] {s with heap:=h2} σ H {nx:=En.nx,rt:=En.rt} (Inv.wish (Qid (.ref a) I2) _) ⟨_,_,_,R,by
   cases hm:mc σ3 g with
   |nx σ5 g5=>rw[hm]at p;exact p
   |rt d g5=>rw[hm]at p;exact p
   |bk _ _=>rw[hm]at p;exact p.elim
   |ct _ _=>rw[hm]at p;exact p.elim
   |raise _ _ _=>rw[hm]at p;exact p.elim
   |stuck=>rw[hm]at p;exact p.elim⟩
  refine UU (noX hcc) (λf s5 h5=>?_) λ_ _ z=>z.elim
  cases f with
  |next =>
   obtain⟨σ',H',J,q⟩:=h5
   exact⟨σ',H',QaW (Y:=X) (QbJ (X:=xon X (pn++pins)) (v:=.ref a) hcalm (Inv.wish J _)),q⟩
  |ret u =>
   obtain⟨v,σ',H',J,r,q⟩:=h5
   exact⟨v,σ',H',QaW (Y:=X) (QbJ (X:=xon X (pn++pins)) (v:=.ref a) hcalm (Inv.wish J _)),r,q⟩
  |brk=>obtain⟨_,_,_,q⟩:=h5;exact q.elim
  |cont=>obtain⟨_,_,_,q⟩:=h5;exact q.elim
 ·rw[Ud hx]at p
  by_cases hn:x.1∈no
  ·rw[Uc hn]at p
   refine TZ (Qds I hT.1 hT.2 he hox (hT.2.no' _ hn) hg hdb ?_) (by intro q;cases q)
   exact hrest pn pins Φ En σ H s a x σ3 g μ hcalm I fl R p
  ·rw[Ud hn]at p;exact p.elim
end
noncomputable def bchk(sc scope:Scope)(N Nb:List Str)(no:Nat)(cap:List Nat):Bool :=
 decide (scope.kind=.function) && scope.names.all (λy=>decide (y.2≠.cell)) && scope.names.all (λy=>decide (y.2≠.local) || decide (scope.names.lookup y.1=some .local)) &&
 scope.names.all (λy=>decide (y.2≠.free) || decide (sc.names.lookup y.1=some .cell) || decide (sc.names.lookup y.1=some .free)) && decide (Nb.length=no+cap.length) &&
 (List.range cap.length).all λj=>match cap[j]?,Nb[no+j]? with
  |some i,some x=>decide (N[i]?=some x) && decide (scope.names.lookup x=some .free) && (decide (sc.names.lookup x=some .cell) || decide (sc.names.lookup x=some .free))
  |_,_=>false
theorem YJ{X:Cx}{scope sc:Scope}{N Nb:List Str}{no:Nat}{cap:List Nat}(hsc:X.env.scope=sc)(hN:X.N=N)(h:bchk sc scope N Nb no cap=true):BScope X scope Nb no cap:=by
 subst hsc hN
 unfold bchk at h
 simp only[UH,decide_eq_true_eq]at h
 obtain⟨⟨⟨⟨⟨h1,h2⟩,h3⟩,h4⟩,h5⟩,h6⟩:=h
 rw[UI]at h2 h3 h4 h6
 refine⟨h1,λy hy=>Th (h2 y hy),λy hy e=>?_,λy hy e=>?_,h5,λj i hj=>?_⟩
 ·rcases Rx.mp (h3 y hy) with z|z
  ·exact absurd e (Th z)
  ·exact Th z
 ·rcases Rx.mp (h4 y hy) with z|z
  ·rcases Rx.mp z with z|z
   ·exact absurd e (Th z)
   ·exact .inl (Th z)
  ·exact .inr (Th z)
 ·have hl:j<cap.length:=(Uj.mp hj).1
  have z:=h6 j (TV.mpr hl)
  rw[hj]at z
  cases hx:Nb[no+j]? with
  |none=>rw[hx]at z;cases z
  |some x =>
   rw[hx]at z
   simp only[UH,Bool.or_eq_true,decide_eq_true_eq]at z
   obtain⟨⟨z1,z2⟩,z3⟩:=z
   refine⟨x,rfl,z1,z2,.inr z3,λq=>?_⟩
   have q:X.env.scope.names.lookup x=some .local:=q
   rcases z3 with z|z
   ·rw[z]at q;cases q
   ·rw[z]at q;cases q
noncomputable def exkB(K:Frag)(C:Addr):Bool :=
 (findIn K (.ref C) "__getattribute__" == some (some (.builtin "BaseException.__getattribute__"))) && (findIn K (.ref C) "__getattr__" == some none) && (findIn K (.ref C) "__class__" == some (some (.builtin "object.__class__"))) &&
 (specialIn K (.builtin "object.__class__") "__get__" == some (some (.builtin "getset_descriptor.__get__"))) && (takesIn K (.builtin "object.__class__") == some true) && (mroIn K C (.type "object") == some true) &&
 (subIn K (.ref C) (.type "BaseException") == some true) && (clsIn K C).isSome
theorem Qnr{K:Frag}{C:Addr}(h:exkB K C=true):ExK K C:=by
 unfold exkB at h
 simp only[UH,U1]at h
 obtain⟨⟨⟨⟨⟨⟨⟨h1,h2⟩,h3⟩,h4⟩,h5⟩,h6⟩,h7⟩,h8⟩:=h
 exact⟨h1,h2,h3,h4,h5,h6,h7,h8⟩
noncomputable def isxB(K:Frag)(ca:Nat->Addr)(T:Value)(all cs:List Nat):Bool:=all.all (λc=>exkB K (ca c) && (kitOne K (.ref (ca c)) T == some (decide (c∈cs)))) && (kitOne K (.type "NoneType") T == some false)
theorem Qns{K:Frag}{ca:Nat->Addr}{T:Value}{all cs:List Nat}(h:isxB K ca T all cs=true):IsX K ca T all cs:=by
 unfold isxB at h
 rw[UH,UI]at h
 exact⟨λc hc=>Qnr (TU.mp (h.1 c hc)).1,λc hc=>U1.mp (TU.mp (h.1 c hc)).2,U1.mp h.2⟩
noncomputable def catB(K:Frag)(ca:Nat->Addr)(C:Addr)(cs no:List Nat):Bool:=(clsIn K C).isSome && (typeIn K (.ref C) == some (.type "type")) && (subIn K (.ref C) (.type "BaseException") == some true) &&
 cs.all (λc=>subIn K (.ref (ca c)) (.ref C) == some true) && no.all λc=>subIn K (.ref (ca c)) (.ref C) == some false
theorem QkQ{K:Frag}{ca:Nat->Addr}{C:Addr}{cs no:List Nat}(h:catB K ca C cs no=true):CatX K ca C cs no:=by
 unfold catB at h
 simp only[UH,U1,UI]at h
 obtain⟨⟨⟨⟨h1,h2⟩,h3⟩,h4⟩,h5⟩:=h
 exact⟨h1,h2,h3,h4,h5⟩
noncomputable def clsB(K:Frag)(C:Addr):Bool:=plainGet K C Str.empty && hasDictIn K C && plainOver K C && (findIn K (.ref C) "__setattr__" == some (some (.builtin "object.__setattr__")))
theorem QfW{K:Frag}{C:Addr}(h:clsB K C=true):Cls K C:=by
 unfold clsB at h
 simp only[UH,U1]at h
 obtain⟨⟨⟨h1,h2⟩,h3⟩,h4⟩:=h
 exact⟨h1,h2,h3,h4⟩
noncomputable def fldB(K:Frag)(ca:Nat->Addr)(cs:List Nat)(f:Str):Bool:=cs.all λc=>clsB K (ca c) && (findIn K (.ref (ca c)) f == some none)
theorem Qc7{K:Frag}{ca:Nat->Addr}{cs:List Nat}{f:Str}(h:fldB K ca cs f=true):FldOk K ca cs f:=by
 unfold fldB at h
 rw[UI]at h
 exact⟨λc hc=>QfW (TU.mp (h c hc)).1,λc hc=>U1.mp (TU.mp (h c hc)).2⟩
section
variable{X:Cx}{ca:Nat->Addr}{pos:Pos}{x:Str}
theorem Qif{t:Str}(h:∃k,X.mg x=some (.str t k))(hg:Gl X x:=by rfl)(hd:(x == ("__debug__" : Str))=false:=by decide):PE3 ca X (.Name x pos) (mLit (.str t)):=by
 obtain⟨k,h⟩:=h
 exact QkK h (v:=.str t) ⟨k,rfl⟩ (λ_ _ _=>.str t) hg hd
theorem Qig{i:Int}(h:∃k,X.mg x=some (.int i k))(hg:Gl X x:=by rfl)(hd:(x == ("__debug__" : Str))=false:=by decide):PE3 ca X (.Name x pos) (mLit (.int i)):=by
 obtain⟨k,h⟩:=h
 exact QkK h (v:=.int i) ⟨k,rfl⟩ (λ_ _ _=>.int i) hg hd
end
theorem QkR:bootBuiltins "int" = some (.type Ty.int.name):=boot_int
theorem Qih:bootBuiltins "bool" = some (.type Ty.bool.name):=by decide +kernel
theorem QkS:bootBuiltins "str" = some (.type Ty.str.name):=by decide +kernel
theorem Qao:bootBuiltins "tuple" = some (.type Ty.tuple.name):=boot_tuple
theorem Qe4:bootBuiltins "list" = some (.type Ty.list.name):=boot_list
section
variable{P:Program}{w:World}{K:Frag}{mg:Str->Option Value}{base:Heap}{ca:Nat->Addr}
theorem QlK{f:Addr}{fd:FuncData}{ps:List Str}{k n:Nat}(hn:ps.length=n):FnOk P w K mg base (CXW P w ca) k f fd ps (spM K ca n λ_ _=>.stuck):=by
 subst hn
 exact⟨λvs H Q E q=>q.1,λA outer s H args us vs Q E _ _ _ _ h=>by obtain⟨_,_,_,_,_,_,z⟩:=h;exact z.elim⟩
theorem Qnt{F:MF}{H:Hp}{a:Addr}{ns:List Int}(hO:Only H)(hS:SqL K H a (ns.map V.int))(h:∃g',F [.fl (ns.map D.int)] []=.ok (.bl true) g'):spM K ca 1 F [.ref a] H (λv _=>v=.bl true) λ_ _ _=>False:=by
 obtain⟨g',h⟩:=h
 have hF:SqF K H a (ns.map V.int):=by
  rcases hS with(h|⟨o,h⟩)|h
  ·rcases hO a with z|⟨o,xs,z⟩
   ·rw[h]at z;cases z
   ·rw[h]at z;cases z
  ·exact .inl ⟨o,h⟩
  ·exact .inr (.inr h)
 refine⟨rfl,[.fl (ns.map D.int)],[],[],⟨rfl,.nil,λn a o h=>by simp at h⟩,.cons (.fl hF (Dens.ints ns)) .nil,?_⟩
 rw[h]
 intro v H' μ' e r q
 cases q
 rfl
end
end L3
namespace L3
open PySem PySem.Spec
section
theorem len0{α:Type}{us:List α}(h:us.length=0):us=[]:=List.eq_nil_of_length_eq_zero h
theorem len1{α:Type}{us:List α}(h:us.length=1):∃a0,us=[a0]:=by
 cases us with
 |nil=>cases h
 |cons a r =>
  have e:=len0 (Nat.succ.inj h)
  subst e
  exact⟨a,rfl⟩
theorem len2{α:Type}{us:List α}(h:us.length=2):∃a0 a1,us=[a0,a1]:=by
 cases us with
 |nil=>cases h
 |cons a r =>
  obtain⟨b0,rfl⟩:=len1 (Nat.succ.inj h)
  exact⟨a,b0,rfl⟩
theorem len3{α:Type}{us:List α}(h:us.length=3):∃a0 a1 a2,us=[a0,a1,a2]:=by
 cases us with
 |nil=>cases h
 |cons a r =>
  obtain⟨b0,b1,rfl⟩:=len2 (Nat.succ.inj h)
  exact⟨a,b0,b1,rfl⟩
theorem len4{α:Type}{us:List α}(h:us.length=4):∃a0 a1 a2 a3,us=[a0,a1,a2,a3]:=by
 cases us with
 |nil=>cases h
 |cons a r =>
  obtain⟨b0,b1,b2,rfl⟩:=len3 (Nat.succ.inj h)
  exact⟨a,b0,b1,b2,rfl⟩
noncomputable def QkT:Expr->Bool
 |.Starred ..=>false
 |_=>true
theorem Qii{e:Expr}{es:List Expr}{env:Env}(h:QkT e=true):starEach (e::es) env=(false,eval e env)::starEach es env:=by
 cases e <;> first|rfl|exact absurd h Ue
variable{P:Program}{w:World}{K:Frag}{mg:Str->Option Value}{base:Heap}{ca:Nat->Addr}{X:L2.Cx}
theorem Qd{e:Expr}{es:List Expr}{me:ME}{mr:MA}(ha:PE3 ca X e me)(hr:PA3 ca X es mr)(hs:QkT e=true:=by rfl):PA3 ca X (e::es) (Qb me mr):=Jp ha hr (Qii hs)
noncomputable def QkU:Expr->Bool
 |.ListComp ..=>false
 |.SetComp ..=>false
 |.DictComp ..=>false
 |_=>true
theorem QlL{e:Expr}{t:Option Expr}{l:Nat}{env:Env}(h:QkU e=true):swapsWith e t l env=pure false:=by
 cases e <;> first|rfl|exact absurd h Ue
theorem Qw(i:Nat){x:Str}{pos pos':Pos}{e:Expr}{me:ME}(hN:X.N.Nodup)(he:PE3 ca X e me)(hi:X.N[i]?=some x:=by rfl)(hx:L2.Loc X.env.scope x:=by first|exact Or.inl rfl|exact Or.inr rfl)(hs:QkU e=true:=by rfl)(hf:X.fn x=true\/X.env.scope.names.lookup x=some .local:=by first|exact .inl rfl|exact .inr rfl):
  PS3 ca X (.Assign [.Name x pos'] e pos) (mAsg (gSet i) me):=Qor i hN he hi hx (QlL hs) hf
end
end L3
section
namespace PySem
namespace F
end F
end PySem
end
namespace L3
open PySem PySem.Spec PyProof.Rows PySem.Calls
section
variable{prog:Program}{w:World}{A:Around}{E:Value->Shared->Prop}{s:Shared}
def IsRevT(h:Heap)(a l:Addr)(i:Int):Prop:=∃o,h.get? a=some o/\o.cls=.type "reversed" /\ o.data=.fields #[.ref l,rawInt i]
theorem IsRevT.typeIs{a l:Addr}{i:Int}(x:IsRevT s.heap a l i):s.TypeIs (.ref a) "reversed":=let ⟨o,ho,hc,_⟩:=x;⟨o,ho,hc⟩
theorem IsRevT.at{h h':Heap}{a l:Addr}{i:Int}(x:IsRevT h a l i)(e:∀o,h.get? a=some o->h'.get? a=some o):IsRevT h' a l i:=let ⟨o,ho,r⟩:=x;⟨o,e _ ho,r⟩
end
end L3
namespace L3
open PySem
noncomputable def insZ(x:Int):List Int->List Int
 |[]=>[x]
 |y::r=>if x<=y then x::y::r else y::insZ x r
noncomputable def ZE:List Int->List Int
 |[]=>[]
 |x::r=>insZ x (ZE r)
noncomputable def YK(x:D)(g:G):Res D:=match QG g x with
 |some (true,ds)=>(match Qd9 ds with
  |some ns=>if ns.length<64 then .ok (.ref g.length) (g++[.lst ((ZE ns).map .int)]) else .stuck
  |none=>.stuck)
 |_=>.stuck
theorem Qb6(x:Int):∀l:List Int,(insZ x l).Perm (x::l)
 |[]=>.refl _
 |y::r=>by
  unfold insZ
  split
  ·exact .refl _
  ·exact((Qb6 x r).cons y).trans (List.Perm.swap x y r)
theorem Zs:∀l:List Int,(ZE l).Perm l
 |[]=>.refl _
 |x::r=>(Qb6 x (ZE r)).trans ((Zs r).cons x)
theorem Qb7(x:Int):∀l:List Int,l.Pairwise (· <= ·)->(insZ x l).Pairwise (· <= ·)
 |[],_=>by simp[insZ]
 |y::r,h=>by
  unfold insZ
  have h':=TL.mp h
  split
  ·rename_i hxy
   exact TL.mpr ⟨λz hz=>by
    rcases UL.mp hz with rfl|hz
    ·exact hxy
    ·exact Int.le_trans hxy (h'.1 z hz),h⟩
  ·rename_i hxy
   refine TL.mpr ⟨λz hz=>?_,Qb7 x r h'.2⟩
   rcases UL.mp ((Qb6 x r).mem_iff.mp hz) with rfl|hz
   ·omega
   ·exact h'.1 z hz
theorem Y0:∀l:List Int,(ZE l).Pairwise (· <= ·)
 |[]=>.nil
 |x::r=>Qb7 x _ (Y0 r)
theorem Qb8:∀(l m:List Int),l.Perm m->l.Pairwise (· <= ·)->m.Pairwise (· <= ·)->l=m
 |[],m,h,_,_=>(List.nil_perm.mp h).symm
 |x::l,[],h,_,_=>by have:=h.length_eq;simp at this
 |x::l,y::m,h,hl,hm=>by
  have hl':=TL.mp hl
  have hm':=TL.mp hm
  have e:x=y:=by
   have h1:x∈y::m:=h.mem_iff.mp (Ur ..)
   have h2:y∈x::l:=h.mem_iff.mpr (Ur ..)
   have a:y<=x:=by
    rcases UL.mp h1 with e|h1
    ·omega
    ·exact hm'.1 x h1
   have b:x<=y:=by
    rcases UL.mp h2 with e|h2
    ·omega
    ·exact hl'.1 y h2
   omega
  subst e
  rw[Qb8 l m ((List.perm_cons x).mp h) hl'.2 hm'.2]
end L3
namespace L3
open PySem PySem.Spec PyProof.Rows L2
section
variable{X:Cx}{ca:Nat->Addr}{a b e o i:Expr}{ma mb me mo mi:ME}{pos p p2 apos:Pos}{k:Nat}
theorem intsAre_of:∀{ns:List Int}{us:List Value},Vals (ns.map V.int) us->IntsAre us ns
 |[],_,h=>by cases h;exact .nil
 |n::ns,_,h=>by
  cases h with
  |cons h1 h2 =>
   obtain⟨t,rfl⟩:=h1
   exact .cons n t (intsAre_of h2)
theorem Qij:∀{us:List Value}{ns:List Int},IntsAre us ns->Vals (ns.map V.int) us
 |_,_,.nil=>.nil
 |_,_,.cons n t r=>.cons ⟨t,rfl⟩ (Qij r)
theorem Qe5:CallR X (.builtin "sorted") (λxs H Q=>∃(p:Addr)(ns:List Int),xs=[.ref p]/\SqL X.K H p (ns.map V.int)/\ns.length<64/\∀l,H l=none->Q (.ref l) (upd H l (.lst ((ZE ns).map V.int)))):=by
 intro pins s σ H xs us Q I r h
 obtain⟨p,ns,rfl,hq,h64,q⟩:=h
 obtain⟨u,rfl,rx⟩:=Qgv r
 cases rx
 obtain⟨its,r',pl,hz⟩:=I.list hq
 have hlen:=r'.length
 rw[Um]at hlen
 refine sorted_ints pl.isList (intsAre_of r') (by omega) λout ns' a1 a2 a3=>?_
 have e:ns'=ZE ns:=Qb8 _ _ (a2.trans (Zs ns).symm) a3 (Y0 ns)
 subst e
 obtain⟨c,he⟩:=sortedAll_at s.heap its out
 have hl2:((ZE ns).map V.int).length<=sizeLine:=by rw[Um,(Zs ns).length_eq];rw[Um]at hz;exact hz
 exact⟨.ref (s.heap.objs.size+1),_,I.laid (t':=s.toks) (λb o=>sortedAll_old) (Ww _) (show ObjOk X.prog X.w _ _ _ (.lst ((ZE ns).map V.int)) from ⟨hl2,out.toList,c,Qij a1,he⟩),rfl,q _ (I.hok.fresh (Ww _))⟩
theorem Qe6{K:Frag}{μ:List Addr}{H:Hp}:∀ns:List Int,Dens K μ H (ns.map V.int) (ns.map D.int)
 |[]=>.nil
 |n::ns=>.cons (.int n) (Qe6 ns)
theorem QfX(hm:X.mg "sorted" = none)(he:PE3 ca X e me)(hg:Gl X "sorted":=by rfl)(hs:starEach [e] X.env=[(false,eval e X.env)]:=by rfl)(hpl:(backTo pos (starEach [] X.env)).any (·.1)=false:=by rfl):
  PE3 ca X (.Call (.Name "sorted" p) [e] [] pos) (mOp1 YK me) :=
 QjF (r:=λxs H Q=>∃(p:Addr)(ns:List Int),xs=[V.ref p]/\SqL X.K H p (ns.map V.int)/\ns.length<64/\∀l,H l=none->Q (.ref l) (upd H l (.lst ((ZE ns).map V.int)))) (λ_ _=>Qe5) hm boot_sorted (λΦ σ H μ g y d Q r q pp=>by
  have el:∀l:Addr,(μ++[l])[g.length]?=some l:=λl=>by rw[<-r.len];simp
  unfold YK at pp
  cases hs1:QG g d with
  |none=>rw[hs1]at pp;exact pp.elim
  |some p1 =>
   obtain⟨b,ds⟩:=p1
   rw[hs1]at pp
   cases b with
   |false=>exact pp.elim
   |true =>
    dsimp only at pp
    cases hi:Qd9 ds with
    |none=>rw[hi]at pp;exact pp.elim
    |some ns =>
     rw[hi]at pp
     dsimp only at pp
     by_cases h64:ns.length<64
     ·rw[Uc h64]at pp
      obtain⟨a,ws,rfl,sq,dn⟩:=JG r q hs1
      have ew:=Qeg dn hi
      subst ew
      exact⟨a,ns,rfl,sq,h64,λl hl=>pp _ _ (μ++[l]) (Qp hl) (r.push hl ⟨_,Qn,Qe6 _⟩) (.ref (el l))⟩
     ·rw[Ud h64]at pp;exact pp.elim) he hg (by decide) (by decide) hs hpl
end
end L3
namespace PySem
open Sem (wp)
namespace F
theorem nolen_lri:typeLookup (.type "list_reverseiterator") "__len__" = pure none:=by rw[typeLookup_type,builtinLookup_eq_fast];kernel_rfl
theorem hint_lri:typeLookup (.type "list_reverseiterator") "__length_hint__" = pure (some (.builtin "list_reverseiterator.__length_hint__")):=by rw[typeLookup_type,builtinLookup_eq_fast];kernel_rfl
end F
section
variable{prog:Program}{w:World}{A:Around}{E:Value->Shared->Prop}{s:Shared}{I:Addr}{fp wr:List Addr}{G:Array GenState->Array GenState->Prop}{n:Nat}{P:Nat->Value->Prop}{St:Nat->Shared->Prop}
end
end PySem
namespace L3
open PySem PySem.Spec PyProof.Rows L2
theorem QfY:∀{xs:List V}{us:List Value},Vals xs us->Vals xs.reverse us.reverse
 |_,_,.nil=>.nil
 |_,_,.cons h t=>by rw[Tx,Tx];exact(QfY t).append (.cons h .nil)
theorem Dens.rev{K:Frag}{μ:List Addr}{H:Hp}:∀{vs:List V}{ds:List D},Dens K μ H vs ds->Dens K μ H vs.reverse ds.reverse
 |_,_,.nil=>.nil
 |_,_,.cons h t=>by rw[Tx,Tx];exact(Dens.rev t).append (.cons h .nil)
section
variable{X:Cx}{ca:Nat->Addr}{e:Expr}{me:ME}{p p2 pos pos2:Pos}
end
end L3
namespace PySem
open Sem (wp)
section
variable{prog:Program}{w:World}{A:Around}{E:Value->Shared->Prop}{s:Shared}{I:Addr}{fp wr:List Addr}{G:Array GenState->Array GenState->Prop}{n:Nat}{P:Nat->Value->Prop}{St:Nat->Shared->Prop}
theorem QgM{R:Result->Shared->Prop}(W:WalksS prog w A.in1 I fp wr G n P St)(hT:∀i s,St i s->s.TypeIs (.ref I) "list_reverseiterator")(S:Addr)(res:Value)(c₀:Nat)(hst:St 0 s)(hSf:S∉fp)(hI:I∈fp)(hS:s.heap.get? S=some {cls:=.type "list",data:=.seq #[] c₀})(hR:∀s' acc' c',Moved (S::wr) G s s'->s'.heap.get? S=some {cls:=.type "list",dict:=none,data:=.seq acc' c',slots:=#[]}->ItemsOf P acc' n->R (.ok (.ret res)) s')(hn:n<=sizeLine):
  wpAny (model prog w) A.in1 (Builtin.List.listExtendWith (.ref S) (.ref I) res)
   (λfin s'=>match fin with | .done f=>R (.ok f) s' | .again c'=>c'.quiet=true/\codeAny (model prog w) A c' R s') (λe s'=>R (.error e) s') s:=by
 have hSI:S≠I:=λe=>hSf (e ▸ hI)
 have h1:Builtin.List.listSameRef (.ref S) (.ref I)=false:=by simp[Builtin.List.listSameRef,hSI]
 unfold Builtin.List.listExtendWith
 refine Ua (We (hT 0 _ hst) ?_)
 rw[Ud (by rw[h1];decide)]
 refine Ua (W.self 0 _ _ _ hst ?_)
 refine Ua (To ?_)
 unfold Builtin.List.listLengthHint
 refine Ua (wpAny_specialOf (hT 0 _ hst) F.nolen_lri ?_)
 show wpAny _ A.in1 (specialOf (Value.ref I) (Str.ofString "__length_hint__") >>= _) _ _ _
 refine Ua (wpAny_specialOf (hT 0 _ hst) F.hint_lri ?_)
 (generalize hid:("list_reverseiterator.__length_hint__" : String)=id0;(fail_if_success (clear hid id0));wp_delta;rw[show splitId id0=some ("list_reverseiterator", "__length_hint__") from by subst hid;decide +kernel];subst hid)
 refine Ua (wpAny_isInstance (b:=true) (hT 0 _ hst) (by rw[isSubtype_type];kernel_rfl) ?_)
 refine Ui ?_
 rw[Ud (by decide)]
 refine Ui ⟨plainId_quiet F.plain_extend_loop _,codeAny_extend_loopS W hn _ hSf _ n 0 _ _ _ rfl (Ts _) hst hS (ItemsOf.nil P) λs' acc' c' hm hS' hacc=>?_⟩
 exact hR s' acc' c' hm hS' hacc
theorem QjN{R:Result->Shared->Prop}(W:WalksS prog w A.in1 I fp wr G n P St)(hT:∀i s,St i s->s.TypeIs (.ref I) "list_reverseiterator")(S:Addr)(hst:St 0 s)(hSf:S∉fp)(hI:I∈fp)(hS:s.heap.get? S=some {cls:=.type "list",data:=.seq #[]})(hR:∀s' acc' c',Moved (S::wr) G s s'->s'.heap.get? S=some {cls:=.type "list",dict:=none,data:=.seq acc' c',slots:=#[]}->ItemsOf P acc' n->R (.ok (.ret .none)) s')(hn:n<=sizeLine):
  wpAny (model prog w) A.in1 (Builtin.«list.__init__» ⟨[.ref S,.ref I],[]⟩)
   (λfin s'=>match fin with | .done f=>R (.ok f) s' | .again c'=>c'.quiet=true/\codeAny (model prog w) A c' R s') (λe s'=>R (.error e) s') s:=by
 show wpAny _ A.in1 (do let old <-Builtin.List.listItems (.ref S);Builtin.List.listUpdate (.ref S) (λ_=>#[]);letGo old.toList.reverse;Builtin.List.listExtendWith (.ref S) (.ref I) .none) _ _ s
 refine Ua ?_
 unfold Builtin.List.listItems
 refine Ua (Te hS rfl (Ui ?_))
 show wpAny _ A.in1 (updateSeq S (λ_=>#[]) >>= λ_=>letGo (#[]:Array Value).toList.reverse >>= λ_=>Builtin.List.listExtendWith (.ref S) (.ref I) .none) _ _ s
 refine Ua (wpAny_updateSeq hS rfl ?_)
 have hS₂:=TM (Obj.mapSeq (λ_=>(#[]:Array Value))) hS rfl
 have oth:∀b o,b≠S->s.heap.get? b=some o->(s.heap.update S (Obj.mapSeq (λ_=>(#[]:Array Value)))).get? b=some o:=λb o hb e=>(UT _ _ (Ne.symm hb)).trans e
 refine Ua (Wy ?_)
 refine QgM (hn:=hn) W hT S .none _ (W.frame 0 s _ s.toks hst (Uh _) λb hb o e=>oth b o (λh=>hSf (h ▸ hb)) e) hSf hI hS₂ λs' acc' c' hm hS' hacc=>?_
 exact hR s' acc' c' (Moved.trans W.gtrans ((Moved.refl W.grefl).then_heap (Uh _) λb o hb e=>oth b o (λh=>hb (h ▸ Ur)) e) hm) hS' hacc
theorem Qdt{Q:Value->Shared->Prop}(W:WalksS prog w A.in1.in1 I fp wr G n P St)(hT:∀i s,St i s->s.TypeIs (.ref I) "list_reverseiterator")(hst:St 0 s)(hfp:∀b∈fp,b<s.heap.objs.size)(hI:I∈fp)(hQ:∀s' acc' c',Moved (s.heap.objs.size::wr) G {s with heap:=s.heap.push {cls:=.type "list",data:=.seq #[]} } s' ->
   s'.heap.get? s.heap.objs.size=some {cls:=.type "list",dict:=none,data:=.seq acc' c',slots:=#[]}->ItemsOf P acc' n->Q (.ref s.heap.objs.size) s')(hn:n<=sizeLine):
  wpAny (model prog w) A (call (.type "list") [.ref I]) Q E s:=by
 have hSf:s.heap.objs.size∉fp:=λhm=>U6 _ (hfp _ hm)
 refine callType_codes (Q₁:=λobj s₁=>obj=.ref s.heap.objs.size/\s₁ = {s with heap:=s.heap.push {cls:=.type "list",data:=.seq #[]} }) F.called_list (F.typeCall_list_1 _) F.entry_list_init
  (code_list_new _ ⟨rfl,rfl⟩) λobj s₁ h₁=>?_
 obtain⟨rfl,rfl⟩:=h₁
 have hS:(s.heap.push {cls:=.type "list",data:=.seq #[]}).get? s.heap.objs.size=some {cls:=.type "list",data:=.seq #[]}:=Uo _ rfl
 refine⟨⟨_,hS,rfl⟩,F.args_list_init_2 _ _,QjN (hn:=hn) W hT _ (W.frame 0 s _ s.toks hst (Uh _) λb _ o e=>Ub _ e) hSf hI hS λs' acc' c' hm hS' hacc=>?_⟩
 exact⟨rfl,hQ s' acc' c' hm hS' hacc⟩
theorem Qdu{l:Addr}{its:List Value}{Q:Value->Shared->Prop}(hh:A.handled=none)(hne:l≠I)(hit:s.heap.IsRevIter I l ((its.toArray.size:Int) - 1))(hl:s.heap.IsList l its.toArray)(hsz:its.toArray.size<=sizeLine)(hQ:∀(h':Heap) (tk c:Nat),(∀b o,b≠I->s.heap.get? b=some o->h'.get? b=some o)->h'.get? s.heap.objs.size=some {cls:=.type "list",data:=.seq its.reverse.toArray c}->Q (.ref s.heap.objs.size) {s with heap:=h',toks:=tk}):
  wpAny (model prog w) A (call (.type "list") [.ref I]) Q E s:=by
 refine Qdt (Walks.listRev (A:=A.in1.in1) hh I l hne its.toArray).toS (λ_ _ st=>st.2.1.typeIs) ⟨Ts _,by simpa using hit,hl⟩ (λb hb=>?_) (by simp) (λs' acc c' hm hS ha=>?_) hsz
 ·obtain⟨o,ho,_⟩:=hit
  obtain⟨o',ho',_⟩:=hl
  rcases UL.mp hb with rfl|hb
  ·exact Uk ho
  ·rw[Uu.mp hb];exact Uk ho'
 ·have e:acc=its.reverse.toArray:=by
   apply Array.ext_getElem?
   intro i
   by_cases hi:i<its.length
   ·have h1:acc[i]?=some (acc[i]'(by rw[ha.1];simpa using hi)):=Array.getElem?_eq_getElem _
    have h2:=ha.2 i _ h1
    rw[h1,<-h2]
    simp only[Uf,TN,List.getElem?_reverse hi]
   ·have hs:acc.size=its.length:=by rw[ha.1];simp
    rw[Array.getElem?_eq_none (by omega),TN,UP (by simp;omega)]
  subst e
  have e2:s' = {s with heap:=s'.heap,toks:=s'.toks}:=by
   have a1:=hm.gens
   have a2:=hm.drawn
   have a3:=hm.os
   cases s'
   cases s
   simp only at a1 a2 a3 ⊢
   subst a1 a2 a3
   rfl
  have:=hQ s'.heap s'.toks c' (λb o hb e=>hm.heap b o (by simp;exact⟨UA (Uk e),hb⟩) (Ub _ e)) hS
  rw[e2]
  exact this
end
end PySem
namespace L2
open PySem PySem.Spec PyProof.Rows
section
variable{κ:Type}[DecidableEq κ]
noncomputable def valV(kvs:List (κ×V))(k:κ):Option V:=(kvs.find? λkv=>decide (kv.1=k)).map (·.2)
noncomputable def putK(kvs:List (κ×V))(k:κ)(v:V):List (κ×V) :=
 if (kvs.any λkv=>decide (kv.1=k))=true then kvs.map (λkv=>if kv.1=k then (kv.1,v) else kv) else kvs++[(k,v)]
noncomputable def Qek(kvs:List (κ×V))(k:κ):List (κ×V):=kvs.filter λkv=>decide (kv.1≠k)
theorem QfZ{p:κ×V}{r:List (κ×V)}{k:κ}(e:p.1=k):valV (p::r) k=some p.2:=by simp[valV,UK,e]
theorem Qf0{p:κ×V}{r:List (κ×V)}{k:κ}(e:¬p.1=k):valV (p::r) k=valV r k:=by simp[valV,UK,e]
theorem Qe7(kvs:List (κ×V))(k:κ)(v:V):(putK kvs k v).length<=kvs.length+1:=by
 unfold putK
 split
 ·rw[Um];omega
 ·rw[Ux,UR,List.length_nil];omega
theorem RelO.getD{o:Option V}{u:Option Value}{d:V}{d':Value}(r:RelO o u)(rd:RelV d d'):RelV (o.getD d) (u.getD d'):=by
 cases o with
 |none=>cases u with
  |none=>exact rd
  |some _=>exact(show False from r).elim
 |some _=>cases u with
  |none=>exact(show False from r).elim
  |some _=>exact r
theorem KV.val{kvs:List (κ×V)}{vs:List (κ×Value)}(r:KV kvs vs)(k:κ):RelO (valV kvs k) (valueAt vs k):=by
 unfold KV at r
 induction r with
 |nil=>exact True.intro
 |@cons p q ps qs h t ih =>
  obtain⟨h1,h2⟩:=h
  by_cases e:p.1=k
  ·have e':q.1=k:=h1.symm.trans e
   have b:valueAt (q::qs) k=some q.2:=by simp[valueAt,UK,e']
   rw[QfZ e,b];exact h2
  ·have e':¬q.1=k:=λz=>e (h1.trans z)
   have b:valueAt (q::qs) k=valueAt qs k:=by simp[valueAt,UK,e']
   rw[Qf0 e,b];exact ih
theorem KV.any{kvs:List (κ×V)}{vs:List (κ×Value)}(r:KV kvs vs)(k:κ):(kvs.any λkv=>decide (kv.1=k))=vs.any λkv=>decide (kv.1=k):=by
 unfold KV at r
 induction r with
 |nil=>rfl
 |cons h t ih=>rw[Tp,Tp,ih,h.1]
theorem KV.repl{kvs:List (κ×V)}{vs:List (κ×Value)}(r:KV kvs vs)(k:κ){y:V}{u:Value}(ry:RelV y u):
  KV (kvs.map λkv=>if kv.1=k then (kv.1,y) else kv) (vs.map λkv=>if kv.1=k then (kv.1,u) else kv):=by
 unfold KV at r ⊢
 induction r with
 |nil=>exact .nil
 |@cons p q ps qs h t ih =>
  rw[UG,UG]
  refine .cons ?_ ih
  obtain⟨h1,h2⟩:=h
  by_cases e:p.1=k
  ·rw[Uc e,Uc (h1.symm.trans e)];exact⟨h1,ry⟩
  ·rw[Ud e,Ud (λz=>e (h1.trans z))];exact⟨h1,h2⟩
theorem KV.put{kvs:List (κ×V)}{vs:List (κ×Value)}(r:KV kvs vs)(k:κ){y:V}{u:Value}(ry:RelV y u):KV (putK kvs k y) (stored vs k u):=by
 unfold putK stored
 rw[r.any k]
 by_cases e:(vs.any λkv=>decide (kv.1=k))=true
 ·rw[Uc e,Uc e];exact r.repl k ry
 ·rw[Ud e,Ud e];exact Paired.snoc r ⟨rfl,ry⟩
theorem KV.drop{kvs:List (κ×V)}{vs:List (κ×Value)}(r:KV kvs vs)(k:κ):KV (Qek kvs k) (without vs k):=by
 unfold KV at r ⊢
 unfold Qek without
 induction r with
 |nil=>exact .nil
 |@cons p q ps qs h t ih =>
  obtain⟨h1,h2⟩:=h
  rw[Tq,Tq]
  by_cases e:p.1=k
  ·have a:¬decide (p.1≠k)=true:=by simp[e]
   have b:¬decide (q.1≠k)=true:=by simp[h1.symm.trans e]
   rw[Ud a,Ud b];exact ih
  ·have e':¬q.1=k:=λz=>e (h1.trans z)
   have a:decide (p.1≠k)=true:=by simp[e]
   have b:decide (q.1≠k)=true:=by simp[e']
   rw[Uc a,Uc b];exact .cons ⟨h1,h2⟩ ih
theorem KV.length{kvs:List (κ×V)}{vs:List (κ×Value)}(r:KV kvs vs):kvs.length=vs.length:=Paired.length r
theorem QjO(kvs:List (κ×V))(k:κ):(Qek kvs k).length<=kvs.length:=TQ _ _
end
theorem QjP{P:Program}{w:World}{k:Key}{u:Value}(r:RelV (kV k) u):(YF P w).is k u=true:=by
 cases k with
 |inl i=>obtain⟨t,e⟩:=(show ∃t,u=Value.int i t from r);subst e;exact QeR P w i t
 |inr x=>obtain⟨t,e⟩:=(show ∃t,u=Value.str x t from r);subst e;exact QeS P w x t
section
variable{P:Program}{w:World}{H:Hp}{h:Heap}{a:Addr}
theorem Qoz{u:HO}(ok:HOk P w H h)(e:Rd H a u):ObjOk P w H h a u:=e.ok ok
theorem Qnu{kvs:List (Key×V)}(ok:HOk P w H h)(e:Rd H a (.dK kvs)):kvs.length<=sizeLine/\(a == sysModules)=false/\∃vs,KV kvs vs/\h.DictOf (YF P w) a vs :=
 show ObjOk P w H h a (.dK kvs) from Qoz ok e
theorem Qik{kvs:List (Key×V)}(ok:HOk P w H h)(e:H a=some (.dK kvs)):kvs.length<=sizeLine/\(a == sysModules)=false/\∃vs,KV kvs vs/\h.DictOf (YF P w) a vs:=Qnu ok (.inl e)
end
section
variable{X:Cx}{pins:List (Addr×Obj)}{σ:St}{H:Hp}{s:Shared}{a:Addr}{y v:V}{u r:Value}{o:Option V}{A:Around}{E:Value->Shared->Prop}
theorem Inv.big(I:Inv X pins σ H s):sysModules<s.heap.objs.size:=by
 have h:mainGlobals<s.heap.objs.size:=(I.mod.glob.keeps I.bk).lt
 exact Nat.lt_trans (by decide) h
theorem Qil{h':Heap}{t':Nat}{ob:HO}(I:Inv X pins σ H s)(mu:Mut (H a))(hs:Heap.SameBut a s.heap h')(he:∃q,h'.get? a=some q)(new:ObjOk X.prog X.w (upd H a ob) h' a ob):
  Inv X pins σ (upd H a ob) {s with heap:=h',toks:=t'} :=
 I.write (x:=a) (e:=a) mu (.inl rfl) (λb q hb z=>(hs.2 b hb).trans z) he new
theorem Qim{P:Program}{w:World}{H':Hp}{h':Heap}{kvs:List (Key×V)}{vs:List (Key×Value)}(z:kvs.length<=sizeLine)(hd:(a == sysModules)=false)(rel:KV kvs vs)(dd:h'.DictOf (YF P w) a vs):
  ObjOk P w H' h' a (.dK kvs):=⟨z,hd,vs,rel,dd⟩
end
section
variable{X:Cx}{pins:List (Addr×Obj)}{σ:St}{H:Hp}{s:Shared}{a:Addr}{kvs:List (Key×V)}{k:Key}{u:Value}{A:Around}{E:Value->Shared->Prop}
theorem QoA{v:V}{more:List Value}{Q:Value->Shared->Prop}(I:Inv X pins σ H s)(e:H a=some (.dK kvs))(ry:RelV (kV k) u)(l:valV kvs k=some v)(hm:more=[]\/∃x,more=[x])(h:∀w' s',Inv X pins σ (upd H a (.dK (Qek kvs k))) s'->RelV v w'->Q w' s'):wpAny (model X.prog X.w) A (call (.builtin "dict.pop") (.ref a::u::more)) Q E s:=by
 obtain⟨z,hd,vs,rel,dd⟩:=Qik I.hok e
 obtain⟨w',hw,rw'⟩:=RelO.some_of (v:=v) (o:=valueAt vs k) (by rw[<-l];exact rel.val k)
 have hp:(keyPart u).isSome=true:=by
  cases k with
  |inl i=>obtain⟨t,q⟩:=(show ∃t,u=Value.int i t from ry);subst q;rfl
  |inr x=>obtain⟨t,q⟩:=(show ∃t,u=Value.str x t from ry);subst q;rfl
 have ha:argsOk "dict.pop" ⟨.ref a::u::more,[]⟩:=by
  rcases hm with q|⟨x,q⟩
  ·subst q;exact PySem.F.args_dict_pop_2 _ _
  ·subst q;exact PySem.F.args_dict_pop_3 _ _ _
 refine call_meetsIn Wp dd.typeIs PySem.F.entry_dict_pop ha (meets_dict_pop_there (YF X.prog X.w) a (QjP ry) more hm hp)
  ⟨vs,w',dd,by rw[<-rel.length];exact z,hw,λh' dd' hs=>h w' _ ?_ rw'⟩
 have he:∃q,h'.get? a=some q:=let ⟨q,_,_,hq,_⟩:=dd';⟨q,hq⟩
 exact Qil I (by rw[e];exact True.intro) hs he (Qim (Uv (QjO kvs k) z) hd (rel.drop k) dd')
end
section
variable{X:Cx}{o i e value:Expr}{pos pos' tpos:Pos}{td ty tv:TE}
end
theorem QjQ{P:Program}{w:World}{H:Hp}(h:Heap)(hb:sysModules<h.objs.size):ObjOk P w H (h.push {cls:=.type "dict",data:=.dict #[]}) h.objs.size (.dK []) :=
 ⟨Ts _,U0.mpr (Ne.symm (UA hb)),[],.nil,Heap.DictOf.new h⟩
noncomputable def Qnv:TE:=λ_ H Q=>∀p,H p=none->Q (.ref p) (upd H p (.dK []))
section
variable{X:Cx}{pos:Pos}
theorem QjR:PE X (.Dict [] [] pos) Qnv:=λpins s σ H Q I h =>
 wpAny_Dict_empty ⟨.ref s.heap.objs.size,_,I.laid (a:=s.heap.objs.size) (o:=.dK []) (t':=s.toks) (λ_ _ q=>Ub _ q) (Uh _) (QjQ s.heap I.big),rfl,h _ (I.hok.fresh (Uh _))⟩
end
section
variable{X:Cx}{pins:List (Addr×Obj)}{σ:St}{H:Hp}{s:Shared}{a:Addr}{y d:V}{u r:Value}{o:Option V}{A:Around}{E:Value->Shared->Prop}
end
section
variable{X:Cx}{o e f:Expr}{apos cpos:Pos}{td ty tx:TE}
end
section
variable{X:Cx}{pins:List (Addr×Obj)}{σ:St}{H:Hp}{s:Shared}{a:Addr}{kvs:List (Key×V)}{A:Around}{E:Value->Shared->Prop}
theorem QjS{Q:Value->Shared->Prop}(I:Inv X pins σ H s)(e:Rd H a (.dK kvs))(h:∀p s',H p=none->Inv X pins σ (upd H p (.dK kvs)) s'->Q (.ref p) s'):wpAny (model X.prog X.w) A (call (.type "dict") [.ref a]) Q E s:=by
 obtain⟨z,hd,vs,rel,dd⟩:=Qnu I.hok e
 refine kt_call_dict hd dd (by rw[<-rel.length];exact z) λh' dd' hs=>?_
 refine h _ _ (I.hok.fresh (Uh _)) (I.laid (a:=s.heap.objs.size) (o:=.dK kvs) (t':=s.toks) (λb q hq=>?_) (Uh _) (Qim z (U0.mpr (Ne.symm (UA I.big))) rel dd'))
 exact(hs.2 b (UA (Uk hq))).trans (Ub _ hq)
end
section
variable{X:Cx}{pins:List (Addr×Obj)}{σ:St}{H:Hp}{s:Shared}{a:Addr}{y:V}{u:Value}{A:Around}{E:Value->Shared->Prop}
end
end L2
namespace L3
open PySem
noncomputable abbrev DK:=Sum Int Str
noncomputable def dGet(ks:List (DK×D))(k:DK):Option D:=(ks.find? λp=>decide (p.1=k)).map (·.2)
noncomputable def dPut(ks:List (DK×D))(k:DK)(v:D):List (DK×D):=if (ks.any λp=>decide (p.1=k))=true then ks.map λp=>if p.1=k then (p.1,v) else p else ks++[(k,v)]
noncomputable def Qbx(ks:List (DK×D))(k:DK):List (DK×D):=ks.filter λp=>decide (p.1≠k)
noncomputable def QlM:ME:=λ_ g=>.ok (.ref g.length) (g++[.dct []])
noncomputable def Qin(x:D)(g:G):Res D:=match x with
 |.ref n=>(match g[n]? with
  |some (.dct ks)=>.ok (.ref g.length) (g++[.dct ks])
  |_=>.stuck)
 |_=>.stuck
noncomputable def Qel(o k x:ME):ME:=λσ g=>(o σ g).bind λa g1=>match a with
 |.ref n=>(match g1[n]? with
  |some (.dct _)=>(k σ g1).bind λy g2=>(x σ g2).bind λz g3=>(match y with
   |.int i=>(match g3[n]? with
    |some (.dct ks)=>.ok ((dGet ks (.inl i)).getD z) g3
    |_=>.stuck)
   |_=>.stuck)
  |_=>.stuck)
 |_=>.stuck
noncomputable def QgN(o k:ME):ME:=λσ g=>(o σ g).bind λa g1=>match a with
 |.ref n=>(match g1[n]? with
  |some (.dct _)=>(k σ g1).bind λy g2=>(match y with
   |.int i=>(match g2[n]? with
    |some (.dct ks)=>(match dGet ks (.inl i) with
     |some v=>.ok v (g2.set n (.dct (Qbx ks (.inl i))))
     |none=>.stuck)
    |_=>.stuck)
   |_=>.stuck)
  |_=>.stuck)
 |_=>.stuck
noncomputable def QcQ(o k v:ME):MS:=λσ g=>match v σ g with
 |.ok y g1=>(match o σ g1 with
  |.ok (.ref n) g2=>(match k σ g2 with
   |.ok (.int i) g3=>(match g3[n]? with
    |some (.dct ks)=>if ks.length<SZ then .nx σ (g3.set n (.dct (dPut ks (.inl i) y))) else .stuck
    |_=>.stuck)
   |.raise e g'=>.raise e σ g'
   |_=>.stuck)
  |.raise e g'=>.raise e σ g'
  |_=>.stuck)
 |.raise e g'=>.raise e σ g'
 |.stuck=>.stuck
end L3
namespace L3
open PySem PySem.Spec PyProof.Rows L2
section
variable{K:Frag}{μ:List Addr}{H:Hp}
theorem KRel.get{kv:List (Key×V)}{ks:List (Key×D)}(r:KRel K μ H kv ks)(k:Key):(valV kv k=none/\dGet ks k=none)\/∃v d,valV kv k=some v/\dGet ks k=some d/\Den K μ H v d:=by
 unfold KRel at r
 induction r with
 |nil=>exact .inl ⟨rfl,rfl⟩
 |@cons p q ps qs h t ih =>
  obtain⟨h1,h2⟩:=h
  by_cases e:p.1=k
  ·refine .inr ⟨p.2,q.2,QfZ e,?_,h2⟩
   unfold dGet;rw[UK,Uz (h1.symm.trans e)];rfl
  ·have e':dGet (q::qs) k=dGet qs k:=by
    unfold dGet;rw[UK,Ul (λz=>e (h1.trans z))]
   rw[Qf0 e,e'];exact ih
theorem KRel.put{kv:List (Key×V)}{ks:List (Key×D)}{v:V}{d:D}(r:KRel K μ H kv ks)(k:Key)(h:Den K μ H v d):KRel K μ H (putK kv k v) (dPut ks k d):=by
 have ha:(kv.any λp=>decide (p.1=k))=ks.any λp=>decide (p.1=k):=by
  unfold KRel at r
  induction r with
  |nil=>rfl
  |cons h t ih=>rw[Tp,Tp,ih,h.1]
 unfold putK dPut
 rw[ha]
 by_cases e:(ks.any λp=>decide (p.1=k))=true
 ·rw[Uc e,Uc e]
  clear ha e
  unfold KRel at r ⊢
  induction r with
  |nil=>exact .nil
  |@cons p q ps qs hp t ih =>
   rw[UG,UG]
   refine .cons ?_ ih
   obtain⟨h1,h2⟩:=hp
   by_cases e:p.1=k
   ·rw[Uc e,Uc (h1.symm.trans e)];exact⟨h1,h⟩
   ·rw[Ud e,Ud (λz=>e (h1.trans z))];exact⟨h1,h2⟩
 ·rw[Ud e,Ud e];exact Paired.snoc r ⟨rfl,h⟩
theorem KRel.drop{kv:List (Key×V)}{ks:List (Key×D)}(r:KRel K μ H kv ks)(k:Key):KRel K μ H (Qek kv k) (Qbx ks k):=by
 unfold KRel at r ⊢
 unfold Qek Qbx
 induction r with
 |nil=>exact .nil
 |@cons p q ps qs h t ih =>
  obtain⟨h1,h2⟩:=h
  rw[Tq,Tq,<-h1]
  by_cases e:decide (p.1≠k)=true
  ·rw[Uc e,Uc e];exact .cons ⟨h1,h2⟩ ih
  ·rw[Ud e,Ud e];exact ih
end
section
variable{X:Cx}
theorem QjT:MtR X "dict.get" (λx vs H Q=>∃a kvs k d,x=.ref a/\vs=[kV k,d]/\H a=some (.dK kvs)/\Q ((valV kvs k).getD d) H):=by
 intro pins s σ H x vs v us Q I rx rv h
 obtain⟨a,kvs,k,d,rfl,rfl,e,q⟩:=h
 cases rx
 cases rv with
 |cons ry r2=>cases r2 with
  |cons rd r3 =>
   cases r3
   obtain⟨z,hd,vs,rel,dd⟩:=Qik I.hok e
   exact call_meetsIn Wq dd.typeIs PySem.F.entry_dict_get (PySem.F.args_dict_get_3 _ _ _) (meets_dict_get_default (YF X.prog X.w) a (QjP ry) hd _) ⟨_,dd.mapOf,_,H,I.tok _,(rel.val k).getD rd,q⟩
theorem QlN:MtR X "dict.pop" (λx vs H Q=>∃a kvs k v,x=.ref a/\vs=[kV k]/\H a=some (.dK kvs)/\valV kvs k=some v/\Q v (upd H a (.dK (Qek kvs k)))):=by
 intro pins s σ H x vs v us Q I rx rv h
 obtain⟨a,kvs,k,w,rfl,rfl,e,l,q⟩:=h
 cases rx
 obtain⟨u,rfl,ru⟩:=rv.one
 exact QoA I e ru l (.inl rfl) λw' s' I' rw'=>⟨_,_,I',rw',q⟩
theorem QjU:PSet X (λo i v H Q=>∃a kvs k,o=.ref a/\i=kV k/\H a=some (.dK kvs)/\kvs.length<sizeLine/\Q (upd H a (.dK (putK kvs k v)))):=by
 intro pins s σ H o i v ov iv u Q I ro ri rv h
 obtain⟨a,kvs,k,rfl,rfl,e,l,q⟩:=h
 cases ro
 obtain⟨z,hd,vs,rel,dd⟩:=Qik I.hok e
 have hz:vs.length<=sizeLine:=by rw[<-rel.length];exact z
 have hl:(putK kvs k v).length<=sizeLine:=by have:=Qe7 kvs k v;omega
 refine wpAny_setItem_pairs (hsz:=hz) (QjP ri) dd λh' dd' hs=>?_
 have he:∃q,h'.get? a=some q:=let ⟨q,_,_,hq,_⟩:=dd';⟨q,hq⟩
 exact⟨_,Qil I (by rw[e];exact True.intro) hs he (Qim hl hd (rel.put k rv) dd'),q⟩
theorem QgO:CallR X (.type "dict") (λxs H Q=>∃a kvs,xs=[.ref a]/\H a=some (.dK kvs)/\∀p,H p=none->Q (.ref p) (upd H p (.dK kvs))):=by
 intro pins s σ H xs us Q I rv h
 obtain⟨a,kvs,rfl,e,q⟩:=h
 obtain⟨u,rfl,ru⟩:=rv.one
 cases ru
 exact QjS I (.inl e) λp s' hp I'=>⟨.ref p,_,I',rfl,q p hp⟩
end
section
variable{X:Cx}{ca:Nat->Addr}{o e f:Expr}{mo me mf:ME}{p pos apos:Pos}
theorem Qnw:PE3 ca X (.Dict [] [] pos) QlM :=
 λpn Φ=>Za (QjR (X:=xat X ca pn Φ)) λσ H Q ⟨σ3,g,μ,R,q⟩=>λt ht=>q _ _ (μ++[t]) (Qp ht) (R.g.push ht ⟨[],Qn,.nil⟩) (.ref (by rw[<-R.g.len];simp))
theorem Qnx(hm:X.mg "dict" = none)(he:PE3 ca X e me)(hg:Gl X "dict":=by rfl)(hs:starEach [e] X.env=[(false,eval e X.env)]:=by rfl)(hpl:(backTo pos (starEach [] X.env)).any (·.1)=false:=by rfl):
  PE3 ca X (.Call (.Name "dict" p) [e] [] pos) (mOp1 Qin me) :=
 r_ty (λ_ _=>QgO) hm boot_dict (λΦ σ H μ g y d Q r q pp=>by
  unfold Qin at pp
  cases q with
  |@ref n t hn =>
   dsimp only at pp
   cases hgn:g[n]? with
   |none=>rw[hgn]at pp;exact pp.elim
   |some ob =>
    rw[hgn]at pp
    obtain⟨t',ht',orp⟩:=r.addr hgn
    rw[hn]at ht';cases ht'
    cases ob with
    |dct ks=>obtain⟨kv,hH,q⟩:=orp;exact⟨t,kv,rfl,hH,λl hl=>pp _ _ (μ++[l]) (Qp hl) (r.push hl ⟨kv,Qn,q.mono (Qp hl)⟩) (.ref (by rw[<-r.len];simp))⟩
    |_=>exact pp.elim
  |_=>exact pp.elim) he hg (by decide) (by decide) hs hpl
theorem Qio(ho:PE3 ca X o mo)(he:PE3 ca X e me)(hf:PE3 ca X f mf)(hbase:attributeBase o "get" X.env (eval o X.env)=eval o X.env:=by rfl)(hfew:((backTo pos (starEach [e,f] X.env)).all (λx=>!x.1) && (backToKw pos (keywordEach [] X.env)).all (λx=>x.1.isSome) && decide ([e,f].length+([]:List Keyword).length+(if ([]:List Keyword).isEmpty then 0 else 1)<30))=true:=by rfl)(hline:(apos.endLine == pos.line)=true:=by rfl)(hs:starEach [e,f] X.env=(false,eval e X.env)::starEach [f] X.env:=by rfl)(hs2:starEach [f] X.env=(false,eval f X.env)::starEach [] X.env:=by rfl)(hplain:(backTo pos (starEach [f] X.env)).any (·.1)=false:=by rfl):
  PE3 ca X (.Call (.Attribute o "get" apos) [e,f] [] pos) (Qel mo me mf) :=
 λpn Φ=>Za (Qlq (X:=xat X ca pn Φ) RV Wq PySem.F.type_dict_get QjT (ho pn Φ) (Jp he (Jp hf Qj hs2) hs pn Φ) hbase hfew hline hs hplain) λσ H Q ⟨σ3,g,μ,R,q⟩=>Q5 (Jo R q) λx H1 hQ=>by
  obtain⟨d,g1,μ1,e1,R1,q1,p1⟩:=hQ
  cases q1 with
  |@ref n t hn =>
   dsimp only at p1
   cases hgn:g1[n]? with
   |none=>rw[hgn]at p1;exact p1.elim
   |some ob =>
    rw[hgn]at p1
    obtain⟨t',ht',orp⟩:=R1.g.addr hgn
    rw[hn]at ht';cases ht'
    cases ob with
    |dct ks0 =>
     obtain⟨kv0,hH0,_⟩:=orp
     dsimp only at p1
     refine⟨.inr (.inr (.inl ⟨rfl,.inl ⟨_,hH0⟩⟩)),σ3,g1,μ1,R1,?_⟩
     unfold Qb mNil
     cases hm:me σ3 g1 with
     |raise _ _=>rw[hm]at p1;exact p1
     |stuck=>rw[hm]at p1;exact p1.elim
     |ok y g2 =>
      rw[hm,Res.bind_ok]at p1
      rw[Res.bind_ok]
      cases hm2:mf σ3 g2 with
      |raise _ _=>rw[hm2]at p1;exact p1
      |stuck=>rw[hm2]at p1;exact p1.elim
      |ok z g3 =>
       rw[hm2,Res.bind_ok]at p1
       rw[Res.bind_ok,Res.bind_ok,Res.bind_ok]
       intro vs H2 μ2 e2 r2 q2
       cases q2 with
       |cons h1 h2=>cases h2 with
        |cons h2 h3 =>
         cases h3
         cases h1 with
         |int i =>
          dsimp only at p1
          cases hg2:g3[n]? with
          |none=>rw[hg2]at p1;exact p1.elim
          |some ob2 =>
           rw[hg2]at p1
           obtain⟨t',ht',orp⟩:=r2.addr hg2
           rw[e2.at hn]at ht';cases ht'
           cases ob2 with
           |dct ks =>
            obtain⟨kv,hH,qs⟩:=orp
            dsimp only at p1
            refine⟨t,kv,.inl i,_,rfl,rfl,hH,p1 _ _ μ2 e2 r2 ?_⟩
            rcases qs.get (.inl i) with⟨a,b⟩|⟨v,d,a,b,c⟩
            ·rw[a,b];exact h2
            ·rw[a,b];exact c
           |_=>exact p1.elim
         |_=>exact p1.elim
    |_=>exact p1.elim
  |_=>exact p1.elim
theorem Qny(ho:PE3 ca X o mo)(he:PE3 ca X e me)(hbase:attributeBase o "pop" X.env (eval o X.env)=eval o X.env:=by rfl)(hfew:((backTo pos (starEach [e] X.env)).all (λx=>!x.1) && (backToKw pos (keywordEach [] X.env)).all (λx=>x.1.isSome) && decide ([e].length+([]:List Keyword).length+(if ([]:List Keyword).isEmpty then 0 else 1)<30))=true:=by rfl)(hline:(apos.endLine == pos.line)=true:=by rfl)(hs:starEach [e] X.env=(false,eval e X.env)::starEach [] X.env:=by rfl)(hplain:(backTo pos (starEach [] X.env)).any (·.1)=false:=by rfl):
  PE3 ca X (.Call (.Attribute o "pop" apos) [e] [] pos) (QgN mo me) :=
 λpn Φ=>Za (Qlq (X:=xat X ca pn Φ) RV Wp PySem.F.type_dict_pop QlN (ho pn Φ) (Jp he Qj hs pn Φ) hbase hfew hline hs hplain) λσ H Q ⟨σ3,g,μ,R,q⟩=>Q5 (Jo R q) λx H1 hQ=>by
  obtain⟨d,g1,μ1,e1,R1,q1,p1⟩:=hQ
  cases q1 with
  |@ref n t hn =>
   dsimp only at p1
   cases hgn:g1[n]? with
   |none=>rw[hgn]at p1;exact p1.elim
   |some ob =>
    rw[hgn]at p1
    obtain⟨t',ht',orp⟩:=R1.g.addr hgn
    rw[hn]at ht';cases ht'
    cases ob with
    |dct ks0 =>
     obtain⟨kv0,hH0,_⟩:=orp
     dsimp only at p1
     refine⟨.inr (.inr (.inl ⟨rfl,.inl ⟨_,hH0⟩⟩)),σ3,g1,μ1,R1,?_⟩
     unfold Qb mNil
     cases hm:me σ3 g1 with
     |raise _ _=>rw[hm]at p1;exact p1
     |stuck=>rw[hm]at p1;exact p1.elim
     |ok y g2 =>
      rw[hm,Res.bind_ok]at p1
      rw[Res.bind_ok,Res.bind_ok]
      intro vs H2 μ2 e2 r2 q2
      cases q2 with
      |cons h1 h2 =>
       cases h2
       cases h1 with
       |int i =>
        dsimp only at p1
        cases hg2:g2[n]? with
        |none=>rw[hg2]at p1;exact p1.elim
        |some ob2 =>
         rw[hg2]at p1
         obtain⟨t',ht',orp⟩:=r2.addr hg2
         rw[e2.at hn]at ht';cases ht'
         cases ob2 with
         |dct ks =>
          obtain⟨kv,hH,qs⟩:=orp
          dsimp only at p1
          rcases qs.get (.inl i) with⟨a,b⟩|⟨v,d,a,b,c⟩
          ·rw[b]at p1;exact p1.elim
          ·rw[b]at p1
           have ex:Ext X.K μ2 H2 μ2 (upd H2 t (.dK (Qek kv (.inl i)))):=J4 hH (by intro _ z;cases z) (by intro _ _ z;cases z)
           refine⟨t,kv,.inl i,v,rfl,rfl,hH,a,p1 _ _ μ2 (e2.trans ex) ?_ (c.mono ex)⟩
           exact r2.set (e2.at hn) hH (by intro _ z;cases z) (by intro _ _ z;cases z) ⟨_,Qn,(qs.mono ex).drop _⟩
         |_=>exact p1.elim
       |_=>exact p1.elim
    |_=>exact p1.elim
  |_=>exact p1.elim
theorem QkV{i:Expr}{mi:ME}{pos':Pos}(ho:PE3 ca X o mo)(hi:PE3 ca X i mi)(he:PE3 ca X e me)(hs:swapsWithSole [.Subscript o i pos'] e pos.line X.env=pure false:=by rfl)(hw:swappedStores [.Subscript o i pos'] e X.env=pure none:=by rfl)(h1:(assignEach [.Subscript o i pos'] X.env).map (·.2)=[assign (.Subscript o i pos') X.env]:=by rfl)(ha:∀v,assign (.Subscript o i pos') X.env v=(do
   let ov <-holding [v] (eval o X.env)
   let iv <-holding [v,ov] (eval i X.env)
   standAt pos'
   holding [v,ov,iv] (setItem ov iv v)
   release [v,ov,iv] []):=by intro _;rfl):PS3 ca X (.Assign [.Subscript o i pos'] e pos) (QcQ mo mi me) :=
 λpn Φ=>Ys (Qhn (X:=xat X ca pn Φ) (he pn Φ) (QkC (X:=xat X ca pn Φ) (ho pn Φ) (hi pn Φ) QjU ha) hs hw h1) λE σ H ⟨σ3,g,μ,R,p⟩=>⟨σ3,g,μ,R,by
  unfold QcQ at p
  cases hm:me σ3 g with
  |ok y g1 =>
   rw[hm]at p
   dsimp only at p
   intro vy H1 μ1 e1 r1 q1
   refine⟨σ3,g1,μ1,R.go e1 r1,?_⟩
   cases hm2:mo σ3 g1 with
   |ok d g2 =>
    rw[hm2]at p
    intro vx H2 μ2 e2 r2 q2
    cases q2 with
    |@ref n a hn =>
     dsimp only at p
     refine⟨σ3,g2,μ2,R.go (e1.trans e2) r2,?_⟩
     cases hm3:mi σ3 g2 with
     |ok di g3 =>
      rw[hm3]at p
      intro vi H3 μ3 e3 r3 q3
      cases q3 with
      |int k =>
       dsimp only at p
       cases hg:g3[n]? with
       |none=>rw[hg]at p;exact p.elim
       |some ob =>
        rw[hg]at p
        obtain⟨a',ha',orp⟩:=r3.addr hg
        rw[e3.at hn]at ha';cases ha'
        cases ob with
        |dct ks =>
         dsimp only at p
         obtain⟨kv,hH,q⟩:=orp
         by_cases z:ks.length<SZ
         ·rw[Uc z]at p
          have ex:Ext X.K μ3 H3 μ3 (upd H3 a (.dK (putK kv (.inl k) vy))):=J4 hH (by intro _ z;cases z) (by intro _ _ z;cases z)
          refine⟨a,kv,.inl k,rfl,rfl,hH,by rw[Paired.length q];exact Ut z JE,?_⟩
          refine p σ _ μ3 (((e1.trans e2).trans e3).trans ex) ((R.go ((e1.trans e2).trans e3) r3).go ex ?_)
          exact r3.set (e3.at hn) hH (by intro _ z;cases z) (by intro _ _ z;cases z) ⟨_,Qn,(q.mono ex).put _ (((q1.mono e2).mono e3).mono ex)⟩
         ·rw[Ud z]at p;exact p.elim
        |_=>exact p.elim
      |_=>exact p.elim
     |raise _ _=>rw[hm3]at p;exact(RaP.stmt R p).go (e1.trans e2)
     |stuck=>rw[hm3]at p;exact p
    |_=>exact p.elim
   |raise _ _=>rw[hm2]at p;exact(RaP.stmt R p).go e1
   |stuck=>rw[hm2]at p;exact p
  |raise _ _=>rw[hm]at p;exact RaP.stmt R p
  |stuck=>rw[hm]at p;exact p⟩
end
end L3
namespace L3
open PySem
noncomputable def QjV(x y:D)(g:G):Res D:=match x,y with
 |.int i,.int j=>.ok (.int (if j<i then j else i)) g
 |_,_=>.stuck
noncomputable def QgP(x y:D)(g:G):Res D:=match x,y with
 |.int i,.int j=>.ok (.int (if i<j then j else i)) g
 |_,_=>.stuck
noncomputable def YA:List (DK×D)->Option (List Int)
 |[]=>some []
 | (.inl i,_)::r=>(YA r).map (i :: ·)
 |_::_=>none
noncomputable def Qe8(x:D)(g:G):Res D:=match x with
 |.ref n=>(match g[n]? with
  |some (.dct ks)=>(match YA ks with
   |some is=>if is.length<=100000 then .ok (.ref g.length) (g++[.lst (is.map .int)]) else .stuck
   |none=>.stuck)
  |_=>.stuck)
 |_=>.stuck
noncomputable def pDIx(x y:D)(g:G):Res D:=match x,y with
 |.ref n,.int i=>(match g[n]? with
  |some (.dct ks)=>(match dGet ks (.inl i) with
   |some v=>.ok v g
   |none=>.stuck)
  |_=>.stuck)
 |_,_=>.stuck
end L3
namespace L3
open PySem PySem.Spec PyProof.Rows L2
section
variable{X:Cx}
theorem QlO{i:Int}{v:Value}(h:QeQ (.inl i) v=true):∃t,v=.int i t:=by
 rcases Q4 h with⟨j,t,e1,e2⟩|⟨x,t,e1,e2⟩
 ·cases e1;exact⟨t,e2⟩
 ·cases e1
theorem QlP{kvs:List (Key×V)}{vs:List (Key×Value)}(rel:KV kvs vs):kvs.map (·.1)=vs.map (·.1):=by
 unfold KV at rel
 induction rel with
 |nil=>rfl
 |cons h t ih=>rw[UG,UG,ih,h.1]
theorem Qip(hc:X.calm=true):CallR X (.type "list") (λxs H Q=>∃(a:Addr)(kvs:List (Key×V))(is:List Int),xs=[.ref a]/\H a=some (.dK kvs)/\kvs.map (·.1)=is.map Sum.inl/\∀l,H l=none->Q (.ref l) (upd H l (.lst (is.map V.int)))):=by
 intro pins s σ H xs us Q I rv h
 obtain⟨a,kvs,is,rfl,e,hk,q⟩:=h
 obtain⟨u,rfl,ru⟩:=rv.one
 cases ru
 obtain⟨z,hd,vs,rel,dd⟩:=Qik I.hok e
 obtain⟨ep,hat⟩:=dd.dictAt
 have hl:vs.length=is.length:=by rw[<-rel.length,<-Um (f:=λp:Key×V=>p.1),hk,Um]
 have hkv:kvs.length=is.length:=by rw[rel.length,hl]
 refine kdl_call (kdl_dict (knd:=YF X.prog X.w) (kvs:=vs) (ep:=ep) hd) (I.ok.hd hc) hat (by rw[<-rel.length];exact z) λh' tk acc' c' kp hD hacc=>?_
 refine⟨.ref s.heap.objs.size,_,I.laid (a:=s.heap.objs.size) (o:=.lst (is.map V.int)) (t':=tk) kp (Uh _) (show ObjOk X.prog X.w _ _ _ (.lst (is.map V.int)) from ⟨by rw[Um,<-hkv];exact z,acc'.toList,c',?_,hD⟩),rfl,q _ (I.hok.fresh (Uh _))⟩
 have key:∀(ws:List Value)(js:List Int),ws.length=js.length->(∀(j:Nat)(v:Value)(i:Int),ws[j]?=some v->js[j]?=some i->∃t,v=Value.int i t)->Vals (js.map V.int) ws:=by
  intro ws
  induction ws with
  |nil=>intro js h1 _;cases js with
   |nil=>exact .nil
   |cons _ _=>cases h1
  |cons w ws ih =>
   intro js h1 h2
   cases js with
   |nil=>cases h1
   |cons i js=>exact .cons (h2 0 w i rfl rfl) (ih js (by simpa using h1) λj v k a b=>h2 (j+1) v k a b)
 refine key _ _ (by rw[TX,hacc.1,hl]) λj v i hv hi=>?_
 obtain⟨k,x,hx,hkk⟩:=hacc.2 j v (by rw[<-Wk];exact hv)
 have h1:(vs.map (·.1))[j]?=some k:=by rw[Up,hx];rfl
 have hkeys:=QlP rel
 rw[<-hkeys,hk,Up,hi]at h1
 cases h1
 exact QlO hkk
theorem QjW:IxR X (λx y H Q=>∃a kvs k v,x=.ref a/\y=kV k/\H a=some (.dK kvs)/\valV kvs k=some v/\Q v H):=by
 intro value slice pins s σ H x y v u Q I rx ry h hs
 obtain⟨a,kvs,k,w,rfl,rfl,e,l,q⟩:=h
 cases rx
 obtain⟨z,hd,vs,rel,dd⟩:=Qik I.hok e
 obtain⟨w',hw,rw'⟩:=RelO.some_of (v:=w) (o:=valueAt vs k) (by rw[<-l];exact rel.val k)
 exact tail_any dd.typeIs PySem.F.slot_dict_getitem.lookup (wpAny_getItem_of (QjP ry) dd.mapOf hw ⟨_,H,I.tok _,rw',q⟩) hs
end
section
variable{X:Cx}{ca:Nat->Addr}{a b e f o:Expr}{ma mb me mf mo:ME}{p pos apos:Pos}
theorem QjX{K:Frag}:JD K ca (λx y H Q=>∃a kvs k v,x=.ref a/\y=kV k/\H a=some (.dK kvs)/\valV kvs k=some v/\Q v H) pDIx:=by
 intro Φ σ H μ g x y dx dy Q r qx qy p
 unfold pDIx at p
 cases qx with
 |@ref n t hn =>
  cases qy with
  |int i =>
   dsimp only at p
   cases hg:g[n]? with
   |none=>rw[hg]at p;exact p.elim
   |some ob =>
    rw[hg]at p
    obtain⟨t',ht',orp⟩:=r.addr hg
    rw[hn]at ht';cases ht'
    cases ob with
    |dct ks =>
     obtain⟨kv,hH,q⟩:=orp
     dsimp only at p
     rcases q.get (.inl i) with⟨a,b⟩|⟨v,d,a,b,c⟩
     ·rw[b]at p;exact p.elim
     ·rw[b]at p
      exact⟨t,kv,.inl i,v,rfl,rfl,hH,a,p v H μ .refl r c⟩
    |_=>exact p.elim
  |_=>exact p.elim
 |_=>cases qy <;> exact p.elim
theorem QoB(ha:PE3 ca X a ma)(hb:PE3 ca X b mb)(hs:Qdf b:=by exact λ_ _=>rfl):PE3 ca X (.Subscript a b pos) (mOp2 pDIx ma mb):=r_ix (λ_ _=>QjW) QjX ha hb hs
theorem KRel.keys{K:Frag}{μ:List Addr}{H:Hp}{kv:List (Key×V)}{ks:List (Key×D)}(r:KRel K μ H kv ks):kv.map (·.1)=ks.map (·.1):=by
 unfold KRel at r
 induction r with
 |nil=>rfl
 |cons h t ih=>rw[UG,UG,ih,h.1]
theorem Qem:∀{ks:List (Key×D)}{is:List Int},YA ks=some is->ks.map (·.1)=is.map Sum.inl
 |[],_,h=>by cases h;rfl
 | (.inl i,_)::r,is,h=>by
  have h:(YA r).map (i :: ·)=some is:=h
  obtain⟨js,h1,h2⟩:=TK.mp h
  subst h2
  rw[UG,UG,Qem h1]
theorem Qnz(hc:X.calm=true)(hm:X.mg "list" = none)(he:PE3 ca X e me)(hg:Gl X "list":=by rfl)(hs:starEach [e] X.env=[(false,eval e X.env)]:=by rfl)(hpl:(backTo pos (starEach [] X.env)).any (·.1)=false:=by rfl):
  PE3 ca X (.Call (.Name "list" p) [e] [] pos) (mOp1 Qe8 me) :=
 r_ty (λpn Φ=>Qip (X:=xat X ca pn Φ) hc) hm boot_list (λΦ σ H μ g y d Q r q pp=>by
  unfold Qe8 at pp
  cases q with
  |@ref n t hn =>
   dsimp only at pp
   cases hgn:g[n]? with
   |none=>rw[hgn]at pp;exact pp.elim
   |some ob =>
    rw[hgn]at pp
    obtain⟨t',ht',orp⟩:=r.addr hgn
    rw[hn]at ht';cases ht'
    cases ob with
    |dct ks =>
     obtain⟨kv,hH,q⟩:=orp
     dsimp only at pp
     cases hk:YA ks with
     |none=>rw[hk]at pp;exact pp.elim
     |some is =>
      rw[hk]at pp
      dsimp only at pp
      by_cases z:is.length<=100000
      ·rw[Uc z]at pp
       have e1:kv.map (·.1)=ks.map (·.1):=q.keys
       exact⟨t,kv,is,rfl,hH,by rw[e1];exact Qem hk,λl hl=>pp _ _ (μ++[l]) (Qp hl) (r.push hl ⟨_,Qn,Qe6 _⟩) (.ref (by rw[<-r.len];simp))⟩
      ·rw[Ud z]at pp;exact pp.elim
    |_=>exact pp.elim
  |_=>exact pp.elim) he hg (by decide) (by decide) hs hpl
theorem QkW{x:Str}{id:String}{r:List V->Hp->VK->Prop}{h:D->D->G->Res D}(hc:∀pn Φ,CallR (xat X ca pn Φ) (.builtin id) r)(hm:X.mg x=none)(hv:bootBuiltins x=some (.builtin id))(hp:∀(Φ:XS) (σ:L2.St) (H:Hp) (μ:List Addr) (g:G) (y z:V) (d c:D) (Q:VK),GRep X.K ca μ H g->Den X.K μ H y d->Den X.K μ H z c->Post X.K ca Φ σ Q H μ (h d c g)->r [y,z] H Q)(he:PE3 ca X e me)(hf:PE3 ca X f mf)(hg:Gl X x)(hn:x ≠ "__name__")(hdb:(x == ("__debug__" : Str))=false)(hs:starEach [e,f] X.env=(false,eval e X.env)::starEach [f] X.env)(hs2:starEach [f] X.env=(false,eval f X.env)::starEach [] X.env)(hpl:(backTo pos (starEach [f] X.env)).any (·.1)=false):PE3 ca X (.Call (.Name x p) [e,f] [] pos) (mOp2 h me mf) :=
 λpn Φ=>Za (QaP (X:=xat X ca pn Φ) (hc pn Φ) hg hm hv (Jp he (Jp hf Qj hs2) hs pn Φ) hn hdb hs hpl) λσ H Q hQ=>by
  obtain⟨σ3,g,μ,R,q⟩:=hQ
  refine⟨σ3,g,μ,R,?_⟩
  unfold mOp2 at q
  unfold Qb mNil
  cases hm:me σ3 g with
  |raise _ _=>rw[hm]at q;exact q
  |stuck=>rw[hm]at q;exact q.elim
  |ok d g1 =>
   rw[hm,Res.bind_ok]at q
   rw[Res.bind_ok]
   cases hm2:mf σ3 g1 with
   |raise _ _=>rw[hm2]at q;exact q
   |stuck=>rw[hm2]at q;exact q.elim
   |ok c g2 =>
    rw[hm2,Res.bind_ok]at q
    rw[Res.bind_ok,Res.bind_ok,Res.bind_ok]
    intro vs H1 μ1 e1 r1 q1
    cases q1 with
    |cons h1 h2=>cases h2 with
     |cons h2 h3 =>
      cases h3
      exact hp Φ σ H1 μ1 g2 _ _ d c Q r1 h1 h2 (q.go e1)
theorem QnA(hc:X.calm=true)(hm:X.mg "min" = none)(he:PE3 ca X e me)(hf:PE3 ca X f mf)(hg:Gl X "min":=by rfl)(hs:starEach [e,f] X.env=(false,eval e X.env)::starEach [f] X.env:=by rfl)(hs2:starEach [f] X.env=(false,eval f X.env)::starEach [] X.env:=by rfl)(hpl:(backTo pos (starEach [f] X.env)).any (·.1)=false:=by rfl):
  PE3 ca X (.Call (.Name "min" p) [e,f] [] pos) (mOp2 QjV me mf) :=
 QkW (λpn Φ=>Qht (X:=xat X ca pn Φ) hc) hm boot_min (λΦ σ H μ g y z d c Q r q1 q2 pp=>by
  unfold QjV at pp
  cases q1 with
  |int i =>
   cases q2 with
   |int j=>exact⟨i,j,rfl,pp _ H μ .refl r (.int _)⟩
   |_=>exact pp.elim
  |_=>cases q2 <;> exact pp.elim) he hf hg (by decide) (by decide) hs hs2 hpl
theorem QnB(hc:X.calm=true)(hm:X.mg "max" = none)(he:PE3 ca X e me)(hf:PE3 ca X f mf)(hg:Gl X "max":=by rfl)(hs:starEach [e,f] X.env=(false,eval e X.env)::starEach [f] X.env:=by rfl)(hs2:starEach [f] X.env=(false,eval f X.env)::starEach [] X.env:=by rfl)(hpl:(backTo pos (starEach [f] X.env)).any (·.1)=false:=by rfl):
  PE3 ca X (.Call (.Name "max" p) [e,f] [] pos) (mOp2 QgP me mf) :=
 QkW (λpn Φ=>Qhs (X:=xat X ca pn Φ) hc) hm boot_max (λΦ σ H μ g y z d c Q r q1 q2 pp=>by
  unfold QgP at pp
  cases q1 with
  |int i =>
   cases q2 with
   |int j=>exact⟨i,j,rfl,pp _ H μ .refl r (.int _)⟩
   |_=>exact pp.elim
  |_=>cases q2 <;> exact pp.elim) he hf hg (by decide) (by decide) hs hs2 hpl
end
end L3
namespace L3
open PySem
noncomputable def Qen(x:D)(g:G):Res D:=match x with
 |.ref n=>(match g[n]? with
  |some (.lst _)=>.ok .non (g.set n (.lst []))
  |_=>.stuck)
 |_=>.stuck
end L3
namespace L3
open PySem PySem.Spec PyProof.Rows L2
section
variable{X:Cx}{ca:Nat->Addr}{o:Expr}{mo:ME}{pos apos:Pos}
theorem mt_clear:MtM X "list.clear" (λx vs H Q=>∃l xs,x=.ref l/\vs=[]/\H l=some (.lst xs)/\Q .non (upd H l (.lst []))):=by
 intro pins s σ H x vs v us Q I rx rv h
 obtain⟨l,xs,rfl,rfl,hH,q⟩:=h
 cases rx
 have hus:=rv.zero
 subst hus
 obtain⟨z,its,n,r,hl,e⟩:=I.lstM hH
 refine Rm RW ⟨_,e,rfl⟩ PySem.F.entry_list_clear (PySem.F.args_list_clear_1 _) (RC l its.toArray n (by rw[Uf];omega)) ⟨e,?_⟩
 exact⟨.non,_,I.lset (its':=[]) hH e rfl .nil (Ts _),rfl,q⟩
theorem QlQ(ho:PE3 ca X o mo)(hbase:attributeBase o "clear" X.env (eval o X.env)=eval o X.env:=by rfl)(hline:(apos.endLine == pos.line)=true:=by rfl):PE3 ca X (.Call (.Attribute o "clear" apos) [] [] pos) (mOp1 Qen mo) :=
 λpn Φ=>Za (QkI (X:=xat X ca pn Φ) T8 RW PySem.F.type_list_clear mt_clear (ho pn Φ) hbase hline) λσ H Q ⟨σ3,g,μ,R,q⟩=>Q5 (Jo R q) λx H1 hQ=>by
  obtain⟨d,g1,μ1,e1,R1,q1,p1⟩:=hQ
  unfold Qen at p1
  cases q1 with
  |@ref n t hn =>
   dsimp only at p1
   cases hgn:g1[n]? with
   |none=>rw[hgn]at p1;exact p1.elim
   |some ob =>
    rw[hgn]at p1
    obtain⟨t',ht',orp⟩:=R1.g.addr hgn
    rw[hn]at ht';cases ht'
    cases ob with
    |lst ds =>
     obtain⟨ws,hH,qs⟩:=orp
     dsimp only at p1
     have ex:Ext X.K μ1 H1 μ1 (upd H1 t (.lst [])):=J4 hH (by intro _ z;cases z) (by intro _ _ z;cases z)
     exact⟨.inl ⟨rfl,_,.of hH⟩,t,ws,rfl,rfl,hH,p1 .non _ μ1 ex (R1.g.set hn hH (by intro _ z;cases z) (by intro _ _ z;cases z) ⟨_,Qn,.nil⟩) .non⟩
    |_=>exact p1.elim
  |_=>exact p1.elim
end
end L3
namespace L3
open PySem
noncomputable def Qbr(x:D)(g:G):Res D:=match tyOf g x with
 |some t=>.ok (.bl (tyLe t .list || tyLe t .tuple)) g
 |none=>.stuck
def cP(i j:Int):Prop:=0<=j/\j<=1000/\i.natAbs<1000000
noncomputable instance (i j:Int):Decidable (cP i j):=inferInstanceAs (Decidable (_/\_/\_))
end L3
namespace L3
open PySem PySem.Spec PyProof.Rows L2
section
variable{X:Cx}{ca:Nat->Addr}{e:Expr}{me:ME}{pos p p2 tp:Pos}{all cs:List Nat}
theorem Qac(K:Frag)(t:Ty):kitAny K (.type t.name) [.type "list",.type "tuple"]=some (tyLe t .list || tyLe t .tuple):=by
 unfold kitAny
 rw[show Value.type "list" = .type Ty.list.name from rfl,Je]
 cases tyLe t .list with
 |true=>rfl
 |false =>
  dsimp only
  unfold kitAny
  rw[show Value.type "tuple" = .type Ty.tuple.name from rfl,Je]
  cases tyLe t .tuple <;> rfl
theorem QlR{h:Heap}{a:Addr}{xs:Array Value}(p:IsTup h a xs):∃dd n sl,h.get? a=some ⟨.type "tuple",dd,.seq xs n,sl⟩:=by
 obtain⟨⟨cls,dd,data,sl⟩,h1,h2,n,h3⟩:=p
 simp only at h2 h3
 subst h2 h3
 exact⟨dd,n,sl,h1⟩
theorem QgQ:CallR X (.builtin "isinstance") (λxs H Q=>∃x q g μ d t,xs=[x,.ref q]/\SqT X.K H q [.ty "list",.ty "tuple"]/\GRep X.K ca μ H g/\Den X.K μ H x d/\tyOf g d=some t/\Q (.bl (tyLe t .list || tyLe t .tuple)) H):=by
 intro pins s σ H xs us Q I rv h
 obtain⟨x,q,g,μ,d,t,rfl,hq,r,qd,ht,qq⟩:=h
 obtain⟨u,u2,rfl,ru,ru2⟩:=rv.two
 cases ru2
 obtain⟨its,r1,p1,_⟩:=I.tuple hq
 obtain⟨w1,w2,rfl,a1,a2⟩:=r1.two
 cases a1;cases a2
 obtain⟨dd,n,sl,ho⟩:=QlR p1
 have fin:∀tk,EP X pins σ Q (.bool (tyLe t .list || tyLe t .tuple)) {s with toks:=tk}:=λtk=>⟨.bl _,H,I.tok tk,rfl,qq⟩
 cases qd with
 |non=>cases ht;cases (show u=Value.none from ru);exact Tj kitx_none I.kIn True.intro ho (Qac X.K .non) (λz=>nomatch z) fin
 |bl y=>cases ht;cases (show u=Value.bool y from ru);exact Tj kitx_bool I.kIn True.intro ho (Qac X.K .bool) (λz=>nomatch z) fin
 |int y=>cases ht;obtain⟨t,q⟩:=(show ∃t,u=Value.int y t from ru);cases q;exact Tj kitx_int I.kIn True.intro ho (Qac X.K .int) (λz=>nomatch z) fin
 |str y=>cases ht;obtain⟨t,q⟩:=(show ∃t,u=Value.str y t from ru);cases q;exact Tj kitx_str I.kIn True.intro ho (Qac X.K .str) (λz=>nomatch z) fin
 |@tup a vs ds hq hs =>
  cases ht
  cases ru
  obtain⟨its,_,⟨o,h1,h2,_⟩,_⟩:=I.tuple hq
  exact Tj RH I.kIn ⟨o,h1,h2⟩ ho (Qac X.K .tuple) (λz=>nomatch z) fin
 |@fl a vs ds hq hs =>
  cases ht
  cases ru
  obtain⟨its,_,p,_⟩:=I.list hq.sq
  obtain⟨o,h1,h2,_⟩:=p.isList
  exact Tj TR I.kIn ⟨o,h1,h2⟩ ho (Qac X.K .list) (λz=>nomatch z) fin
 |@ref n a hn =>
  unfold tyOf at ht
  dsimp only at ht
  cases hg:g[n]? with
  |none=>rw[hg]at ht;cases ht
  |some o =>
   rw[hg]at ht
   obtain⟨a',ha',ob⟩:=r.addr hg
   rw[hn]at ha';cases ha'
   cases o with
   |lst ds =>
    cases ht
    obtain⟨vs,hH,_⟩:=ob
    cases ru
    obtain⟨_,_,n,_,h1⟩:=(show ObjOk X.prog X.w H s.heap a (.lst vs) from I.hok a _ hH)
    exact Tj TR I.kIn ⟨_,h1,rfl⟩ ho (Qac X.K .list) (λz=>nomatch z) fin
   |dct ks =>
    cases ht
    obtain⟨kv,hH,_⟩:=ob
    cases ru
    obtain⟨_,_,vs,_,p⟩:=(show ObjOk X.prog X.w H s.heap a (.dK kv) from I.hok a _ hH)
    obtain⟨o,es,ep,h1,h2,_⟩:=p
    exact Tj RN I.kIn ⟨o,h1,h2.1⟩ ho (Qac X.K .dict) (λz=>nomatch z) fin
   |ins _ _=>cases ht
   |exc _=>cases ht
theorem QlS{k:Nat}{p3:Pos}(hi:X.mg "isinstance" = none)(hl:X.mg "list" = none)(ht:X.mg "tuple" = none)(he:PE3 ca X e me)(hgi:Gl X "isinstance":=by rfl)(hgl:Gl X "list":=by rfl)(hgt:Gl X "tuple":=by rfl)(hs:starEach [e,.Tuple [.Name "list" p2,.Name "tuple" p3] k tp] X.env=(false,eval e X.env)::starEach [.Tuple [.Name "list" p2,.Name "tuple" p3] k tp] X.env:=by rfl)(hs2:starEach [.Tuple [.Name "list" p2,.Name "tuple" p3] k tp] X.env=(false,eval (.Tuple [.Name "list" p2,.Name "tuple" p3] k tp) X.env)::starEach [] X.env:=by rfl)(hs3:starEach [.Name "list" p2,.Name "tuple" p3] X.env=(false,eval (.Name "list" p2) X.env)::starEach [.Name "tuple" p3] X.env:=by rfl)(hs4:starEach [.Name "tuple" p3] X.env=(false,eval (.Name "tuple" p3) X.env)::starEach [] X.env:=by rfl)(hpl:(backTo pos (starEach [.Tuple [.Name "list" p2,.Name "tuple" p3] k tp] X.env)).any (·.1)=false:=by rfl):
  PE3 ca X (.Call (.Name "isinstance" p) [e,.Tuple [.Name "list" p2,.Name "tuple" p3] k tp] [] pos) (mOp1 Qbr me) :=
 λpn Φ=>Za (QaP (X:=xat X ca pn Φ) (QgQ (ca:=ca)) hgi hi boot_isinstance (JC (X:=xat X ca pn Φ) (he pn Φ) (JC (X:=xat X ca pn Φ) (QkF (X:=xat X ca pn Φ) (JC (X:=xat X ca pn Φ) (QeT (X:=xat X ca pn Φ) (v:=.ty "list") hgl hl boot_list rfl (by decide) (by decide)) (JC (X:=xat X ca pn Φ) (QeT (X:=xat X ca pn Φ) (v:=.ty "tuple") hgt ht boot_tuple rfl (by decide) (by decide)) QdZ hs4) hs3)) QdZ hs2) hs) (by decide) (by decide) hs hpl) λσ H Q ⟨σ3,g,μ,R,q⟩ =>
  Q5 (Jo R q) λy H1 hQ=>by
   obtain⟨d,g1,μ1,e1,R1,q1,p1⟩:=hQ
   unfold Qbr at p1
   cases ht:tyOf g1 d with
   |none=>rw[ht]at p1;exact p1.elim
   |some t =>
    rw[ht]at p1
    exact⟨Uv (by decide:2<=SZ) JE,λq hq=>⟨y,q,g1,μ1,d,t,rfl,.of Qn,R1.g.new hq,q1.mono (Zj hq),ht,p1 _ _ μ1 (Zj hq) (R1.g.new hq) (.bl _)⟩⟩
end
end L3
namespace L3
open PySem
noncomputable def anyB:List D->Option Bool
 |[]=>some false
 |.bl b::r=>(anyB r).map (b || ·)
 |_::_=>none
noncomputable def pAny(x:D)(g:G):Res D:=match x with
 |.ref n=>(match g[n]? with
  |some (.lst ds)=>(match anyB ds with
   |some b=>.ok (.bl b) g
   |none=>.stuck)
  |_=>.stuck)
 |_=>.stuck
noncomputable def ZP(x:D)(g:G):Res D:=match QG g x with
 |some (true,ds)=>.ok (.ref g.length) (g++[.lst ds.reverse])
 |_=>.stuck
end L3
namespace L3
open PySem PySem.Spec PyProof.Rows L2
section
variable{X:Cx}{ca:Nat->Addr}{e:Expr}{me:ME}{p p2 pos pos2:Pos}
theorem Qf1{K:Frag}{μ:List Addr}{H:Hp}:∀{vs:List V}{ds:List D}{us:List Value}{b:Bool},Dens K μ H vs ds->Vals vs us->anyB ds=some b->∃bs:List Bool,us=bs.map Value.bool/\bs.any id=b
 |_,_,_,b,.nil,.nil,h=>by cases h;exact⟨[],rfl,rfl⟩
 |_,_,_,b,@Dens.cons _ _ _ _ _ _ ds q qs,.cons r rs,h=>by
  cases q with
  |bl c =>
   unfold anyB at h
   cases hd:anyB ds with
   |none=>rw[hd]at h;cases h
   |some d =>
    rw[hd]at h
    cases h
    obtain⟨bs,h1,h2⟩:=Qf1 qs rs hd
    cases r
    exact⟨c::bs,by rw[h1];rfl,by simp[h2]⟩
  |_=>cases h
theorem Qiq(bs:List Bool):((List.range bs.length).any λi=>(bs[i]?).getD false)=bs.any id:=by
 rw[Tw,RY,RY]
 constructor
 ·intro ⟨i,hi,h⟩
  have hi':=TV.mp hi
  exact⟨bs[i],UJ hi',by simpa[hi']using h⟩
 ·intro ⟨b,hb,h⟩
  obtain⟨i,hi,rfl⟩:=U7 hb
  exact⟨i,TV.mpr hi,by simpa[hi]using h⟩
theorem Qir(hc:X.calm=true):CallR X (.builtin "any") (λxs H Q=>∃p vs ds μ b,xs=[.ref p]/\SqL X.K H p vs/\Dens X.K μ H vs ds/\anyB ds=some b/\Q (.bl b) H):=by
 intro pins s σ H xs us Q I rv h
 obtain⟨l,vs,ds,μ,b,rfl,hq,q,hb,qq⟩:=h
 obtain⟨u,rfl,ru⟩:=rv.one
 cases ru
 obtain⟨its,rs,pl,_⟩:=I.list hq
 obtain⟨bs,rfl,e2⟩:=Qf1 q rs hb
 have hl:=pl.isList
 have hlt:l<s.heap.objs.size:=by obtain⟨_,e,_⟩:=hl;exact Uk e
 refine call_any_walk (Rc hl ⟨s.heap.objs.size,[s.heap.objs.size,l],[s.heap.objs.size],_,_,_,λi=>(bs[i]?).getD false,rfl,Walks.list (A:=X.A.in1) (show X.A.in1.handled=none from I.ok.hd hc) _ l (UA hlt) _,⟨⟨_,Uo _ rfl,rfl,rfl⟩,hl.push _⟩,λi v s' Q' E' hP hQ=>?_,λh' tk hk=>?_⟩)
 ·have hP:(bs.map Value.bool).toArray[i]?=some v:=hP
  rw[TN,Up]at hP
  cases hi:bs[i]? with
  |none=>rw[hi]at hP;cases hP
  |some c =>
   rw[hi]at hP
   cases hP
   simp only[hi,Option.getD_some]at hQ
   exact Tg hQ
 ·have kept:∀c o,s.heap.get? c=some o->h'.get? c=some o:=λc o e=>hk c o (λhm=>by rw[Uu.mp hm]at e;exact U6 _ (Uk e)) (Ub _ e)
  have ea:((List.range (bs.map Value.bool).toArray.size).any λi=>(bs[i]?).getD false)=b:=by
   rw[Uf,Um,Qiq,e2]
  rw[ea]
  exact⟨.bl b,H,I.kept kept,rfl,qq⟩
theorem QoC(hc:X.calm=true)(hm:X.mg "any" = none)(he:PE3 ca X e me)(hg:Gl X "any":=by rfl)(hs:starEach [e] X.env=[(false,eval e X.env)]:=by rfl)(hpl:(backTo pos (starEach [] X.env)).any (·.1)=false:=by rfl):
  PE3 ca X (.Call (.Name "any" p) [e] [] pos) (mOp1 pAny me) :=
 QjF (r:=λxs H Q=>∃p vs ds μ b,xs=[V.ref p]/\SqL X.K H p vs/\Dens X.K μ H vs ds/\anyB ds=some b/\Q (.bl b) H) (λpn Φ=>Qir (X:=xat X ca pn Φ) hc) hm boot_any (λΦ σ H μ g y d Q r q pp=>by
  unfold pAny at pp
  cases q with
  |@ref n t hn =>
   dsimp only at pp
   cases hgn:g[n]? with
   |none=>rw[hgn]at pp;exact pp.elim
   |some ob =>
    rw[hgn]at pp
    obtain⟨t',ht',orp⟩:=r.addr hgn
    rw[hn]at ht';cases ht'
    cases ob with
    |lst ds =>
     obtain⟨vs,hH,q⟩:=orp
     dsimp only at pp
     cases hb:anyB ds with
     |none=>rw[hb]at pp;exact pp.elim
     |some b=>rw[hb]at pp;exact⟨t,vs,ds,μ,b,rfl,.of hH,q,hb,pp _ H μ .refl r (.bl _)⟩
    |_=>exact pp.elim
  |_=>exact pp.elim) he hg (by decide) (by decide) hs hpl
theorem QgR{ta:TA}(hs0:starEach [.Call (.Name "reversed" p2) [e] [] pos2] X.env=[(false,eval (.Call (.Name "reversed" p2) [e] [] pos2) X.env)])(hg:Gl X "list")(hm:X.mg "list" = none)(hg2:Gl X "reversed")(hm2:X.mg "reversed" = none)(ha:PA X [e] ta)(hs:starEach [e] X.env=[(false,eval e X.env)])(hc:X.calm=true):
  PE X (.Call (.Name "list" p) [.Call (.Name "reversed" p2) [e] [] pos2] [] pos) (λσ H Q=>ta σ H λvs H1=>∃a xs,vs=[.ref a]/\SqL X.K H1 a xs/\∀l,H1 l=none->Q (.ref l) (upd H1 l (.lst xs.reverse))):=by
 intro pins s σ H Q I h
 refine Call_ (QbS I hg hm boot_list (U3 ?_ hs0 rfl))
 rw[hs0]
 show wpAny _ _ (spliced ((false,eval (.Call (.Name "reversed" p2) [e] [] pos2) X.env)::[])) _ _ s
 refine Calls.spliced_cons (Call_ (QbS I hg2 hm2 boot_reversed (U3 (thn (ha pos2 pins s σ H _ I h) λus s1 hv=>?_) hs rfl)))
 obtain⟨vs,H1,I1,r1,a,xs,rfl,hq,q⟩:=hv
 cases r1 with
 |cons r rr =>
  cases rr
  cases r
  obtain⟨its,rv,pl,hz⟩:=I1.list hq
  have hl:=rv.length
  obtain⟨f0,f1,f2,f3,f4,f5⟩:=I1.fpOk (Uh _) (I1.hok.fresh (Uh _))
  refine call_reversed_list pl.isList (Calls.spliced_nil ?_)
  have I2:Inv X pins σ H1 {s1 with heap:=s1.heap.push (revObj a ((its.toArray.size:Int) - 1))}:=I1.kept (t':=s1.toks) λb o e=>Ub _ e
  have ll:a≠s1.heap.objs.size:=λz=>by
   obtain⟨o,ho,_⟩:=pl.isList
   exact absurd (Uk ho) (by rw[z];exact U6 _)
  refine Qdu (I:=s1.heap.objs.size) (l:=a) (its:=its) (s:={s1 with heap:=s1.heap.push (revObj a ((its.toArray.size:Int) - 1))}) (I1.ok.hd hc) ll ⟨_,Uo _ rfl,rfl,rfl⟩ (pl.isList.at λo e=>Ub _ e) (by simp only[Uf];omega) λh' tk c kp e=>?_
  have kq:∀b o,s1.heap.get? b=some o->h'.get? b=some o:=λb o eb=>kp b o (UA (Uk eb)) (Ub _ eb)
  have hsz:s1.heap.objs.size<=(s1.heap.push (revObj a ((its.toArray.size:Int) - 1))).objs.size:=by rw[U9];exact Ww _
  exact⟨.ref _,_,I1.laid (t':=tk) kq hsz (show ObjOk X.prog X.w _ h' _ (.lst xs.reverse) from ⟨by rw[List.length_reverse];exact hz,its.reverse,c,QfY rv,e⟩),rfl,q _ (I1.hok.fresh hsz)⟩
theorem QaX(hc:X.calm=true)(hm:X.mg "list" = none)(hm2:X.mg "reversed" = none)(he:PE3 ca X e me)(hs0:starEach [.Call (.Name "reversed" p2) [e] [] pos2] X.env=[(false,eval (.Call (.Name "reversed" p2) [e] [] pos2) X.env)]:=by rfl)(hg:Gl X "list":=by rfl)(hg2:Gl X "reversed":=by rfl)(hs:starEach [e] X.env=[(false,eval e X.env)]:=by rfl):
  PE3 ca X (.Call (.Name "list" p) [.Call (.Name "reversed" p2) [e] [] pos2] [] pos) (mOp1 ZP me) :=
 λpn Φ=>Za (QgR (X:=xat X ca pn Φ) hs0 hg hm hg2 hm2 (Jp he Qj hs pn Φ) hs hc) λσ H Q hQ=>by
  obtain⟨σ3,g,μ,R,q⟩:=hQ
  refine⟨σ3,g,μ,R,?_⟩
  unfold mOp1 at q
  unfold Qb mNil
  cases hm:me σ3 g with
  |raise _ _=>rw[hm]at q;exact q
  |stuck=>rw[hm]at q;exact q.elim
  |ok d g1 =>
   rw[hm,Res.bind_ok]at q
   rw[Res.bind_ok,Res.bind_ok]
   intro vs H1 μ1 e1 r1 q1
   cases q1 with
   |@cons v _ _ _ h1 h2 =>
    cases h2
    unfold ZP at q
    cases hs1:QG g1 d with
    |none=>rw[hs1]at q;exact q.elim
    |some p1 =>
     obtain⟨b,ds⟩:=p1
     rw[hs1]at q
     cases b with
     |false=>exact q.elim
     |true =>
      obtain⟨a,ws,rfl,sq,dn⟩:=JG r1 h1 hs1
      have el:∀l:Addr,(μ1++[l])[g1.length]?=some l:=λl=>by rw[<-r1.len];simp
      exact⟨a,ws,rfl,sq,λl hl=>q _ _ (μ1++[l]) (e1.trans (Qp hl)) (r1.push hl ⟨_,Qn,dn.rev.mono (Qp hl)⟩) (.ref (el l))⟩
end
end L3
namespace L3
open PySem
noncomputable def QgS:MS:=(mRet (mAnd (mOp1 (Z8 .int) (mVar 0)) (mNot (mOp1 (Z8 .bool) (mVar 0)))))
noncomputable def Jt:MF:=mDef 1 0 QgS
noncomputable def QgT:MS:=(mRet (mAnd (Ql Jt (Qb (mVar 0) mNil)) (Qc2 pLe pLt (mLit (.int 0)) (mVar 0) (mVar 1))))
noncomputable def ZV:MF:=mDef 2 0 QgT
noncomputable def Qby:MS:=(mRet (mAnd (Ql Jt (Qb (mVar 0) mNil)) (mOp2 pGe (mVar 0) (mLit (.int 0)))))
noncomputable def Qz:MF:=mDef 1 0 Qby
noncomputable def QgU:MS:=(mSeq (mIf (Qk (mOp2 pIs (mVar 0) (mLit .non))) (mRet (mLit (.bl true))) QB)
 (mSeq (mIf (mOrT (Jm (Qk (mOp1 (Z8 .tuple) (mVar 0)))) (Qk (mOp2 pNe (mOp1 pLen (mVar 0)) (mLit (.int 3))))) (mRet (mLit (.bl false))) QB)
 (mRet (mAnd (Ql ZV (Qb (mOp2 pIx (mVar 0) (mLit (.int 0))) (Qb (mVar 2) mNil))) (mAnd (mOp2 (pIn false) (mOp2 pIx (mVar 0) (mLit (.int 1))) (mOpA pTup (Qb (mLit (.str "l")) (Qb (mLit (.str "r")) mNil)))) (Ql ZV (Qb (mOp2 pIx (mVar 0) (mLit (.int 2))) (Qb (mVar 1) mNil))))))))
noncomputable def YD:MF:=mDef 3 0 QgU
noncomputable def Zb:MS:=(mSeq (mIf (Qk (mOp2 pNe (mOp1 pLen (mVar 3)) (mVar 2))) QbZ QB)
 (mIf (Jm (Qk (mOp1 pAll (YH (QM (mVar 3)) 1 [1,2] (gSet 0) Yr (Ql YD (Qb (mVar 0) (Qb (mVar 1) (Qb (mVar 2) mNil)))))))) QbZ QB))
noncomputable def ZW:MS:=(mSeq (mIf (Qk (mOp2 pEq (mOp1 pLen (mVar 0)) (mLit (.int 0)))) QbZ QB)
 (mSeq (mAsg (gSet 1) (mOp1 pLen (mVar 0)))
 (mSeq (mAsg (gSet 2) (mOp1 pLen (mOp2 pIx (mVar 0) (mLit (.int 0)))))
 (mSeq (mIf (Qk (mOp2 pEq (mVar 2) (mLit (.int 0)))) QbZ QB)
 (mFor (QM (mVar 0)) (gSet 3) Zb)))))
noncomputable def ZX:MF:=mDef 1 3 ZW
noncomputable def QaA:MS:=(mSeq (mAsg (gSet 2) (mOp1 QaR (YH (QM (mVar 1)) 1 [] (gSet 0) Yr (mOp1 QaR (mVar 0)))))
 (mSeq (Zh (Ql ZX (Qb (mVar 2) mNil)))
 (QW [11,13] "table" (mVar 0) (mVar 2))))
noncomputable def Zt:MF:=mDef 2 1 QaA
noncomputable def Qb9:MS:=(mRet (mOp1 pLen (Yb [11,13] "table" (mVar 0))))
noncomputable def JH:MF:=mDef 1 0 Qb9
noncomputable def Qc8:MS:=(mRet (mOp1 pLen (mOp2 pIx (Yb [11,13] "table" (mVar 0)) (mLit (.int 0)))))
noncomputable def Qbf:MF:=mDef 1 0 Qc8
noncomputable def Z2:MS:=(mSeq (mIf (Qk (mOp2 pLt (mVar 2) (mLit (.int 1)))) Qlt QB)
 (mIf (JZ (Qk (mOp2 pGt (mOp1 pLen (mVar 0)) (mLit (.int 0)))) (Qk (mOp2 pEq (mOp2 pIx (mOp2 pIx (mVar 0) (mOp1 pNeg (mLit (.int 1)))) (mLit (.int 0))) (mVar 1)))) (Z1 (mVar 0) (mOp1 pNeg (mLit (.int 1))) (mOpA pTup (Qb (mVar 1) (Qb (mOp2 pAdd (mOp2 pIx (mOp2 pIx (mVar 0) (mOp1 pNeg (mLit (.int 1)))) (mLit (.int 1))) (mVar 2)) mNil)))) (Zh (Zv (mVar 0) (mOpA pTup (Qb (mVar 1) (Qb (mVar 2) mNil)))))))
noncomputable def JI:MF:=mDef 3 0 Z2
noncomputable def Y1:MS:=(mSeq (mIf (mOrT (Jm (Qk (mOp1 (Z8 .tuple) (mVar 0)))) (Qk (mOp2 pNe (mOp1 pLen (mVar 0)) (mLit (.int 2))))) (mRet (mLit (.bl false))) QB)
 (mRet (mAnd (Ql Qz (Qb (mOp2 pIx (mVar 0) (mLit (.int 0))) mNil)) (mAnd (Ql Qz (Qb (mOp2 pIx (mVar 0) (mLit (.int 1))) mNil)) (mOp2 pGt (mOp2 pIx (mVar 0) (mLit (.int 1))) (mLit (.int 0)))))))
noncomputable def Q0:MF:=mDef 1 0 Y1
noncomputable def QT:MS:=(mIf (Qk (mOp2 pEq (mOp2 pIx (mVar 1) (mLit (.int 0))) (mOp2 pIx (mVar 2) (mLit (.int 0))))) (Yx 5 (Qb (mLit (.str "two stretches side by side have unlike signs")) mNil)) QB)
noncomputable def QC:MS:=(mSeq (mIf (mOrT (Jm (Qk (mOp1 Qbr (mVar 0)))) (Jm (Qk (mOp1 pAll (YH (QM (mVar 0)) 1 [] (gSet 0) Yr (Ql Q0 (Qb (mVar 0) mNil))))))) (Yx 5 (Qb (mLit (.str "a side is a list of pairs of a sign and a count of one or more")) mNil)) QB)
 (mSeq (mFor (Qax (mVar 0) (ZU (mVar 0) (Jc (mLit (.int 1))) Zi)) (Yl [(gSet 1),(gSet 2)]) QT)
 (mIf (JZ (Qk (mOp2 pGt (mOp1 pLen (mVar 0)) (mLit (.int 0)))) (Qk (mOp2 pEq (mOp2 pIx (mOp2 pIx (mVar 0) (mOp1 pNeg (mLit (.int 1)))) (mLit (.int 0))) (mLit (.int 0))))) (Yx 5 (Qb (mLit (.str "the last stretch of a side is not blank")) mNil)) QB)))
noncomputable def ZY:MF:=mDef 1 2 QC
noncomputable def QR:MS:=(mSeq (mIf (mOrT (Jm (Qk (mOp1 (Z8 .tuple) (mVar 0)))) (Qk (mOp2 pNe (mOp1 pLen (mVar 0)) (mLit (.int 3))))) (Yx 5 (Qb (mLit (.str "stretches are a state and two lists")) mNil)) QB)
 (mSeq (mIf (Jm (Qk (Ql Qz (Qb (mOp2 pIx (mVar 0) (mLit (.int 0))) mNil)))) (Yx 5 (Qb (mLit (.str "the state is a whole number from nought on")) mNil)) QB)
 (mSeq (Zh (Ql ZY (Qb (mOp2 pIx (mVar 0) (mLit (.int 1))) mNil)))
 (Zh (Ql ZY (Qb (mOp2 pIx (mVar 0) (mLit (.int 2))) mNil))))))
noncomputable def QS:MF:=mDef 1 0 QR
noncomputable def QjY:MS:=(mIf (mOrT (Qk (mOp2 pGt (mOp1 pLen (mVar 0)) (mLit (.int 0)))) (Qk (mOp2 pNe (mVar 1) (mLit (.int 0))))) (Zh (Ql JI (Qb (mVar 0) (Qb (mVar 1) (Qb (mVar 2) mNil))))) QB)
noncomputable def QgV:MF:=mDef 3 0 QjY
noncomputable def Qis:MS:=(mIf (Qk (mOp2 pGt (mOp1 pLen (mVar 0)) (mLit (.int 0)))) (mSeq (mAsg (gSet 2) (mOp1 pPop (mVar 0)))
 (Zh (Ql QgV (Qb (mVar 0) (Qb (mOp2 pIx (mVar 2) (mLit (.int 0))) (Qb (mOp2 pSub (mOp2 pIx (mVar 2) (mLit (.int 1))) (mVar 1)) mNil)))))) QB)
noncomputable def Qca:MF:=mDef 2 1 Qis
noncomputable def Jf:MS:=(mRet (mIfE (Qk (mOp2 pGt (mOp1 pLen (mVar 0)) (mLit (.int 0)))) (mOp2 pIx (mOp2 pIx (mVar 0) (mOp1 pNeg (mLit (.int 1)))) (mLit (.int 0))) (mLit (.int 0))))
noncomputable def Q6:MF:=mDef 1 0 Jf
noncomputable def Qdv:MS:=(mSeq (mIf (Qk (mOp2 pNe (Ql Q6 (Qb (mVar 0) mNil)) (mVar 1))) (mRet (mLit (.int 0))) QB)
 (mRet (mIfE (Qk (mOp2 pGt (mOp1 pLen (mVar 0)) (mLit (.int 0)))) (mOp2 QjV (mOp2 pIx (mOp2 pIx (mVar 0) (mOp1 pNeg (mLit (.int 1)))) (mLit (.int 1))) (mVar 2)) (mVar 2))))
noncomputable def Qcb:MF:=mDef 3 0 Qdv
noncomputable def YL:MS:=(mSeq (QW [11,13] "table" (mVar 0) (Yb [11,13] "table" (mVar 1)))
 (mSeq (QW [13] "state" (mVar 0) (mOp2 pIx (mVar 2) (mLit (.int 0))))
 (mSeq (QW [13] "left" (mVar 0) (mOp1 ZP (mOp2 pIx (mVar 2) (mLit (.int 1)))))
 (mSeq (QW [13] "right" (mVar 0) (mOp1 ZP (mOp2 pIx (mVar 2) (mLit (.int 2)))))
 (mSeq (QW [13] "own" (mVar 0) (Ql Q6 (Qb (Yb [13] "right" (mVar 0)) mNil)))
 (mSeq (Zh (Ql Qca (Qb (Yb [13] "right" (mVar 0)) (Qb (mLit (.int 1)) mNil))))
 (QW [13] "moved" (mVar 0) (mLit (.int 0)))))))))
noncomputable def Z3:MF:=mDef 3 0 YL
noncomputable def JX:MS:=(mRet (mOp2 pIx (mOp2 pIx (Yb [11,13] "table" (mVar 0)) (Yb [13] "state" (mVar 0))) (Yb [13] "own" (mVar 0))))
noncomputable def Zp:MF:=mDef 1 0 JX
noncomputable def Zy:MS:=(mSeq (mAsg (gSet 2) (QcO 13 (Str.ofString "entry") Zp (mVar 0) mNil))
 (mSeq (mAsg (gSet 3) (mOp2 pEq (mOp2 pIx (mVar 2) (mLit (.int 1))) (mLit (.str "r"))))
 (mSeq (mAsg (gSet 4) (mIfE (Qk (mVar 3)) (Yb [13] "right" (mVar 0)) (Yb [13] "left" (mVar 0))))
 (mSeq (mAsg (gSet 5) (mIfE (Qk (mVar 3)) (Yb [13] "left" (mVar 0)) (Yb [13] "right" (mVar 0))))
 (mSeq (mAsg (gSet 6) (mIfE (Qk (mOp2 pEq (mOp2 pIx (mVar 2) (mLit (.int 2))) (Yb [13] "state" (mVar 0)))) (mOp2 pAdd (mLit (.int 1)) (Ql Qcb (Qb (mVar 4) (Qb (Yb [13] "own" (mVar 0)) (Qb (mOp2 pSub (mVar 1) (mLit (.int 1))) mNil))))) (mLit (.int 1))))
 (mSeq (Zh (Ql QgV (Qb (mVar 5) (Qb (mOp2 pIx (mVar 2) (mLit (.int 0))) (Qb (mVar 6) mNil)))))
 (mSeq (Zh (Ql Qca (Qb (mVar 4) (Qb (mOp2 pSub (mVar 6) (mLit (.int 1))) mNil))))
 (mSeq (QW [13] "own" (mVar 0) (Ql Q6 (Qb (mVar 4) mNil)))
 (mSeq (Zh (Ql Qca (Qb (mVar 4) (Qb (mLit (.int 1)) mNil))))
 (mSeq (QW [13] "state" (mVar 0) (mOp2 pIx (mVar 2) (mLit (.int 2))))
 (mSeq (QW [13] "moved" (mVar 0) (mIfE (Qk (mVar 3)) (mOp2 pAdd (Yb [13] "moved" (mVar 0)) (mVar 6)) (mOp2 pSub (Yb [13] "moved" (mVar 0)) (mVar 6))))
 (mRet (mVar 6)))))))))))))
noncomputable def YM:MF:=mDef 2 5 Zy
noncomputable def Jg:MS:=(mSeq (mAsg (gSet 1) (mOp1 Qba (Yb [13] "right" (mVar 0))))
 (mSeq (Zh (Ql QgV (Qb (mVar 1) (Qb (Yb [13] "own" (mVar 0)) (Qb (mLit (.int 1)) mNil)))))
 (mRet (mOpA pTup (Qb (Yb [13] "state" (mVar 0)) (Qb (mOp1 ZP (Yb [13] "left" (mVar 0))) (Qb (mOp1 ZP (mVar 1)) mNil)))))))
noncomputable def Yj:MF:=mDef 1 1 Jg
noncomputable def Qt:MS:=(mIf (Qk (mOp1 pAny (YH (QM (mVar 3)) 2 [2] (Yl [(gSet 0),(gSet 1)]) Yr (mOp2 pGe (mVar 0) (mVar 2))))) (Yx 5 (Qb (mLit (.str "a sign is not the machine's")) mNil)) QB)
noncomputable def Qx:MS:=(mSeq (Zh (Ql QS (Qb (mVar 1) mNil)))
 (mSeq (mIf (Qk (mOp2 pGe (mOp2 pIx (mVar 1) (mLit (.int 0))) (Ql JH (Qb (mVar 0) mNil)))) (Yx 5 (Qb (mLit (.str "the state is not the machine's")) mNil)) QB)
 (mSeq (mAsg (gSet 2) (Ql Qbf (Qb (mVar 0) mNil)))
 (mFor (QM (ZU (mVar 1) (Jc (mLit (.int 1))) Zi)) (gSet 3) Qt))))
noncomputable def Q1:MF:=mDef 2 2 Qx
noncomputable def QP:MS:=(mSeq (mIf (Qk (mOp2 pGe (mVar 6) (mVar 3))) (Yx 6 (Qb (mLit (.str "the run has more leaps than it may have")) mNil)) QB)
 (mSeq (mAsg (gSet 5) (mOp2 pAdd (mVar 5) (QcO 13 (Str.ofString "leap") YM (mVar 4) (Qb (mOp2 pSub (mVar 2) (mVar 5)) mNil))))
 (mAsg (gSet 6) (mOp2 pAdd (mVar 6) (mLit (.int 1))))))
noncomputable def YN:MS:=(mSeq (Zh (Ql Q1 (Qb (mVar 0) (Qb (mVar 1) mNil))))
 (mSeq (mAsg (gSet 4) (Qdj 13 Z3 (Qb (mVar 0) (Qb (mVar 1) mNil))))
 (mSeq (mAsg (gSet 5) (mLit (.int 0)))
 (mSeq (mAsg (gSet 6) (mLit (.int 0)))
 (mSeq (Qb0 (JZ (Qk (mOp2 pLt (mVar 5) (mVar 2))) (Qk (mOp2 QaQ (QcO 13 (Str.ofString "entry") Zp (mVar 4) mNil) (mLit .non)))) QP)
 (mRet (mOpA pTup (Qb (QcO 13 (Str.ofString "row") Yj (mVar 4) mNil) (Qb (Yb [13] "moved" (mVar 4)) (Qb (mVar 5) (Qb (mVar 6) mNil)))))))))))
noncomputable def YO:MF:=mDef 4 3 YN
noncomputable def Qdw:MS:=(mSeq (Z1 (mVar 1) (mLit (.int 0)) (mOp2 pAdd (mOp2 pIx (mVar 1) (mLit (.int 0))) (mLit (.int 1))))
 (mSeq (mAsg (gSet 2) (mIfE (Qk (mOp2 pGt (mOp1 pLen (mVar 0)) (mLit (.int 0)))) (mOp2 pIx (mVar 0) (mOp2 pMod (mOp2 pIx (mVar 1) (mLit (.int 0))) (mOp1 pLen (mVar 0)))) (mLit (.int 0))))
 (mSeq (mAsg (gSet 3) (mOp2 pMod (mOp2 pMul (mOp2 pAdd (mOp2 pAdd (mOp2 pMod (mVar 2) (mLit (.int 2147483647))) (mOp2 pMul (mOp2 pMul (mOp2 pIx (mVar 1) (mLit (.int 0))) (mOp2 pIx (mVar 1) (mLit (.int 0)))) (mLit (.int 7919)))) (mLit (.int 11))) (mLit (.int 48271))) (mLit (.int 2147483647))))
 (mRet (mOp2 pMod (mOp2 pMul (mVar 3) (mVar 3)) (mLit (.int 1999999973)))))))
noncomputable def QI:MF:=mDef 2 2 Qdw
noncomputable def QaY(me:MF):MS:=(mSeq (mIf (mOrT (Qk (mOp1 (Z8 .list) (mVar 1))) (Qk (mOp1 (Z8 .tuple) (mVar 1)))) (mSeq (mIf (mOrT (Qk (mOp2 pNe (mOp1 (Z8 .list) (mVar 0)) (mOp1 (Z8 .list) (mVar 1)))) (Qk (mOp2 pNe (mOp1 (Z8 .tuple) (mVar 0)) (mOp1 (Z8 .tuple) (mVar 1))))) (mRet (mLit (.bl false))) QB)
 (mRet (mAnd (mOp2 pEq (mOp1 pLen (mVar 0)) (mOp1 pLen (mVar 1))) (mOp1 pAll (YH (Qax (mVar 0) (mVar 1)) 2 [] (Yl [(gSet 0),(gSet 1)]) Yr (Ql me (Qb (mVar 0) (Qb (mVar 1) mNil)))))))) QB)
 (mSeq (mIf (Qk (mOp2 pIs (mVar 1) (mLit .non))) (mRet (mOp2 pIs (mVar 0) (mLit .non))) QB)
 (mSeq (mIf (Qk (mOp1 (Z8 .str) (mVar 1))) (mRet (mAnd (mOp1 (Z8 .str) (mVar 0)) (mOp2 pEq (mVar 0) (mVar 1)))) QB)
 (mRet (mAnd (mOp1 (Z8 .int) (mVar 0)) (mAnd (mNot (mOp1 (Z8 .bool) (mVar 0))) (mOp2 pEq (mVar 0) (mVar 1))))))))
noncomputable def Z4:Nat->MF
 |0=>λ_ _=>.stuck
 |k+1=>mDef 2 0 (QaY (Z4 k))
noncomputable def Zz:MS:=(mSeq (mAsg (gSet 8) (Ql QI (Qb (mVar 0) (Qb (mVar 1) mNil))))
 (mSeq (mAsg (gSet 9) (mOpA pTup (Qb (mOp2 pMod (mOp2 QN (mVar 8) (mLit (.int 9))) (mVar 3)) (Qb (mOp2 pIx (mLit (.str "lr")) (mOp2 pMod (mOp2 QN (mVar 8) (mLit (.int 100))) (mLit (.int 2)))) (Qb (mOp2 pMod (mOp2 QN (mVar 8) (mLit (.int 300))) (mVar 2)) mNil)))))
 (mSeq (mIf (Qk (mOp2 pEq (mOp2 pMod (mVar 8) (mLit (.int 9))) (mLit (.int 0)))) (mAsg (gSet 9) (mLit .non)) QB)
 (Zh (Zv (mVar 6) (mVar 9))))))
noncomputable def Y2:MS:=(mSeq (mAsg (gSet 6) (mOpA newL mNil))
 (mSeq (mFor (Qs (mVar 3)) (gSet 7) Zz)
 (Zh (Zv (mVar 4) (mVar 6)))))
noncomputable def Qcc:MS:=(mSeq (mAsg (gSet 4) (mOpA newL mNil))
 (mSeq (mFor (Qs (mVar 2)) (gSet 5) Y2)
 (mRet (mVar 4))))
noncomputable def Qcd:MF:=mDef 4 6 Qcc
noncomputable def QbK:MS:=(mSeq (mAsg (Yl [(gSet 2),(gSet 3),(gSet 4)]) (mVar 1))
 (mSeq (mAsg (gSet 5) (mOp2 pIx (mOp2 pIx (mVar 0) (mVar 2)) (Qel (mVar 4) (mVar 3) (mLit (.int 0)))))
 (mSeq (mIf (Qk (mOp2 pIs (mVar 5) (mLit .non))) (mRet (mLit .non)) QB)
 (mSeq (mAsg (gSet 6) (mOp1 Qin (mVar 4)))
 (mSeq (QcQ (mVar 6) (mVar 3) (mOp2 pIx (mVar 5) (mLit (.int 0))))
 (mSeq (mIf (Qk (mOp2 pEq (mOp2 pIx (mVar 5) (mLit (.int 0))) (mLit (.int 0)))) (Zh (QgN (mVar 6) (mVar 3))) QB)
 (mSeq (mIf (Qk (mOp2 pEq (mOp2 pIx (mVar 5) (mLit (.int 1))) (mLit (.str "r")))) (mRet (mOpA pTup (Qb (mOp2 pIx (mVar 5) (mLit (.int 2))) (Qb (mOp2 pAdd (mVar 3) (mLit (.int 1))) (Qb (mVar 6) mNil))))) QB)
 (mRet (mOpA pTup (Qb (mOp2 pIx (mVar 5) (mLit (.int 2))) (Qb (mOp2 pSub (mVar 3) (mLit (.int 1))) (Qb (mVar 6) mNil))))))))))))
noncomputable def QbL:MF:=mDef 2 5 QbK
noncomputable def Yc:MS:=(mSeq (mAsg (gSet 1) (Ql QbL (Qb (mVar 0) (Qb (mVar 1) mNil))))
 (mSeq (mIf (Qk (mOp2 pIs (mVar 1) (mLit .non))) (mRet (mVar 3)) QB)
 (Zh (Zv (mVar 3) (mVar 1)))))
noncomputable def Qe9:MS:=(mSeq (mAsg (gSet 3) (mOpA newL (Qb (mVar 1) mNil)))
 (mSeq (Qb0 (Qk (mOp2 pLe (mOp1 pLen (mVar 3)) (mVar 2))) Yc)
 (mRet (mVar 3))))
noncomputable def Qdx:MF:=mDef 3 1 Qe9
noncomputable def Yd:MS:=(mSeq (mAsg (gSet 2) (Ql QI (Qb (mVar 0) (Qb (mVar 1) mNil))))
 (mSeq (mIf (JZ (Qk (mOp2 pEq (mOp2 pMod (mVar 2) (mLit (.int 3))) (mLit (.int 0)))) (Qk (mOp2 QaQ (mOp2 pIx (mOp2 pIx (mVar 5) (mVar 6)) (mVar 7)) (mLit .non)))) (Z1 (mOp2 pIx (mVar 5) (mVar 6)) (mVar 7) (mOpA pTup (Qb (mOp2 pIx (mOp2 pIx (mOp2 pIx (mVar 5) (mVar 6)) (mVar 7)) (mLit (.int 0))) (Qb (mOp2 pIx (mOp2 pIx (mOp2 pIx (mVar 5) (mVar 6)) (mVar 7)) (mLit (.int 1))) (Qb (mVar 6) mNil))))) QB)
 (mIf (JZ (Qk (mOp2 pGt (mOp2 pMod (mOp2 QN (mVar 2) (mLit (.int 3))) (mLit (.int 7))) (mLit (.int 1)))) (Qk (mOp2 pIs (mOp2 pIx (mOp2 pIx (mVar 5) (mVar 6)) (mVar 7)) (mLit .non)))) (Z1 (mOp2 pIx (mVar 5) (mVar 6)) (mVar 7) (mOpA pTup (Qb (mOp2 pMod (mOp2 QN (mVar 2) (mLit (.int 30))) (mVar 4)) (Qb (mOp2 pIx (mLit (.str "lr")) (mOp2 pMod (mOp2 QN (mVar 2) (mLit (.int 300))) (mLit (.int 2)))) (Qb (mOp2 pMod (mOp2 QN (mVar 2) (mLit (.int 600))) (mVar 3)) mNil))))) QB)))
noncomputable def ZF:MS:=(mFor (Qs (mVar 4)) (gSet 7) Yd)
noncomputable def Jh:MS:=(mSeq (mAsg (gSet 2) (Ql QI (Qb (mVar 0) (Qb (mVar 1) mNil))))
 (mSeq (mAsg (gSet 3) (mOp2 pIx (mOpA newL (Qb (mLit (.int 1)) (Qb (mLit (.int 2)) (Qb (mLit (.int 2)) (Qb (mLit (.int 3)) (Qb (mLit (.int 3)) (Qb (mLit (.int 4)) mNil))))))) (mOp2 pMod (mVar 2) (mLit (.int 6)))))
 (mSeq (mAsg (gSet 4) (mOp2 pIx (mOpA newL (Qb (mLit (.int 2)) (Qb (mLit (.int 2)) (Qb (mLit (.int 3)) (Qb (mLit (.int 2)) (Qb (mLit (.int 4)) (Qb (mLit (.int 1)) mNil))))))) (mOp2 pMod (mOp2 QN (mVar 2) (mLit (.int 6))) (mLit (.int 6)))))
 (mSeq (mIf (Qk (mOp2 pEq (mOp2 pMod (mOp2 QN (mVar 2) (mLit (.int 36))) (mLit (.int 13))) (mLit (.int 0)))) (mAsg (Yl [(gSet 3),(gSet 4)]) (mOpA pTup (Qb (mLit (.int 5)) (Qb (mLit (.int 8)) mNil)))) QB)
 (mSeq (mAsg (gSet 5) (Ql Qcd (Qb (mVar 0) (Qb (mVar 1) (Qb (mVar 3) (Qb (mVar 4) mNil))))))
 (mSeq (mFor (Qs (mVar 3)) (gSet 6) ZF)
 (mRet (mVar 5))))))))
noncomputable def Ji:MF:=mDef 2 6 Jh
noncomputable def Y3:MS:=(mIf (Qk (mOp2 pGt (mOp2 pMod (mOp2 QN (mVar 7) (mLit (.int 5))) (mOp1 pLen (mOp2 pIx (mVar 2) (mLit (.int 0))))) (mLit (.int 0)))) (QcQ (mVar 4) (mOp2 pAdd (mVar 5) (mVar 8)) (mOp2 pMod (mOp2 QN (mVar 7) (mLit (.int 5))) (mOp1 pLen (mOp2 pIx (mVar 2) (mLit (.int 0)))))) QB)
noncomputable def Y4:MS:=(mSeq (mAsg (gSet 7) (Ql QI (Qb (mVar 0) (Qb (mVar 1) mNil))))
 (mSeq (mFor (Qs (mOp2 pMod (mVar 7) (mLit (.int 5)))) (gSet 8) Y3)
 (mAsg (gSet 5) (mOp2 pAdd (mOp2 pAdd (mVar 5) (mOp2 pMod (mVar 7) (mLit (.int 5)))) (mOp2 pMod (mOp2 QN (mVar 7) (mLit (.int 50))) (mLit (.int 3)))))))
noncomputable def Qce:MS:=(mSeq (mAsg (gSet 4) QlM)
 (mSeq (mAsg (gSet 5) (mOp2 pSub (mVar 3) (mOp2 pMod (Ql QI (Qb (mVar 0) (Qb (mVar 1) mNil))) (mLit (.int 9)))))
 (mSeq (mFor (Qs (mOp2 pMod (Ql QI (Qb (mVar 0) (Qb (mVar 1) mNil))) (mLit (.int 6)))) (gSet 6) Y4)
 (mRet (mVar 4)))))
noncomputable def Qcf:MF:=mDef 4 5 Qce
noncomputable def Qeo:MS:=(mRet (mOpA pTup (Qb (mOp2 pMod (Ql QI (Qb (mVar 0) (Qb (mVar 1) mNil))) (mOp1 pLen (mVar 2))) (Qb (mVar 3) (Qb (Ql Qcf (Qb (mVar 0) (Qb (mVar 1) (Qb (mVar 2) (Qb (mVar 3) mNil))))) mNil)))))
noncomputable def Qcg:MF:=mDef 4 0 Qeo
noncomputable def JJ:MS:=(mSeq (mAsg (gSet 10) (mOp2 pDIx (mVar 3) (mOp2 pAdd (mVar 2) (mOp2 pMul (mVar 6) (mOp2 pSub (mOp2 pAdd (mVar 9) (mLit (.int 1))) (mVar 5))))))
 (mSeq (mIf (Qk (mOp2 pGt (mVar 9) (mOp2 pAdd (mVar 8) (mLit (.int 1))))) (Zh (Zv (mOp2 pIx (mVar 4) (mVar 5)) (mOpA pTup (Qb (mLit (.int 0)) (Qb (mOp2 pSub (mOp2 pSub (mVar 9) (mVar 8)) (mLit (.int 1))) mNil))))) QB)
 (mSeq (mIf (JZ (Qk (mOp2 pEq (mVar 9) (mOp2 pAdd (mVar 8) (mLit (.int 1))))) (JZ (Qk (mOp2 pGt (mOp1 pLen (mOp2 pIx (mVar 4) (mVar 5))) (mLit (.int 0)))) (Qk (mOp2 pEq (mOp2 pIx (mOp2 pIx (mOp2 pIx (mVar 4) (mVar 5)) (mOp1 pNeg (mLit (.int 1)))) (mLit (.int 0))) (mVar 10))))) (Z1 (mOp2 pIx (mVar 4) (mVar 5)) (mOp1 pNeg (mLit (.int 1))) (mOpA pTup (Qb (mVar 10) (Qb (mOp2 pAdd (mOp2 pIx (mOp2 pIx (mOp2 pIx (mVar 4) (mVar 5)) (mOp1 pNeg (mLit (.int 1)))) (mLit (.int 1))) (mLit (.int 1))) mNil)))) (Zh (Zv (mOp2 pIx (mVar 4) (mVar 5)) (mOpA pTup (Qb (mVar 10) (Qb (mLit (.int 1)) mNil))))))
 (mAsg (gSet 8) (mVar 9)))))
noncomputable def QaH:MS:=(mSeq (mAsg (gSet 7) (YH (QM (mOp1 YK (mOp1 Qe8 (mVar 3)))) 1 [5,6,2] (gSet 0) (Qk (mOp2 pEq (mOp2 pLt (mVar 0) (mVar 3)) (mOp2 pEq (mVar 1) (mLit (.int 0))))) (mOp2 pAdd (mOp2 pSub (mOp2 pMul (mOp2 pSub (mVar 0) (mVar 3)) (mVar 2)) (mLit (.int 1))) (mVar 1))))
 (mSeq (mAsg (gSet 8) (mOp1 pNeg (mLit (.int 1))))
 (mFor (QM (mOp1 YK (mVar 7))) (gSet 9) JJ)))
noncomputable def Qdy:MS:=(mSeq (mAsg (Yl [(gSet 1),(gSet 2),(gSet 3)]) (mVar 0))
 (mSeq (mAsg (gSet 4) (mOpA pTup (Qb (mOpA newL mNil) (Qb (mOpA newL mNil) mNil))))
 (mSeq (mFor (QM (mOpA pTup (Qb (mOpA pTup (Qb (mLit (.int 0)) (Qb (mOp1 pNeg (mLit (.int 1))) mNil))) (Qb (mOpA pTup (Qb (mLit (.int 1)) (Qb (mLit (.int 1)) mNil))) mNil)))) (Yl [(gSet 5),(gSet 6)]) QaH)
 (mRet (mOpA pTup (Qb (mVar 1) (Qb (mOp2 pIx (mVar 4) (mLit (.int 0))) (Qb (mOp2 pIx (mVar 4) (mLit (.int 1))) mNil))))))))
noncomputable def JK:MF:=mDef 1 10 Qdy
noncomputable def Qdz:MS:=(mRet (mOpA pTup (Qb (mOp2 pIx (mVar 0) (mLit (.int 0))) (Qb (Qel (mOp2 pIx (mVar 0) (mLit (.int 2))) (mOp2 pIx (mVar 0) (mLit (.int 1))) (mLit (.int 0))) mNil))))
noncomputable def JL:MF:=mDef 1 0 Qdz
noncomputable def Yt:MS:=(mIf (mOrT (Qk (mOp2 pEq (mVar 2) (mLit (.int 0)))) (Qk (mOp2 pNe (Ql JL (Qb (mOp2 pIx (mVar 0) (mVar 2)) mNil)) (Ql JL (Qb (mOp2 pIx (mVar 0) (mOp2 pSub (mVar 2) (mLit (.int 1)))) mNil))))) (mAsg (gSet 1) (mOp2 pAdd (mVar 1) (mLit (.int 1)))) QB)
noncomputable def JM:MS:=(mSeq (mAsg (gSet 1) (mLit (.int 0)))
 (mSeq (mFor (Qs (mOp2 pSub (mOp1 pLen (mVar 0)) (mLit (.int 1)))) (gSet 2) Yt)
 (mRet (mVar 1))))
noncomputable def JN:MF:=mDef 1 2 JM
noncomputable def QjZ:MS:=(mSeq (mAsg (gSet 4) (mLit .non))
 (mSeq (mTry (mAsg (gSet 4) (Ql YO (Qb (mVar 0) (Qb (mVar 1) (Qb (mVar 2) (Qb (mVar 3) mNil)))))) [⟨[6],[0,1,5],none,(mAsg (gSet 4) (mLit (.str "too long")))⟩,⟨[5],[0,1,6],some 5,(mAsg (gSet 4) (mOp2 pIx (mOpA newL (Qb (mLit (.str "other")) (Qb (mLit (.str "no stretches")) mNil))) (mOp1 pInt (mNot (mOp1 (Qay [0,1,5,6] [6]) (mVar 5))))))⟩])
 (mRet (mVar 4))))
noncomputable def ZQ:MF:=mDef 4 2 QjZ
noncomputable def Qch:MS:=(mSeq (mAsg (gSet 3) (ZU (mVar 1) Zi (Jc (mOp2 pAdd (mLit (.int 1)) (mOp2 QgP (mLit (.int 0)) (mVar 2))))))
 (mSeq (mAsg (gSet 4) (Ql JN (Qb (mVar 3) mNil)))
 (mSeq (mAsg (gSet 5) (mOp2 pIx (mVar 3) (mOp2 pSub (mOp1 pLen (mVar 3)) (mLit (.int 1)))))
 (mSeq (mAsg (gSet 6) (mOpA pTup (Qb (Ql JK (Qb (mVar 5) mNil)) (Qb (mOp2 pSub (mOp2 pIx (mVar 5) (mLit (.int 1))) (mOp2 pIx (mOp2 pIx (mVar 1) (mLit (.int 0))) (mLit (.int 1)))) (Qb (mOp2 pSub (mOp1 pLen (mVar 3)) (mLit (.int 1))) (Qb (mVar 4) mNil))))))
 (mSeq (mAsg (Yl [(gSet 7),(gSet 8),(gSet 9)]) (Ql JK (Qb (mOp2 pIx (mVar 1) (mLit (.int 0))) mNil)))
 (mSeq (mAsg (gSet 10) (mOpA pTup (Qb (mVar 7) (Qb (mOp1 Qba (mVar 8)) (Qb (mOp1 Qba (mVar 9)) mNil)))))
 (mSeq (mAsg (gSet 11) (Ql ZQ (Qb (mVar 0) (Qb (mVar 10) (Qb (mVar 2) (Qb (mVar 4) mNil))))))
 (mSeq (mIf (Qk (mOp2 pNe (mVar 10) (mOpA pTup (Qb (mVar 7) (Qb (mVar 8) (Qb (mVar 9) mNil)))))) (mRet (mLit (.bl false))) QB)
 (mSeq (Zh (Zv (mOp2 pIx (mVar 10) (mLit (.int 1))) (mOpA pTup (Qb (mLit (.int 1)) (Qb (mLit (.int 3)) mNil)))))
 (mSeq (Zh (mOp1 Qen (mOp2 pIx (mVar 10) (mLit (.int 2)))))
 (mSeq (mIf (Jm (Qk (Ql (Z4 6) (Qb (mVar 11) (Qb (mVar 6) mNil))))) (mRet (mLit (.bl false))) QB)
 (mSeq (mAsg (gSet 12) (Ql ZQ (Qb (mVar 0) (Qb (mOpA pTup (Qb (mVar 7) (Qb (mVar 8) (Qb (mVar 9) mNil)))) (Qb (mVar 2) (Qb (mOp2 pSub (mOp1 pNeg (mLit (.int 1))) (mOp2 pMod (mVar 4) (mLit (.int 3)))) mNil))))))
 (mSeq (mIf (Qk (mOp2 pEq (mVar 4) (mLit (.int 0)))) (mRet (Ql (Z4 6) (Qb (mVar 12) (Qb (mVar 6) mNil)))) QB)
 (mRet (mAnd (mOp2 pEq (mVar 12) (mLit (.str "too long"))) (mOp2 pEq (Ql ZQ (Qb (mVar 0) (Qb (mOpA pTup (Qb (mVar 7) (Qb (mVar 8) (Qb (mVar 9) mNil)))) (Qb (mVar 2) (Qb (mOp2 pSub (mVar 4) (mLit (.int 1))) mNil))))) (mLit (.str "too long"))))))))))))))))))
noncomputable def Qci:MF:=mDef 3 10 Qch
noncomputable def QgW:MS:=(mSeq (mAsg (Yl [(gSet 2),(gSet 3),(gSet 4)]) (mVar 1))
 (mSeq (mAsg (gSet 5) (mOpA newL (Qb (mVar 3) (Qb (mVar 4) mNil))))
 (mSeq (mAsg (gSet 6) (mOp2 pMod (mVar 0) (mLit (.int 2))))
 (mSeq (mAsg (gSet 7) (mOp2 pIx (mVar 5) (mVar 6)))
 (mSeq (mAsg (gSet 8) (mOp2 pMod (mOp2 QN (mVar 0) (mLit (.int 2))) (mLit (.int 5))))
 (mSeq (mIf (Qk (mOp2 pEq (mVar 8) (mLit (.int 3)))) (mRet (mOpA pTup (Qb (mOp2 pSub (mOp1 pNeg (mLit (.int 1))) (mOp2 pMod (mOp2 QN (mVar 0) (mLit (.int 10))) (mLit (.int 9)))) (Qb (mVar 3) (Qb (mVar 4) mNil))))) QB)
 (mSeq (mIf (mOrT (Qk (mOp2 pEq (mVar 8) (mLit (.int 2)))) (Qk (mOp2 pEq (mVar 7) (mOpA newL mNil)))) (mSeq (Z1 (mVar 5) (mVar 6) (mOp2 pAdd (mVar 7) (mOpA newL (Qb (mOpA pTup (Qb (mLit (.int 0)) (Qb (mOp2 pAdd (mLit (.int 1)) (mOp2 pMod (mOp2 QN (mVar 0) (mLit (.int 10))) (mLit (.int 5)))) mNil))) mNil))))
 (mRet (mOpA pTup (Qb (mVar 2) (Qb (mOp2 pIx (mVar 5) (mLit (.int 0))) (Qb (mOp2 pIx (mVar 5) (mLit (.int 1))) mNil)))))) QB)
 (mSeq (mAsg (gSet 9) (mOp2 pMod (mOp2 QN (mVar 0) (mLit (.int 10))) (mOp1 pLen (mVar 7))))
 (mSeq (mAsg (Yl [(gSet 10),(gSet 11)]) (mOp2 pIx (mVar 7) (mVar 9)))
 (mSeq (mAsg (gSet 12) (mOpA newL (Qb (mOpA newL (Qb (mOpA pTup (Qb (mVar 10) (Qb (mOp1 pNeg (mOp2 pMod (mOp2 QN (mVar 0) (mLit (.int 100))) (mLit (.int 3)))) mNil))) mNil)) (Qb (mOpA newL (Qb (mOpA pTup (Qb (mVar 10) (Qb (mVar 11) mNil))) (Qb (mOpA pTup (Qb (mVar 10) (Qb (mLit (.int 1)) mNil))) mNil))) (Qb (mOpA newL mNil) (Qb (mOpA newL mNil) (Qb (mOpA newL (Qb (mOpA pTup (Qb (mOp2 pSub (mOp1 pNeg (mLit (.int 1))) (mOp2 pMod (mOp2 QN (mVar 0) (mLit (.int 100))) (mLit (.int 3)))) (Qb (mVar 11) mNil))) mNil)) mNil)))))))
 (mSeq (Z1 (mVar 5) (mVar 6) (mOp2 pAdd (mOp2 pAdd (ZU (mVar 7) Zi (Jc (mVar 9))) (mOp2 pIx (mVar 12) (mVar 8))) (ZU (mVar 7) (Jc (mOp2 pAdd (mVar 9) (mLit (.int 1)))) Zi)))
 (mRet (mOpA pTup (Qb (mVar 2) (Qb (mOp2 pIx (mVar 5) (mLit (.int 0))) (Qb (mOp2 pIx (mVar 5) (mLit (.int 1))) mNil))))))))))))))))
noncomputable def Ju:MF:=mDef 2 11 QgW
noncomputable def Qfa:MS:=(mSeq (mAsg (Yl [(gSet 4),(gSet 5),(gSet 6)]) (mVar 2))
 (mSeq (mIf (Qk (mOp2 pEq (mOp2 pMod (mVar 3) (mLit (.int 3))) (mLit (.int 0)))) (mRet (mOpA pTup (Qb (mOp2 pAdd (mOp1 pLen (mVar 1)) (mOp2 pMod (mOp2 QN (mVar 3) (mLit (.int 3))) (mLit (.int 3)))) (Qb (mVar 5) (Qb (mVar 6) mNil))))) QB)
 (mSeq (mIf (Qk (mOp2 pEq (mOp2 pMod (mVar 3) (mLit (.int 3))) (mLit (.int 1)))) (mRet (Ql Ju (Qb (mOp2 QN (mVar 3) (mLit (.int 3))) (Qb (mVar 2) mNil)))) QB)
 (mSeq (mAsg (gSet 7) (mOpA newL (Qb (mOpA pTup (Qb (mOp2 pAdd (mOp1 pLen (mOp2 pIx (mVar 1) (mLit (.int 0)))) (mOp2 pMod (mOp2 QN (mVar 3) (mLit (.int 3))) (mLit (.int 3)))) (Qb (mOp2 pAdd (mLit (.int 1)) (mOp2 pMod (mOp2 QN (mVar 3) (mLit (.int 9))) (mLit (.int 4)))) mNil))) mNil)))
 (mSeq (mIf (Qk (mOp2 pEq (mOp2 pMod (mOp2 QN (mVar 3) (mLit (.int 36))) (mLit (.int 2))) (mLit (.int 0)))) (mRet (mOpA pTup (Qb (mVar 4) (Qb (mOp2 pAdd (mVar 7) (mVar 5)) (Qb (mVar 6) mNil))))) QB)
 (mRet (mOpA pTup (Qb (mVar 4) (Qb (mVar 5) (Qb (mOp2 pAdd (mVar 6) (mVar 7)) mNil))))))))))
noncomputable def QaI:MF:=mDef 4 4 Qfa
noncomputable def Qad:MS:=(mIf (Jm (Qk (Ql Qci (Qb (mVar 3) (Qb (mVar 5) (Qb (mVar 6) mNil)))))) (mRet (mLit (.bl false))) QB)
noncomputable def Y5:MS:=(mSeq (mAsg (gSet 8) (Ql QI (Qb (mVar 0) (Qb (mVar 1) mNil))))
 (mSeq (mAsg (gSet 9) (Ql QaI (Qb (mVar 3) (Qb (mVar 2) (Qb (Ql JK (Qb (mVar 4) mNil)) (Qb (mVar 8) mNil))))))
 (mIf (Qk (mOp2 pNe (Ql ZQ (Qb (mVar 3) (Qb (mVar 9) (Qb (mOp2 pMod (mOp2 QN (mVar 8) (mLit (.int 50))) (mLit (.int 9))) (Qb (mLit (.int 0)) mNil))))) (mLit (.str "no stretches")))) (mRet (mLit (.bl false))) QB)))
noncomputable def Qcj:MS:=(mSeq (mAsg (gSet 2) (Ql Ji (Qb (mVar 0) (Qb (mVar 1) mNil))))
 (mSeq (mAsg (gSet 3) (Qdj 11 Zt (Qb (mVar 2) mNil)))
 (mSeq (mAsg (gSet 4) (Ql Qcg (Qb (mVar 0) (Qb (mVar 1) (Qb (mVar 2) (Qb (mOp2 pSub (mOp2 pMod (Ql QI (Qb (mVar 0) (Qb (mVar 1) mNil))) (mLit (.int 41))) (mLit (.int 20))) mNil))))))
 (mSeq (mAsg (gSet 5) (Ql Qdx (Qb (mVar 2) (Qb (mVar 4) (Qb (mLit (.int 40)) mNil)))))
 (mSeq (mFor (QM (mOp2 pAdd (mOpA newL (Qb (mLit (.int 40)) (Qb (mOp1 pNeg (mOp2 pMod (Ql QI (Qb (mVar 0) (Qb (mVar 1) mNil))) (mLit (.int 7)))) mNil))) (YH (Qs (mLit (.int 3))) 1 [0,1] (gSet 0) Yr (mOp2 pMod (Ql QI (Qb (mVar 1) (Qb (mVar 2) mNil))) (mLit (.int 41)))))) (gSet 6) Qad)
 (mSeq (mFor (Qs (mLit (.int 2))) (gSet 7) Y5)
 (mRet (mLit (.bl true)))))))))
noncomputable def Qck:MF:=mDef 2 8 Qcj
noncomputable def Qf2:MS:=(mIf (Jm (Qk (Ql Qck (Qb (mVar 0) (Qb (mVar 1) mNil))))) (mRet (mLit (.bl false))) QB)
noncomputable def QoD:MS:=(mSeq (mAsg (gSet 1) (mOpA newL (Qb (mLit (.int 0)) mNil)))
 (mSeq (mFor (Qs (mOp2 pAdd (mLit (.int 1)) (mOp2 QN (mOp1 pLen (ZU (mVar 0) Zi (Jc (mLit (.int 63))))) (mLit (.int 32))))) (gSet 2) Qf2)
 (mRet (mLit (.bl true)))))
noncomputable def Qj0:MF:=mDef 1 2 QoD
structure Keeps(S:List Nat)(g g':G):Prop where
 len:g.length<=g'.length
 at':∀n o,n∉S->g[n]?=some o->g'[n]?=some o
theorem Keeps.refl{S:List Nat}{g:G}:Keeps S g g:=⟨Uh _,λ_ _ _ h=>h⟩
theorem Keeps.trans{S:List Nat}{g g1 g2:G}(a:Keeps S g g1)(b:Keeps S g1 g2):Keeps S g g2:=⟨Uv a.len b.len,λn o h e=>b.at' n o h (a.at' n o h e)⟩
theorem Keeps.mono{S T:List Nat}{g g1:G}(a:Keeps S g g1)(h:∀n∈S,n∈T):Keeps T g g1:=⟨a.len,λn o q e=>a.at' n o (λz=>q (h n z)) e⟩
theorem Keeps.all{S:List Nat}{g g1:G}(a:Keeps [] g g1):Keeps S g g1:=a.mono (by simp)
theorem Keeps.push{S:List Nat}{g:G}(o:GO):Keeps S g (g++[o]):=⟨by simp,λn u _ e=>by
 have hl:n<g.length:=(Uj.mp e).1
 rw[Uw hl];exact e⟩
theorem Keeps.set{g:G}(n:Nat)(o:GO):Keeps [n] g (g.set n o):=⟨by simp,λm u h e=>by
 rw[Ug (λz=>h (by simp[z]))];exact e⟩
structure KeepsN(k:Nat)(S:List Nat)(g g':G):Prop where
 len:g.length<=g'.length
 at':∀n o,n<k->n∉S->g[n]?=some o->g'[n]?=some o
theorem KeepsN.refl{k:Nat}{S:List Nat}{g:G}:KeepsN k S g g:=⟨Uh _,λ_ _ _ _ h=>h⟩
theorem KeepsN.trans{k:Nat}{S:List Nat}{g g1 g2:G}(a:KeepsN k S g g1)(b:KeepsN k S g1 g2):KeepsN k S g g2:=⟨Uv a.len b.len,λn o l h e=>b.at' n o l h (a.at' n o l h e)⟩
theorem Keeps.n{k:Nat}{S T:List Nat}{g g1:G}(a:Keeps S g g1)(h:∀n∈S,n<k->n∈T):KeepsN k T g g1:=⟨a.len,λn o l q e=>a.at' n o (λz=>q (h n z l)) e⟩
theorem KeepsN.mono{j k:Nat}{S T:List Nat}{g g1:G}(a:KeepsN k S g g1)(hj:j<=k)(h:∀n∈S,n<j->n∈T):KeepsN j T g g1:=⟨a.len,λn o l q e=>a.at' n o (by omega) (λz=>q (h n z l)) e⟩
theorem KeepsN.keeps{S:List Nat}{g g1:G}(a:KeepsN g.length S g g1):Keeps S g g1:=⟨a.len,λn o q e=>a.at' n o (Uj.mp e).1 q e⟩
theorem Qq{g:G}(o:GO):(g++[o])[g.length]?=some o:=by simp
theorem Q2{g:G}{n:Nat}{o:GO}(h:g[n]?=some o):n<g.length:=(Uj.mp h).1
theorem QA{g:G}{n:Nat}{o u:GO}(h:g[n]?=some o):(g.set n u)[n]?=some u:=by rw[UZ (Q2 h)]
noncomputable def Qj1:Out->Prop
 |.rt _ _=>True
 |.raise _ _ _=>True
 |.stuck=>True
 |_=>False
theorem Qap{src:Src}{t:MG}{body:MS}{n:Nat}(I:Nat->S3->G->Prop)(R:Out->Prop)(step:∀i σ g,i<n->I i σ g->∃d σ1,src.at' g i=some (some d)/\t d σ=some σ1/\((∃σ2 g2,(body σ1 g=.nx σ2 g2\/body σ1 g=.ct σ2 g2)/\I (i+1) σ2 g2)\/(Qj1 (body σ1 g)/\R (body σ1 g))))(stop:∀σ g,I n σ g->src.at' g n=some none):∀(f i:Nat)(σ:S3)(g:G),n-i<f->i<=n->I i σ g->(∃σ' g',forL src t body f i σ g=.nx σ' g'/\I n σ' g')\/(Qj1 (forL src t body f i σ g)/\R (forL src t body f i σ g))
 |0,_,_,_,h,_,_=>by omega
 |f+1,i,σ,g,hf,hi,h=>by
  unfold forL
  by_cases e:i=n
  ·subst e
   rw[stop σ g h]
   exact .inl ⟨σ,g,rfl,h⟩
  ·obtain⟨d,σ1,h1,h2,h3⟩:=step i σ g (by omega) h
   rw[h1]
   dsimp only
   rw[h2]
   dsimp only
   rcases h3 with⟨σ2,g2,h3|h3,h4⟩|⟨h3,h4⟩
   ·rw[h3];exact Qap I R step stop f (i+1) σ2 g2 (by omega) (by omega) h4
   ·rw[h3];exact Qap I R step stop f (i+1) σ2 g2 (by omega) (by omega) h4
   ·cases hb:body σ1 g with
    |rt d g'=>rw[hb]at h4;exact .inr ⟨trivial,h4⟩
    |raise x σ' g'=>rw[hb]at h4;exact .inr ⟨trivial,h4⟩
    |nx _ _=>rw[hb]at h3;exact h3.elim
    |bk _ _=>rw[hb]at h3;exact h3.elim
    |ct _ _=>rw[hb]at h3;exact h3.elim
    |stuck=>rw[hb]at h4;exact .inr ⟨trivial,h4⟩
theorem Z5{t:MG}{body:MS}{lo:Int}{n:Nat}{σ:S3}{g:G}(I:Nat->S3->G->Prop)(h0:I 0 σ g)(step:∀i σ g,i<n->I i σ g->∃σ1 σ2 g2,t (.int (lo+i)) σ=some σ1/\body σ1 g=.nx σ2 g2/\I (i+1) σ2 g2):∃σ' g',forL (QX lo n) t body (n+1) 0 σ g=.nx σ' g'/\I n σ' g':=by
 have:=Qap (src:=QX lo n) (t:=t) (body:=body) (n:=n) I (λ_=>False) (λi σ g hi h=>by
  obtain⟨σ1,σ2,g2,a,b,c⟩:=step i σ g hi h
  exact⟨.int (lo+i),σ1,by simp[QX,hi],a,.inl ⟨σ2,g2,.inl b,c⟩⟩) (λσ g _=>by simp[QX]) (n+1) 0 σ g (by omega) (by omega) h0
 rcases this with h|h
 ·exact h
 ·exact h.2.elim
theorem Qep{t:MG}{body:MS}{ds:List D}{σ:S3}{g:G}(I:Nat->S3->G->Prop)(R:Out->Prop)(h0:I 0 σ g)(step:∀i d σ g,ds[i]?=some d->I i σ g->∃σ1,t d σ=some σ1/\((∃σ2 g2,body σ1 g=.nx σ2 g2/\I (i+1) σ2 g2)\/(Qj1 (body σ1 g)/\R (body σ1 g)))):
  (∃σ' g',forL ⟨λ_ i=>some ds[i]?,ds.length⟩ t body (ds.length+1) 0 σ g=.nx σ' g'/\I ds.length σ' g')\/(Qj1 (forL ⟨λ_ i=>some ds[i]?,ds.length⟩ t body (ds.length+1) 0 σ g)/\R (forL ⟨λ_ i=>some ds[i]?,ds.length⟩ t body (ds.length+1) 0 σ g)) :=
 Qap (src:=⟨λ_ i=>some ds[i]?,ds.length⟩) (t:=t) (body:=body) (n:=ds.length) I R (λi σ g hi h=>by
  obtain⟨σ1,a,b⟩:=step i ds[i] σ g (by simp[hi]) h
  refine⟨ds[i],σ1,by simp[hi],a,?_⟩
  rcases b with⟨σ2,g2,b,c⟩|b
  ·exact .inl ⟨σ2,g2,.inl b,c⟩
  ·exact .inr b) (λσ g _=>by simp) (ds.length+1) 0 σ g (by omega) (by omega) h0
theorem Qfb{src:Src}{t:MG}{body:MS}{n:Nat}{σ:S3}{g:G}(hn:src.top=n)(I:Nat->S3->G->Prop)(h0:I 0 σ g)(step:∀i σ g,i<n->I i σ g->∃d σ1 σ2 g2,src.at' g i=some (some d)/\t d σ=some σ1/\body σ1 g=.nx σ2 g2/\I (i+1) σ2 g2)(stop:∀σ g,I n σ g->src.at' g n=some none):∃σ' g',forL src t body (src.top+1) 0 σ g=.nx σ' g'/\I n σ' g':=by
 rw[hn]
 have:=Qap (src:=src) (t:=t) (body:=body) (n:=n) I (λ_=>False) (λi σ g hi h=>by
  obtain⟨d,σ1,σ2,g2,a,b,c,e⟩:=step i σ g hi h
  exact⟨d,σ1,a,b,.inl ⟨σ2,g2,.inl c,e⟩⟩) stop (n+1) 0 σ g (by omega) (by omega) h0
 rcases this with h|h
 ·exact h
 ·exact h.2.elim
theorem Z6{src:Src}{t:MG}{c:MT}{e:ME}{n:Nat}(I:Nat->S3->G->List D->Prop)(step:∀i σ g acc,i<n->I i σ g acc->∃d σ1 g1,src.at' g i=some (some d)/\t d σ=some σ1/\((∃y g2,c σ1 g=.ok true g1/\e σ1 g1=.ok y g2/\I (i+1) σ1 g2 (acc++[y]))\/(c σ1 g=.ok false g1/\I (i+1) σ1 g1 acc)))(stop:∀σ g acc,I n σ g acc->src.at' g n=some none):∀(f i:Nat)(σ:S3)(g:G)(acc:List D),n-i<f->i<=n->I i σ g acc->∃ds σ' g',Jn src t c e f i σ g acc=.ok ds g'/\I n σ' g' ds
 |0,_,_,_,_,h,_,_=>by omega
 |f+1,i,σ,g,acc,hf,hi,h=>by
  unfold Jn
  by_cases q:i=n
  ·subst q
   rw[stop σ g acc h]
   exact⟨acc,σ,g,rfl,h⟩
  ·obtain⟨d,σ1,g1,h1,h2,h3⟩:=step i σ g acc (by omega) h
   rw[h1]
   dsimp only
   rw[h2]
   dsimp only
   rcases h3 with⟨y,g2,h3,h4,h5⟩|⟨h3,h5⟩
   ·rw[h3];dsimp only;rw[Uc rfl,h4];exact Z6 I step stop f (i+1) σ1 g2 _ (by omega) (by omega) h5
   ·rw[h3];dsimp only;rw[Ud Ue];exact Z6 I step stop f (i+1) σ1 g1 _ (by omega) (by omega) h5
theorem QgX{ds:List D}{e:ME}{no:Nat}{σ:S3}{g:G}{f:D->D}(hz:ds.length<=SZ)(he:∀d∈ds,∀g1,Keeps [] g g1->∃g2,e ((List.replicate (no+1) none++σ).set 0 (some d)) g1=.ok (f d) g2/\Keeps [] g1 g2):
  ∃g',Jn ⟨λ_ i=>some ds[i]?,ds.length⟩ (gSet 0) Yr e (ds.length+1) 0 (List.replicate (no+1) none++σ) g []=.ok (ds.map f) g'/\Keeps [] g g':=by
 obtain⟨xs,σ',g',h1,h2,h3,h4⟩:=Z6 (src:=⟨λ_ i=>some ds[i]?,ds.length⟩) (t:=gSet 0) (c:=Yr) (e:=e) (n:=ds.length)
  (λi σ' g1 acc=>acc=(ds.take i).map f/\Keeps [] g g1/\∃u,σ'=(List.replicate (no+1) none++σ).set 0 u) (λi σ' g1 acc hi h=>by
   obtain⟨h1,h2,u,h3⟩:=h
   obtain⟨g2,k1,k2⟩:=he ds[i] (UJ hi) g1 h2
   refine⟨ds[i],_,g1,by simp[hi],rfl,.inl ⟨f ds[i],g2,rfl,?_,?_,h2.trans k2,some ds[i],?_⟩⟩
   ·subst h3;rw[Rf];exact k1
   ·rw[h1,UW hi,T3];rfl
   ·subst h3;rw[Rf]) (λσ g acc _=>by simp) (ds.length+1) 0 (List.replicate (no+1) none++σ) g [] (by omega) (by omega) ⟨by simp,.refl,none,by simp[UQ]⟩
 refine⟨g',?_,h3⟩
 rw[h1,h2,TJ]
noncomputable def QaZ(d:D)(n:Int):Bool:=match d with
 |.int i=>decide (0<=i/\i<n)
 |_=>false
noncomputable def QnC:D->Bool
 |.int _=>true
 |_=>false
theorem Qcl(d:D)(n:Int)(g:G)(t:Ty)(_:tyOf g d=some t)(hp:QnC d=true:=by rfl):ZV [d,.int n] g=.ok (.bl (QaZ d n)) g:=by
 cases d with
 |int i =>
  have c:Qc2 pLe pLt (mLit (.int 0)) (mVar 0) (mVar 1) [some (.int i),some (.int n)] g=.ok (.bl (decide (0<=i/\i<n))) g:=by
   unfold Qc2
   rw[show mLit (D.int 0) [some (D.int i),some (D.int n)] g=.ok (.int 0) g from rfl,Res.bind_ok,show mVar 0 [some (D.int i),some (D.int n)] g=.ok (.int i) g from rfl,Res.bind_ok,show pLe (.int 0) (.int i) g=.ok (.bl (decide (0<=i))) g from rfl,Res.bind_ok]
   by_cases h0:0<=i
   ·rw[Uz h0]
    show Res.ok (D.bl (decide (i<n))) g=_
    by_cases h1:i<n
    ·rw[Uz h1,Uz ⟨h0,h1⟩]
    ·rw[Ul h1,Ul λz=>h1 z.2]
   ·rw[Ul h0,Ul λz=>h0 z.1]
  have a1:Ql Jt (Qb (mVar 0) mNil) [some (.int i),some (.int n)] g=.ok (.bl true) g:=rfl
  show(match mRet (mAnd (Ql Jt (Qb (mVar 0) mNil)) (Qc2 pLe pLt (mLit (.int 0)) (mVar 0) (mVar 1))) [some (.int i),some (.int n)] g with
   |.nx _ g'=>Res.ok D.non g'
   |.rt d g'=>.ok d g'
   |.raise e _ g'=>.raise e g'
   |_=>.stuck)=_
  unfold mRet mAnd
  rw[a1,Res.bind_ok]
  dsimp only
  rw[Uc rfl,c]
  rfl
 |_=>cases hp
theorem s_l:Str.ofString "l" = ⟨#[108]⟩:=by decide +kernel
theorem s_r:Str.ofString "r" = ⟨#[114]⟩:=by decide +kernel
noncomputable def wayD:D->Bool
 |.str s=>s == ⟨#[108]⟩ || s == ⟨#[114]⟩
 |_=>false
noncomputable def entD(d:D)(states signs:Int):Bool:=match d with
 |.non=>true
 |.tup [a,b,c]=>QaZ a signs && wayD b && QaZ c states
 |_=>false
def thingD(_:G)(d:D):Prop:=d=.non\/∃(i j:Int)(w:Str),d=.tup [.int i,.str w,.int j]
theorem QlT(s:Str)(g:G):pIn false (.str s) (.tup [.str ⟨#[108]⟩,.str ⟨#[114]⟩]) g=.ok (.bl (wayD (.str s))) g:=by
 show Res.ok (D.bl ((⟨#[108]⟩ == s) || ((⟨#[114]⟩ == s) || false))) g=.ok (.bl ((s == ⟨#[108]⟩) || (s == ⟨#[114]⟩))) g
 rw[show((⟨#[108]⟩:Str) == s)=(s == ⟨#[108]⟩) from BEq.comm,show((⟨#[114]⟩:Str) == s)=(s == ⟨#[114]⟩) from BEq.comm,Bool.or_false]
theorem Qfc(d:D)(states signs:Int)(g:G)(h:thingD g d):YD [d,.int states,.int signs] g=.ok (.bl (entD d states signs)) g:=by
 rcases h with rfl|⟨i,j,w,rfl⟩
 ·rfl
 ·have a1:Ql ZV (Qb (mOp2 pIx (mVar 0) (mLit (.int 0))) (Qb (mVar 2) mNil)) [some (.tup [.int i,.str w,.int j]),some (.int states),some (.int signs)] g=.ok (.bl (QaZ (.int i) signs)) g:=Qcl (.int i) signs g .int rfl
  have a3:Ql ZV (Qb (mOp2 pIx (mVar 0) (mLit (.int 2))) (Qb (mVar 1) mNil)) [some (.tup [.int i,.str w,.int j]),some (.int states),some (.int signs)] g=.ok (.bl (QaZ (.int j) states)) g:=Qcl (.int j) states g .int rfl
  have a2:mOp2 (pIn false) (mOp2 pIx (mVar 0) (mLit (.int 1))) (mOpA pTup (Qb (mLit (.str "l")) (Qb (mLit (.str "r")) mNil))) [some (.tup [.int i,.str w,.int j]),some (.int states),some (.int signs)] g=.ok (.bl (wayD (.str w))) g:=by
   rw[s_l,s_r];exact QlT w g
  show(match (mRet (mAnd (Ql ZV (Qb (mOp2 pIx (mVar 0) (mLit (.int 0))) (Qb (mVar 2) mNil))) (mAnd (mOp2 (pIn false) (mOp2 pIx (mVar 0) (mLit (.int 1))) (mOpA pTup (Qb (mLit (.str "l")) (Qb (mLit (.str "r")) mNil)))) (Ql ZV (Qb (mOp2 pIx (mVar 0) (mLit (.int 2))) (Qb (mVar 1) mNil)))))) [some (.tup [.int i,.str w,.int j]),some (.int states),some (.int signs)] g with
   |.nx _ g'=>Res.ok D.non g'
   |.rt d g'=>.ok d g'
   |.raise e _ g'=>.raise e g'
   |_=>.stuck)=.ok (.bl (QaZ (.int i) signs && wayD (.str w) && QaZ (.int j) states)) g
  unfold mRet mAnd
  rw[a1,Res.bind_ok]
  dsimp only
  cases QaZ (.int i) signs
  ·rfl
  ·rw[Uc rfl,a2,Res.bind_ok]
   dsimp only
   cases wayD (.str w)
   ·rfl
   ·rw[Uc rfl,a3];rfl
theorem Keeps.ty{g g1:G}(k:Keeps [] g g1){d:D}{t:Ty}(h:tyOf g d=some t):tyOf g1 d=some t:=by
 cases d with
 |ref n =>
  unfold tyOf at h ⊢
  dsimp only at h ⊢
  cases hg:g[n]? with
  |none=>rw[hg]at h;cases h
  |some o=>rw[hg]at h;rw[k.at' n o (by simp) hg];exact h
 |_=>exact h
theorem thingD.mono{g g1:G}{d:D}(_:Keeps [] g g1)(h:thingD g d):thingD g1 d:=h
theorem Qf3{α:Type}(f:α->Bool):∀ts:List α,allB (ts.map λd=>D.bl (f d))=some (ts.all f)
 |[]=>rfl
 |t::ts=>by simp[allB,Qf3 f ts]
noncomputable def YQ(n m:Nat)(r:List D):Bool:=r.length == m && r.all λd=>entD d n m
noncomputable def Qa0(rows:List (List D)):Bool:=match rows with
 |[]=>false
 |r::_=>r.length != 0 && rows.all (YQ rows.length r.length)
theorem Qit(σ:S3)(g:G):QbZ σ g=.stuck:=rfl
theorem eq_int(i j:Int)(g:G):pEq (.int i) (.int j) g=.ok (.bl (i == j)) g:=rfl
theorem ne_int(i j:Int)(g:G):pNe (.int i) (.int j) g=.ok (.bl (!(i == j))) g:=rfl
theorem QlU(n m:Nat)(ts:List D)(x:D)(g:G)(hz:ts.length<=SZ)(h:∀d∈ts,thingD g d):
  ∃g',Keeps [] g g'/\mOp1 pAll (YH (QM (mVar 3)) 1 [1,2] (gSet 0) Yr (Ql YD (Qb (mVar 0) (Qb (mVar 1) (Qb (mVar 2) mNil))))) [some x,some (.int n),some (.int m),some (.tup ts)] g=.ok (.bl (ts.all λd=>entD d n m)) g':=by
 obtain⟨g1,h1,k1⟩:=QgX (ds:=ts) (e:=Ql YD (Qb (mVar 0) (Qb (mVar 1) (Qb (mVar 2) mNil)))) (no:=0) (σ:=[some (.int n),some (.int m)]) (g:=g) (f:=λd=>.bl (entD d n m)) hz
  (λd hd g1 k=>⟨g1,by simp[Ql,Qb,mNil,mVar,Res.bind,Qfc d n m g1 ((h d hd).mono k)],.refl⟩)
 refine⟨g1++[.lst (ts.map λd=>.bl (entD d n m))],k1.trans (.push _),?_⟩
 have h1:Jn ⟨λ_ i=>some ts[i]?,ts.length⟩ (gSet 0) Yr (Ql YD (Qb (mVar 0) (Qb (mVar 1) (Qb (mVar 2) mNil)))) (ts.length+1) 0 [none,some (.int n),some (.int m)] g []=.ok (ts.map λd=>.bl (entD d n m)) g1:=h1
 simp[mOp1,YH,QM,mVar,Res.bind,J0,hz,capt,h1,pAll,Qf3]
theorem Qj2(n m:Nat)(ts:List D)(x:D)(g:G)(hz:ts.length<=SZ)(h:∀d∈ts,thingD g d):
  ∃g',Keeps [] g g'/\Zb [some x,some (.int n),some (.int m),some (.tup ts)] g=if YQ n m ts=true then .nx [some x,some (.int n),some (.int m),some (.tup ts)] g' else .stuck:=by
 by_cases hl:ts.length=m
 ·obtain⟨g2,k2,e2⟩:=QlU n m ts x g hz h
  refine⟨g2,k2,?_⟩
  have hl':((ts.length:Int) == (m:Int))=true:=by simp[hl]
  have gr:YQ n m ts=ts.all λd=>entD d n m:=by simp[YQ,hl]
  rw[gr]
  simp only[Zb,mSeq,mIf,Qk,mOp2,mOp1,mVar,Res.bind,TC,Tf,pLen,ne_int,hl',Bool.not_true,T6,Wd,QB,Jm]
  simp only[mOp1,Res.bind]at e2
  rw[e2]
  cases (ts.all λd=>entD d n m) <;> simp[QbZ]
 ·refine⟨g,.refl,?_⟩
  have hl':((ts.length:Int) == (m:Int))=false:=by simp;omega
  have gr:YQ n m ts=false:=by
   have:(ts.length == m)=false:=by simp[hl]
   simp only[YQ,this,Bool.false_and]
  rw[gr]
  simp only[Zb,mSeq,mIf,Qk,mOp2,mOp1,mVar,Res.bind,TC,Tf,pLen,ne_int,hl',Bool.not_false,Rv,Qit,T6,Wd]
theorem QdA(rows:List (List D))(g:G)(hz:∀r∈rows,r.length<=SZ)(h:∀r∈rows,∀d∈r,thingD g d):
  ∃g',Keeps [] g g'/\ZX [.tup (rows.map .tup)] g=if Qa0 rows=true then .ok .non g' else .stuck:=by
 cases rows with
 |nil=>exact⟨g,.refl,by simp[ZX,mDef,ZW,mSeq,mIf,Qk,mOp2,mOp1,mVar,mLit,Res.bind,pLen,eq_int,Qit,Qa0]⟩
 |cons r rest =>
  have e0:¬((rest.length:Int)+1=0):=by omega
  have e1:(0:Int)<(rest.length:Int)+1:=by omega
  by_cases hr:r.length=0
  ·refine⟨g,.refl,?_⟩
   simp[ZX,mDef,ZW,mSeq,mIf,Qk,mOp2,mOp1,mVar,mLit,Res.bind,pLen,eq_int,Qit,Qa0,hr,e0,e1,QB,mAsg,gSet,pIx,atD,ixD]
  ·have hr':¬((r.length:Int)=0):=by omega
   have hrn:¬r=[]:=λz=>hr (by rw[z];rfl)
   have hd0:Qa0 (r::rest)=(r::rest).all (YQ (r::rest).length r.length):=by simp[Qa0,hr]
   have loop:=Qep (t:=gSet 3) (ds:=(r::rest).map D.tup) (σ:=[some (.tup ((r::rest).map .tup)),some (.int (r::rest).length),some (.int r.length),none]) (g:=g) (body:=Zb)
    (λi σ g1=>Keeps [] g g1/\(∃u,σ=[some (.tup ((r::rest).map .tup)),some (.int (r::rest).length),some (.int r.length),u])/\∀x∈(r::rest).take i,YQ (r::rest).length r.length x=true)
    (λo=>o=.stuck/\∃x∈r::rest,YQ (r::rest).length r.length x=false) ⟨.refl,⟨none,rfl⟩,by simp⟩ (λi d σ g1 hd ⟨k,⟨u,hσ⟩,hg⟩=>by
     rw[Up]at hd
     cases hx:(r::rest)[i]? with
     |none=>rw[hx]at hd;cases hd
     |some ts =>
      rw[hx]at hd
      cases hd
      have hm:ts∈r::rest:=Rk hx
      subst hσ
      refine⟨_,rfl,?_⟩
      obtain⟨g2,k2,e2⟩:=Qj2 (r::rest).length r.length ts (.tup ((r::rest).map .tup)) g1 (hz ts hm) λd hd=>(h ts hm d hd).mono k
      simp only[List.set]
      rw[e2]
      cases ha:YQ (r::rest).length r.length ts with
      |true =>
       left
       refine⟨_,g2,by rw[Uc rfl],k.trans k2,⟨_,rfl⟩,λx hx'=>?_⟩
       rw[List.take_succ,hx]at hx'
       rcases UX.mp hx' with z|z
       ·exact hg x z
       ·have:x=ts:=by simpa using z
        rw[this];exact ha
      |false =>
       right
       rw[Ud Ue]
       exact⟨trivial,rfl,ts,hm,ha⟩)
   have fin:ZW [some (.tup ((r::rest).map .tup)),none,none,none] g=forL ⟨λ_ i=>some ((r::rest).map D.tup)[i]?,((r::rest).map D.tup).length⟩ (gSet 3) Zb (((r::rest).map D.tup).length+1) 0 [some (.tup ((r::rest).map .tup)),some (.int (r::rest).length),some (.int r.length),none] g:=by
    simp[ZW,mSeq,mIf,Qk,mOp2,mOp1,mVar,mLit,Res.bind,pLen,eq_int,e0,QB,mAsg,gSet,pIx,atD,ixD,e1,hr',hrn,mFor,QM,J0]
   have ap:ZX [.tup ((r::rest).map .tup)] g=match ZW [some (.tup ((r::rest).map .tup)),none,none,none] g with
    |.nx _ g'=>.ok .non g'
    |.rt d g'=>.ok d g'
    |.raise e _ g'=>.raise e g'
    |_=>.stuck:=rfl
   rw[ap,fin]
   rcases loop with⟨σ',g',h1,k1,_,h2⟩|⟨_,h1,x,hx,hg⟩
   ·refine⟨g',k1,?_⟩
    have:Qa0 (r::rest)=true:=by
     rw[hd0,UI]
     intro x hx
     exact h2 x (by rw[Um,TJ];exact hx)
    rw[Uc this,h1]
   ·refine⟨g,.refl,?_⟩
    have:¬Qa0 (r::rest)=true:=by
     rw[hd0,UI]
     intro z
     rw[z x hx]at hg;cases hg
    rw[Ud this,h1]
theorem Keeps.seq{g g1:G}(k:Keeps [] g g1){d:D}{p:Bool×List D}(h:QG g d=some p):QG g1 d=some p:=by
 cases d with
 |ref n =>
  unfold QG at h ⊢
  dsimp only at h ⊢
  cases hg:g[n]? with
  |none=>rw[hg]at h;cases h
  |some o=>rw[hg]at h;rw[k.at' n o (by simp) hg];exact h
 |_=>exact h
theorem QnD{g:G}{d:D}{b:Bool}{ds:List D}(h:QG g d=some (b,ds)):∃src,J0 d g=.ok src g/\src.top=ds.length/\∀g1 i,QG g1 d=some (b,ds)->src.at' g1 i=some ds[i]?:=by
 cases d with
 |tup es=>cases h;exact⟨_,rfl,rfl,λ_ _ _=>rfl⟩
 |fl es=>cases h;exact⟨_,rfl,rfl,λ_ _ _=>rfl⟩
 |ref n =>
  unfold QG at h
  dsimp only at h
  cases hg:g[n]? with
  |none=>rw[hg]at h;cases h
  |some o =>
   rw[hg]at h
   cases o with
   |lst es =>
    cases h
    refine⟨_,by unfold J0;dsimp only;rw[hg],rfl,λg1 i h1=>?_⟩
    unfold QG at h1
    dsimp only at h1 ⊢
    cases hg1:g1[n]? with
    |none=>rw[hg1]at h1;cases h1
    |some o1 =>
     rw[hg1]at h1
     cases o1 with
     |lst es1=>cases h1;rfl
     |_=>cases h1
   |_=>cases h
 |_=>cases h
theorem Qj3{src:Src}{ds:List D}{e:ME}{no:Nat}{σ:S3}{g:G}{f:D->D}(ht:src.top=ds.length)(hs:∀g1 i,Keeps [] g g1->src.at' g1 i=some ds[i]?)(he:∀d∈ds,∀g1,Keeps [] g g1->∃g2,e ((List.replicate (no+1) none++σ).set 0 (some d)) g1=.ok (f d) g2/\Keeps [] g1 g2):
  ∃g',Jn src (gSet 0) Yr e (src.top+1) 0 (List.replicate (no+1) none++σ) g []=.ok (ds.map f) g'/\Keeps [] g g':=by
 obtain⟨xs,σ',g',h1,h2,h3,h4⟩:=Z6 (src:=src) (t:=gSet 0) (c:=Yr) (e:=e) (n:=ds.length)
  (λi σ' g1 acc=>acc=(ds.take i).map f/\Keeps [] g g1/\∃u,σ'=(List.replicate (no+1) none++σ).set 0 u) (λi σ' g1 acc hi h=>by
   obtain⟨h1,h2,u,h3⟩:=h
   obtain⟨g2,k1,k2⟩:=he ds[i] (UJ hi) g1 h2
   refine⟨ds[i],_,g1,by rw[hs g1 i h2];simp[hi],rfl,.inl ⟨f ds[i],g2,rfl,?_,?_,h2.trans k2,some ds[i],?_⟩⟩
   ·subst h3;rw[Rf];exact k1
   ·rw[h1,UW hi,T3];rfl
   ·subst h3;rw[Rf]) (λσ g1 acc h=>by rw[hs g1 _ h.2.1];simp) (src.top+1) 0 (List.replicate (no+1) none++σ) g [] (by omega) (by omega) ⟨by simp,.refl,none,by simp[UQ]⟩
 refine⟨g',?_,h3⟩
 rw[h1,h2,TJ]
def rowsOf(g:G)(d:D)(rows:List (List D)):Prop:=∃b ds,QG g d=some (b,ds)/\ds.length=rows.length/\∀(i:Nat) x r,ds[i]?=some x->rows[i]?=some r->∃c,QG g x=some (c,r)
theorem rowsOf.mono{g g1:G}{d:D}{rows:List (List D)}(k:Keeps [] g g1)(h:rowsOf g d rows):rowsOf g1 d rows:=by
 obtain⟨b,ds,h1,h2,h3⟩:=h
 exact⟨b,ds,k.seq h1,h2,λi x r hx hr=>let ⟨c,q⟩:=h3 i x r hx hr;⟨c,k.seq q⟩⟩
theorem Qiu{g:G}{d:D}{b:Bool}{ds:List D}(h:QG g d=some (b,ds)):QaR d g=.ok (.tup ds) g:=by
 cases d with
 |tup es=>cases h;rfl
 |fl es=>cases h;rfl
 |ref n =>
  unfold QG at h
  dsimp only at h
  cases hg:g[n]? with
  |none=>rw[hg]at h;cases h
  |some o =>
   rw[hg]at h
   cases o with
   |lst es=>cases h;simp[QaR,hg]
   |_=>cases h
 |_=>cases h
theorem Zc:Str.ofString "table" = ⟨#[116,97,98,108,101]⟩:=by decide +kernel
noncomputable def JO(rows:List (List D)):GO:=.ins 11 [(Str.ofString "table",.tup (rows.map .tup))]
theorem QlV(m:Nat)(d:D)(rows:List (List D))(g:G)(hm:g[m]?=some (.ins 11 []))(hr:rowsOf g d rows)(hz:∀r∈rows,r.length<=SZ)(hl:rows.length<=SZ)(h:∀r∈rows,∀d∈r,thingD g d):
  ∃g',Keeps [] g g'/\Zt [.ref m,d] g=if Qa0 rows=true then .ok .non (g'.set m (JO rows)) else .stuck:=by
 obtain⟨b,ds,h1,h2,h3⟩:=hr
 obtain⟨src,s1,s2,s3⟩:=QnD h1
 have mp:∀x∈ds,∃c r,QG g x=some (c,r):=λx hx=>by
  obtain⟨i,hi,rfl⟩:=U7 hx
  obtain⟨c,q⟩:=h3 i ds[i] (rows[i]'(by omega)) (by simp[hi]) (by simp[show i<rows.length by omega])
  exact⟨c,_,q⟩
 obtain⟨g1,c1,k1⟩:=Qj3 (src:=src) (ds:=ds) (e:=mOp1 QaR (mVar 0)) (no:=0) (σ:=[]) (g:=g) (f:=λx=>.tup (((QG g x).map (·.2)).getD [])) s2 (λg1 i k=>s3 g1 i (k.seq h1)) (λx hx g1 k=>by
  obtain⟨c,r,q⟩:=mp x hx
  refine⟨g1,?_,.refl⟩
  simp[mOp1,mVar,Res.bind,Qiu (k.seq q),q])
 have em:(ds.map λx=>D.tup (((QG g x).map (·.2)).getD []))=rows.map .tup:=by
  apply List.ext_getElem
  ·simp[h2]
  ·intro i hi hi'
   simp only[Um]at hi hi'
   obtain⟨c,q⟩:=h3 i ds[i] rows[i] (by simp[hi]) (by simp[hi'])
   simp[q]
 rw[em]at c1
 have c1:Jn src (gSet 0) Yr (mOp1 QaR (mVar 0)) (src.top+1) 0 [none] g []=.ok (rows.map .tup) g1:=c1
 have k2:Keeps [] g (g1++[.lst (rows.map .tup)]):=k1.trans (.push _)
 obtain⟨g3,k3,c3⟩:=QdA rows (g1++[.lst (rows.map .tup)]) hz λr hr d hd=>(h r hr d hd).mono k2
 refine⟨g3,k2.trans k3,?_⟩
 have hz2:src.top<=SZ:=by omega
 have hm3:=(k2.trans k3).at' m _ (by simp) hm
 simp[Zt,mDef,QaA,mSeq,mAsg,mOp1,YH,QM,mVar,Res.bind,s1,hz2,capt,c1,QaR,gSet,Zh,Ql,Qb,mNil,c3]
 by_cases hg:Qa0 rows=true
 ·simp[hg,QW,mVar,hm3,putG,JO]
 ·simp[hg]
theorem QlW(d:D)(rows:List (List D))(g:G)(hr:rowsOf g d rows)(hz:∀r∈rows,r.length<=SZ)(hl:rows.length<=SZ)(h:∀r∈rows,∀d∈r,thingD g d)(a:MA)(σ:S3)(g0:G)(ha:a σ g0=.ok [d] g):
  ∃g',Keeps [] g g'/\Qdj 11 Zt a σ g0=(if Qa0 rows=true then .ok (.ref g.length) g' else .stuck)/\(Qa0 rows=true->g'[g.length]?=some (JO rows)):=by
 have kp:Keeps [] g (g++[.ins 11 []]):=.push _
 obtain⟨g',k',e'⟩:=QlV g.length d rows (g++[.ins 11 []]) (Qq _) (hr.mono kp) hz hl λr hr d hd=>(h r hr d hd).mono kp
 by_cases hg:Qa0 rows=true
 ·rw[Uc hg]at e'
  refine⟨g'.set g.length (JO rows),?_,?_,λ_=>?_⟩
  ·refine⟨by rw[Ti];exact Uv kp.len k'.len,λn o _ e=>?_⟩
   have hn:n<g.length:=Q2 e
   rw[Ug (by omega)]
   exact(kp.trans k').at' n o (by simp) e
  ·simp[Qdj,ha,Res.bind,e',hg]
  ·rw[UZ]
   have:=k'.len
   simp at this
   omega
 ·rw[Ud hg]at e'
  exact⟨g',kp.trans k',by simp[Qdj,ha,Res.bind,e',hg],λz=>absurd z hg⟩
theorem Y6{a b:MS}{σ σ':S3}{g g':G}(h:a σ g=.nx σ' g'):mSeq a b σ g=b σ' g':=by unfold mSeq;rw[h]
theorem Qae{a b:MS}{σ:S3}{d:D}{g g':G}(h:a σ g=.rt d g'):mSeq a b σ g=.rt d g':=by unfold mSeq;rw[h]
theorem Qeq{a b:MS}{σ σ':S3}{x:Xc}{g g':G}(h:a σ g=.raise x σ' g'):mSeq a b σ g=.raise x σ' g':=by unfold mSeq;rw[h]
theorem Zq{i:Nat}{a:ME}{σ:S3}{d:D}{g g':G}(h:a σ g=.ok d g'):mAsg (gSet i) a σ g=.nx (σ.set i (some d)) g':=by unfold mAsg;rw[h];rfl
theorem Qf4{c:MT}{a b:MS}{σ:S3}{g g':G}(h:c σ g=.ok true g'):mIf c a b σ g=a σ g':=by unfold mIf;rw[h];rfl
theorem Qer{c:MT}{a b:MS}{σ:S3}{g g':G}(h:c σ g=.ok false g'):mIf c a b σ g=b σ g':=by unfold mIf;rw[h];rfl
theorem JP{f:MF}{a:MA}{σ:S3}{ds:List D}{g g':G}(h:a σ g=.ok ds g'):Ql f a σ g=f ds g':=by unfold Ql;rw[h];rfl
theorem Qfd{a:ME}{σ:S3}{d:D}{g g':G}(h:a σ g=.ok d g'):Zh a σ g=.nx σ g':=by unfold Zh;rw[h]
theorem Qbs{a:ME}{σ:S3}{d:D}{g g':G}(h:a σ g=.ok d g'):mRet a σ g=.rt d g':=by unfold mRet;rw[h]
theorem QF{k n:Nat}{b:MS}{ds:List D}{d:D}{g g':G}(hl:ds.length=k)(h:b (ds.map some++List.replicate n none) g=.rt d g'):mDef k n b ds g=.ok d g':=by unfold mDef;rw[Uc hl,h]
theorem QnE(ns:List Int)(i:Int)(h:0<ns.length):∃x,atD (ns.map D.int) (i%ns.length)=some (.int x):=by
 have h1:0<=i % (ns.length:Int):=UB _ (by omega)
 have h2:i % (ns.length:Int)<ns.length:=UE _ (by omega)
 have h3:(i % (ns.length:Int)).toNat<ns.length:=by omega
 refine⟨ns[(i % (ns.length:Int)).toNat],?_⟩
 unfold atD ixD
 rw[Um,Uc h1,Uc h2]
 simp[h3]
theorem ix0{a:Nat}{d:D}{g:G}(h:g[a]?=some (.lst [d])):pIx (.ref a) (.int 0) g=.ok d g:=by
 unfold pIx;dsimp only;rw[h];rfl
theorem ixfl{ds:List D}{i:Int}{d:D}{g:G}(h:atD ds i=some d):pIx (.fl ds) (.int i) g=.ok d g:=by
 unfold pIx;dsimp only;rw[h]
theorem Qiv(c:Int)(x:D)(a:Nat)(k:Int)(g:G)(ga:g[a]?=some (.lst [.int k]))(hk:0<=k)(hk2:k<1000000001):∃m,0<=m/\m<1999999973/\(mSeq (mAsg (gSet 3) (mOp2 pMod (mOp2 pMul (mOp2 pAdd (mOp2 pAdd (mOp2 pMod (mVar 2) (mLit (.int 2147483647))) (mOp2 pMul (mOp2 pMul (mOp2 pIx (mVar 1) (mLit (.int 0))) (mOp2 pIx (mVar 1) (mLit (.int 0)))) (mLit (.int 7919)))) (mLit (.int 11))) (mLit (.int 48271))) (mLit (.int 2147483647))))
      (mRet (mOp2 pMod (mOp2 pMul (mVar 3) (mVar 3)) (mLit (.int 1999999973))))) [some x,some (.ref a),some (.int c),none] g=.rt (.int m) g:=by
  have c1:cM k:=⟨by omega,by omega⟩
  have c2:cM 7919:=⟨by decide,by decide⟩
  have c3:cM 48271:=⟨by decide,by decide⟩
  have hr:=UE ((c%2147483647+k*k*7919+11)*48271) (show(0:Int)<2147483647 by decide)
  have hr0:=UB ((c%2147483647+k*k*7919+11)*48271) (show(2147483647:Int)≠0 by decide)
  have c4:cM (((c%2147483647+k*k*7919+11)*48271) % 2147483647):=⟨by omega,by omega⟩
  refine⟨((c%2147483647+k*k*7919+11)*48271) % 2147483647*(((c%2147483647+k*k*7919+11)*48271) % 2147483647) % 1999999973,UB _ (by decide),UE _ (by decide),?_⟩
  have e1:(mOp2 pMod (mOp2 pMul (mOp2 pAdd (mOp2 pAdd (mOp2 pMod (mVar 2) (mLit (.int 2147483647))) (mOp2 pMul (mOp2 pMul (mOp2 pIx (mVar 1) (mLit (.int 0))) (mOp2 pIx (mVar 1) (mLit (.int 0)))) (mLit (.int 7919)))) (mLit (.int 11))) (mLit (.int 48271))) (mLit (.int 2147483647))) [some x,some (.ref a),some (.int c),none] g=.ok (.int (((c%2147483647+k*k*7919+11)*48271) % 2147483647)) g:=by
    simp[mOp2,mVar,mLit,Res.bind,ix0 ga,pMod,pMul,pAdd,c1,c2,c3]
  rw[Y6 (Zq e1)]
  generalize ((c%2147483647+k*k*7919+11)*48271) % 2147483647=r at c4 ⊢
  refine Qbs ?_
  simp[mOp2,mVar,mLit,Res.bind,pMod,pMul,c4]
theorem YR(ns:List Int)(a:Nat)(k:Int)(g:G)(hg:g[a]?=some (.lst [.int k]))(hk:0<=k)(hk2:k<1000000000):
  ∃m,0<=m/\m<1999999973/\QI [.fl (ns.map .int),.ref a] g=.ok (.int m) (g.set a (.lst [.int (k+1)])):=by
 have s1:Z1 (mVar 1) (mLit (.int 0)) (mOp2 pAdd (mOp2 pIx (mVar 1) (mLit (.int 0))) (mLit (.int 1))) [some (.fl (ns.map .int)),some (.ref a),none,none] g=.nx [some (.fl (ns.map .int)),some (.ref a),none,none] (g.set a (.lst [.int (k+1)])):=by
  simp[Z1,mOp2,mVar,mLit,Res.bind,ix0 hg,pAdd,hg,ixD]
 have ga:(g.set a (.lst [.int (k+1)]))[a]?=some (.lst [.int (k+1)]):=QA hg
 generalize g.set a (.lst [.int (k+1)])=g1 at s1 ga ⊢
 have s3:∃c,mAsg (gSet 2) (mIfE (Qk (mOp2 pGt (mOp1 pLen (mVar 0)) (mLit (.int 0)))) (mOp2 pIx (mVar 0) (mOp2 pMod (mOp2 pIx (mVar 1) (mLit (.int 0))) (mOp1 pLen (mVar 0)))) (mLit (.int 0))) [some (.fl (ns.map .int)),some (.ref a),none,none] g1=.nx [some (.fl (ns.map .int)),some (.ref a),some (.int c),none] g1:=by
  by_cases hl:0<ns.length
  ·obtain⟨x,hx⟩:=QnE ns (k+1) hl
   have hl':(0:Int)<(ns.length:Int):=by omega
   refine⟨x,Zq ?_⟩
   have t1:Qk (mOp2 pGt (mOp1 pLen (mVar 0)) (mLit (.int 0))) [some (.fl (ns.map .int)),some (.ref a),none,none] g1=.ok true g1:=by simp[Qk,mOp2,mOp1,mVar,mLit,Res.bind,pLen,pGt,pCmp,hl]
   unfold mIfE
   rw[t1,Res.bind_ok,Uc rfl]
   simp only[mOp2,mOp1,mVar,mLit,Res.bind,TC,Tf,ix0 ga,pLen,pMod,Um,hl',Rv,ixfl hx]
  ·cases ns with
   |nil=>exact⟨0,rfl⟩
   |cons x r=>simp at hl
 obtain⟨c,s3⟩:=s3
 obtain⟨m,m1,m2,m3⟩:=Qiv c (.fl (ns.map .int)) a (k+1) g1 ga (by omega) (by omega)
 refine⟨m,m1,m2,QF rfl ?_⟩
 show Qdw [some (.fl (ns.map .int)),some (.ref a),none,none] g=_
 unfold Qdw
 rw[Y6 s1,Y6 s3,m3]
def entOk(d:D)(n m:Nat):Prop:=d=.non\/∃(i j:Int)(w:Str),d=.tup [.int i,.str w,.int j]/\0<=i/\i<m/\0<=j/\j<n/\(w=⟨#[108]⟩\/w=⟨#[114]⟩)
theorem entOk.ent{d:D}{n m:Nat}(h:entOk d n m):entD d n m=true:=by
 rcases h with rfl|⟨i,j,w,rfl,h1,h2,h3,h4,h5⟩
 ·rfl
 ·rcases h5 with rfl|rfl <;> simp[entD,QaZ,wayD,h1,h2,h3,h4]
theorem entOk.thing{d:D}{n m:Nat}{g:G}(h:entOk d n m):thingD g d:=by
 rcases h with h|⟨i,j,w,h,_⟩
 ·exact .inl h
 ·exact .inr ⟨i,j,w,h⟩
theorem s_lr:Str.ofString "lr" = ⟨#[108,114]⟩:=by decide +kernel
theorem QnF(i:Int)(g:G):∃w,pIx (.str "lr") (.int (i%2)) g=.ok (.str w) g/\(w=⟨#[108]⟩\/w=⟨#[114]⟩):=by
 rw[s_lr]
 rcases(by omega:i%2=0\/i%2=1) with e|e
 ·rw[e];exact⟨_,rfl,.inl rfl⟩
 ·rw[e];exact⟨_,rfl,.inr rfl⟩
theorem Qcm{n:Nat}{ds:List D}{y:D}{σ:S3}{g:G}{i j:Nat}(hi:σ[i]?=some (some (.ref n)))(hj:σ[j]?=some (some y))(h:g[n]?=some (.lst ds))(hz:ds.length<SZ):
  Zh (Zv (mVar i) (mVar j)) σ g=.nx σ (g.set n (.lst (ds++[y]))):=by
 refine Qfd (d:=.non) ?_
 simp[Zv,mVar,hi,hj,Res.bind,h,hz]
theorem Qiw(ns:List Int)(a l t:Nat)(k:Int)(n m:Nat)(x5 x7 x8 x9:Option D)(row:List D)(g:G)(hn:0<n)(hm:0<m)(ga:g[a]?=some (.lst [.int k]))(gl:g[l]?=some (.lst row))(hal:a≠l)(hk:0<=k)(hk2:k<1000000000)(hz:row.length<SZ):
  ∃d x8',entOk d n m/\Zz [some (.fl (ns.map .int)),some (.ref a),some (.int n),some (.int m),some (.ref t),x5,some (.ref l),x7,x8,x9] g=.nx [some (.fl (ns.map .int)),some (.ref a),some (.int n),some (.int m),some (.ref t),x5,some (.ref l),x7,x8',some d] ((g.set a (.lst [.int (k+1)])).set l (.lst (row++[d]))):=by
 obtain⟨mm,m1,m2,e⟩:=YR ns a k g ga hk hk2
 have gl1:(g.set a (.lst [.int (k+1)]))[l]?=some (.lst row):=by rw[Ug hal];exact gl
 generalize g.set a (.lst [.int (k+1)])=g1 at e gl1 ⊢
 obtain⟨w,hw,ww⟩:=QnF (mm/100) g1
 have hm':(0:Int)<m:=by omega
 have hn':(0:Int)<n:=by omega
 have s1:mAsg (gSet 8) (Ql QI (Qb (mVar 0) (Qb (mVar 1) mNil))) [some (.fl (ns.map .int)),some (.ref a),some (.int n),some (.int m),some (.ref t),x5,some (.ref l),x7,x8,x9] g=.nx [some (.fl (ns.map .int)),some (.ref a),some (.int n),some (.int m),some (.ref t),x5,some (.ref l),x7,some (.int mm),x9] g1 :=
  Zq (by rw[JP (ds:=[.fl (ns.map .int),.ref a]) (g':=g) rfl];exact e)
 have v2:(mOpA pTup (Qb (mOp2 pMod (mOp2 QN (mVar 8) (mLit (.int 9))) (mVar 3)) (Qb (mOp2 pIx (mLit (.str "lr")) (mOp2 pMod (mOp2 QN (mVar 8) (mLit (.int 100))) (mLit (.int 2)))) (Qb (mOp2 pMod (mOp2 QN (mVar 8) (mLit (.int 300))) (mVar 2)) mNil)))) [some (.fl (ns.map .int)),some (.ref a),some (.int n),some (.int m),some (.ref t),x5,some (.ref l),x7,some (.int mm),x9] g1=.ok (.tup [.int (mm/9%m),.str w,.int (mm/300%n)]) g1:=by
  simp[mOpA,Qb,mNil,mOp2,mVar,mLit,Res.bind,QN,pMod,hm',hn',hw,pTup,SZ,hm,hn]
 have s2:mAsg (gSet 9) (mOpA pTup (Qb (mOp2 pMod (mOp2 QN (mVar 8) (mLit (.int 9))) (mVar 3)) (Qb (mOp2 pIx (mLit (.str "lr")) (mOp2 pMod (mOp2 QN (mVar 8) (mLit (.int 100))) (mLit (.int 2)))) (Qb (mOp2 pMod (mOp2 QN (mVar 8) (mLit (.int 300))) (mVar 2)) mNil)))) [some (.fl (ns.map .int)),some (.ref a),some (.int n),some (.int m),some (.ref t),x5,some (.ref l),x7,some (.int mm),x9] g1=.nx [some (.fl (ns.map .int)),some (.ref a),some (.int n),some (.int m),some (.ref t),x5,some (.ref l),x7,some (.int mm),some (.tup [.int (mm/9%m),.str w,.int (mm/300%n)])] g1:=Zq v2
 have t3:Qk (mOp2 pEq (mOp2 pMod (mVar 8) (mLit (.int 9))) (mLit (.int 0))) [some (.fl (ns.map .int)),some (.ref a),some (.int n),some (.int m),some (.ref t),x5,some (.ref l),x7,some (.int mm),some (.tup [.int (mm/9%m),.str w,.int (mm/300%n)])] g1=.ok (mm%9 == 0) g1:=by
  simp[Qk,mOp2,mVar,mLit,Res.bind,pMod,eq_int]
 unfold Zz
 by_cases h9:mm%9=0
 ·refine⟨.non,some (.int mm),.inl rfl,?_⟩
  rw[Y6 s1,Y6 s2,Y6 (σ':=[some (.fl (ns.map .int)),some (.ref a),some (.int n),some (.int m),some (.ref t),x5,some (.ref l),x7,some (.int mm),some .non]) (g':=g1) ?_]
  ·exact Qcm rfl rfl gl1 hz
  ·rw[Qf4 (g':=g1) (t3.trans (by simp[h9]))];rfl
 ·refine⟨.tup [.int (mm/9%m),.str w,.int (mm/300%n)],some (.int mm),.inr ⟨_,_,w,rfl,UB _ (by omega),UE _ hm',UB _ (by omega),UE _ hn',ww⟩,?_⟩
  rw[Y6 s1,Y6 s2,Y6 (σ':=[some (.fl (ns.map .int)),some (.ref a),some (.int n),some (.int m),some (.ref t),x5,some (.ref l),x7,some (.int mm),some (.tup [.int (mm/9%m),.str w,.int (mm/300%n)])]) (g':=g1) ?_]
  ·exact Qcm rfl rfl gl1 hz
  ·rw[Qer (g':=g1) (t3.trans (by simp[h9]))];rfl
theorem QgY{n:Nat}(h:n<=1000):n<SZ:=Nat.lt_of_le_of_lt h (by decide)
theorem QaB{n:Nat}(h:n<=1000):inR (n:Int):=by
 have:(n:Int)<=1000:=by exact_mod_cast h
 constructor <;> omega
theorem ZM{a:ME}{n:Nat}{σ:S3}{g g':G}(h:a σ g=.ok (.int n) g')(hr:inR (n:Int)):Qs a σ g=.ok (QX 0 n) g':=by
 unfold Qs;rw[h,Res.bind_ok];dsimp only;rw[Uc hr,RO]
theorem Z9{it:MI}{t:MG}{body:MS}{src:Src}{σ:S3}{g g':G}(h:it σ g=.ok src g'):mFor it t body σ g=forL src t body (src.top+1) 0 σ g':=by
 unfold mFor;rw[h]
theorem Qj4(ns:List Int)(a l t:Nat)(k:Int)(n m:Nat)(x5 x7 x8 x9:Option D)(g:G)(hn:0<n)(hm:0<m)(hm8:m<=8)(ga:g[a]?=some (.lst [.int k]))(gl:g[l]?=some (.lst []))(hal:a≠l)(hk:0<=k)(hk2:k+m<1000000000):
  ∃row y7 y8 y9 g',mFor (Qs (mVar 3)) (gSet 7) Zz [some (.fl (ns.map .int)),some (.ref a),some (.int n),some (.int m),some (.ref t),x5,some (.ref l),x7,x8,x9] g=.nx [some (.fl (ns.map .int)),some (.ref a),some (.int n),some (.int m),some (.ref t),x5,some (.ref l),y7,y8,y9] g' /\
   row.length=m/\(∀d∈row,entOk d n m)/\Keeps [a,l] g g'/\g'[a]?=some (.lst [.int (k+m)])/\g'[l]?=some (.lst row):=by
 have hr:inR (m:Int):=QaB (by omega)
 have hf:mFor (Qs (mVar 3)) (gSet 7) Zz [some (.fl (ns.map .int)),some (.ref a),some (.int n),some (.int m),some (.ref t),x5,some (.ref l),x7,x8,x9] g=forL (QX 0 m) (gSet 7) Zz (m+1) 0 [some (.fl (ns.map .int)),some (.ref a),some (.int n),some (.int m),some (.ref t),x5,some (.ref l),x7,x8,x9] g:=Z9 (ZM rfl hr)
 rw[hf]
 obtain⟨σ',g',e,row,y7,y8,y9,h1,h2,h3,h4,h5,h6⟩:=Z5 (t:=gSet 7) (body:=Zz) (lo:=0) (n:=m) (σ:=[some (.fl (ns.map .int)),some (.ref a),some (.int n),some (.int m),some (.ref t),x5,some (.ref l),x7,x8,x9]) (g:=g)
  (λi σ g1=>∃row y7 y8 y9,σ=[some (.fl (ns.map .int)),some (.ref a),some (.int n),some (.int m),some (.ref t),x5,some (.ref l),y7,y8,y9]/\row.length=i/\(∀d∈row,entOk d n m)/\Keeps [a,l] g g1/\g1[a]?=some (.lst [.int (k+i)])/\g1[l]?=some (.lst row))
  ⟨[],x7,x8,x9,rfl,rfl,by simp,.refl,by simpa using ga,gl⟩ (λi σ g1 hi ⟨row,y7,y8,y9,h1,h2,h3,h4,h5,h6⟩=>by
   subst h1
   obtain⟨d,x8',hd,e⟩:=Qiw ns a l t (k+i) n m x5 (some (.int (0+i))) y8 y9 row g1 hn hm h5 h6 hal (by omega) (by omega) (QgY (by omega))
   refine⟨_,_,_,rfl,e,row++[d],_,x8',_,rfl,by simp[h2],?_,?_,?_,?_⟩
   ·intro x hx
    rcases UX.mp hx with z|z
    ·exact h3 x z
    ·rw[Uu.mp z];exact hd
   ·exact h4.trans (((Keeps.set a _).mono (by simp)).trans ((Keeps.set l _).mono (by simp)))
   ·rw[Ug (Ne.symm hal),QA h5]
    simp;omega
   ·refine QA (o:=.lst row) ?_
    rw[Ug hal];exact h6)
 exact⟨row,y7,y8,y9,g',by rw[e,h1],h2,h3,h4,h5,h6⟩
theorem om1{a b c:Nat}(h1:a<b)(h2:b<c):a≠c:=by omega
theorem om2{k x:Int}(h1:0<=k)(h2:0<=x):0<=k+x:=by omega
theorem om3{k x:Int}{m:Nat}(h1:k<900000000)(h2:x<=96)(h3:m<=8):k+x+m<1000000000:=by omega
theorem om7{a b c:Nat}{ds:List D}(h2:ds.length=a)(hi:a<b)(h3:b<=12):ds.length<=1000:=by omega
def tabOf(N:Nat)(g:G)(t:Nat)(rows:List (List D)):Prop:=N<=t/\∃ds,g[t]?=some (.lst ds)/\ds.length=rows.length/\∀(i:Nat) x r,ds[i]?=some x->rows[i]?=some r->∃n,x=.ref n/\N<=n/\n≠t/\g[n]?=some (.lst r)
theorem tabOf.rows{N:Nat}{g:G}{t:Nat}{rows:List (List D)}(h:tabOf N g t rows):rowsOf g (.ref t) rows:=by
 obtain⟨_,ds,h1,h2,h3⟩:=h
 refine⟨true,ds,by simp[QG,h1],h2,λi x r hx hr=>?_⟩
 obtain⟨n,rfl,_,_,h4⟩:=h3 i x r hx hr
 exact⟨true,by simp[QG,h4]⟩
theorem tabOf.mono{N:Nat}{S:List Nat}{g g1:G}{t:Nat}{rows:List (List D)}(h:tabOf N g t rows)(k:Keeps S g g1)(hS:∀n∈S,n<N):tabOf N g1 t rows:=by
 obtain⟨h0,ds,h1,h2,h3⟩:=h
 refine⟨h0,ds,k.at' t _ (λz=>by have:=hS t z;omega) h1,h2,λi x r hx hr=>?_⟩
 obtain⟨n,h4,h5,h6,h7⟩:=h3 i x r hx hr
 exact⟨n,h4,h5,h6,k.at' n _ (λz=>by have:=hS n z;omega) h7⟩
theorem Qj5(ns:List Int)(a:Nat)(k:Int)(n m:Nat)(g:G)(hn:0<n)(hm:0<m)(hn12:n<=12)(hm8:m<=8)(ga:g[a]?=some (.lst [.int k]))(hk:0<=k)(hk2:k<900000000):
  ∃rows g',Qcd [.fl (ns.map .int),.ref a,.int n,.int m] g=.ok (.ref g.length) g'/\Keeps [a] g g'/\g'[a]?=some (.lst [.int (k+n*m)])/\tabOf g.length g' g.length rows/\rows.length=n/\(∀r∈rows,r.length=m)/\∀r∈rows,∀d∈r,entOk d n m:=by
 have hr:inR (n:Int):=QaB (by omega)
 have hal:a<g.length:=Q2 ga
 have hz0:([]:List D).length<=SZ:=by simp
 have s1:mAsg (gSet 4) (mOpA newL mNil) [some (.fl (ns.map .int)),some (.ref a),some (.int n),some (.int m),none,none,none,none,none,none] g=.nx [some (.fl (ns.map .int)),some (.ref a),some (.int n),some (.int m),some (.ref g.length),none,none,none,none,none] (g++[.lst []]) :=
  Zq (by simp[mOpA,mNil,Res.bind,newL])
 have kp:Keeps [a] g (g++[.lst []]):=.push _
 have ga1:(g++[.lst []])[a]?=some (.lst [.int k]):=(Keeps.push (S:=[]) (.lst [])).at' a _ (by simp) ga
 have gt1:(g++[.lst []])[g.length]?=some (.lst []):=Qq _
 have hl1:g.length<(g++[GO.lst []]).length:=by simp
 generalize g++[.lst []]=g1 at s1 kp ga1 gt1 hl1
 obtain⟨σ',g',e,ds,rows,y5,y6,y7,y8,y9,h1,h2,h3,h4,h5,h6,h7,h8,h9⟩:=Z5 (t:=gSet 5) (body:=Y2) (lo:=0) (n:=n) (σ:=[some (.fl (ns.map .int)),some (.ref a),some (.int n),some (.int m),some (.ref g.length),none,none,none,none,none]) (g:=g1)
  (λi σ g2=>∃ds rows y5 y6 y7 y8 y9,σ=[some (.fl (ns.map .int)),some (.ref a),some (.int n),some (.int m),some (.ref g.length),y5,y6,y7,y8,y9]/\ds.length=i/\rows.length=i/\Keeps [a,g.length] g1 g2/\g2[a]?=some (.lst [.int (k+i*m)])/\g2[g.length]?=some (.lst ds) /\
   (∀(i:Nat) x r,ds[i]?=some x->rows[i]?=some r->∃n,x=.ref n/\g.length<n/\g2[n]?=some (.lst r))/\(∀r∈rows,r.length=m)/\∀r∈rows,∀d∈r,entOk d n m)
  ⟨[],[],none,none,none,none,none,rfl,rfl,rfl,.refl,by simpa using ga1,gt1,by simp,by simp,by simp⟩ (λi σ g2 hi ⟨ds,rows,y5,y6,y7,y8,y9,h1,h2,h3,h4,h5,h6,h7,h8,h9⟩=>by
   subst h1
   have hl2:g.length<g2.length:=Q2 h6
   have q1:mAsg (gSet 6) (mOpA newL mNil) [some (.fl (ns.map .int)),some (.ref a),some (.int n),some (.int m),some (.ref g.length),some (.int (0+i)),y6,y7,y8,y9] g2=.nx [some (.fl (ns.map .int)),some (.ref a),some (.int n),some (.int m),some (.ref g.length),some (.int (0+i)),some (.ref g2.length),y7,y8,y9] (g2++[.lst []]) :=
    Zq (by simp[mOpA,mNil,Res.bind,newL])
   have k3:Keeps [] g2 (g2++[.lst []]):=.push _
   have gl3:(g2++[.lst []])[g2.length]?=some (.lst []):=Qq _
   generalize g2++[.lst []]=g3 at q1 k3 gl3
   have him:(i:Int)*m<=96:=by
    have:i*m<=12*8:=Nat.mul_le_mul (by omega) hm8
    exact_mod_cast this
   have him0:(0:Int)<=(i:Int)*m:=Int.mul_nonneg (by omega) (by omega)
   obtain⟨row,z7,z8,z9,g4,e4,r1,r2,r3,r4,r5⟩:=Qj4 ns a g2.length g.length (k+i*m) n m (some (.int (0+i))) y7 y8 y9 g3 hn hm hm8 (k3.at' a _ (by simp) h5) gl3 (om1 hal hl2) (om2 hk him0) (om3 hk2 him hm8)
   have gt4:g4[g.length]?=some (.lst ds):=r3.at' _ _ (by simp;omega) (k3.at' _ _ (by simp) h6)
   refine⟨_,[some (.fl (ns.map .int)),some (.ref a),some (.int n),some (.int m),some (.ref g.length),some (.int (0+i)),some (.ref g2.length),z7,z8,z9],g4.set g.length (.lst (ds++[.ref g2.length])),rfl,?_,ds++[.ref g2.length],rows++[row],_,_,z7,z8,z9,rfl,by simp[h2],by simp[h3],?_,?_,?_,?_,?_,?_⟩
   ·show Y2 [some (.fl (ns.map .int)),some (.ref a),some (.int n),some (.int m),some (.ref g.length),some (.int (0+i)),y6,y7,y8,y9] g2=_
    unfold Y2
    rw[Y6 q1,Y6 e4]
    exact Qcm rfl rfl gt4 (QgY (om7 (c:=0) h2 hi hn12))
   ·refine⟨by rw[Ti];exact Uv h4.len (Uv k3.len r3.len),λb o hb eb=>?_⟩
    have hb':b≠a/\b≠g.length:=by simpa using hb
    have e2:=h4.at' b o hb eb
    have:b<g2.length:=Q2 e2
    rw[Ug (Ne.symm hb'.2)]
    exact r3.at' b o (by simp;omega) (k3.at' b o (by simp) e2)
   ·rw[Ug (by omega),r4]
    have:k+(i:Int)*m+m=k+((i+1:Nat):Int)*m:=by
     rw[Int.natCast_add,Int.add_mul];simp;omega
    rw[this]
   ·exact QA gt4
   ·intro j x r hx hr'
    have key:∀b o,g.length<b->g2[b]?=some o->(g4.set g.length (.lst (ds++[.ref g2.length])))[b]?=some o:=λb o hb eb=>by
     have:b<g2.length:=Q2 eb
     rw[Ug (by omega)]
     exact r3.at' b o (by simp;omega) (k3.at' b o (by simp) eb)
    by_cases hj:j<i
    ·rw[Uw (by omega)]at hx hr'
     obtain⟨b,hb1,hb2,hb3⟩:=h7 j x r hx hr'
     exact⟨b,hb1,hb2,key b _ hb2 hb3⟩
    ·have hji:j=i:=by
      have:=(Uj.mp hx).1
      simp at this;omega
     subst hji
     rw[UD (by omega),h2]at hx
     rw[UD (by omega),h3]at hr'
     simp at hx hr'
     subst hx hr'
     exact⟨g2.length,rfl,hl2,by rw[Ug (by omega)];exact r5⟩
   ·intro r hr'
    rcases UX.mp hr' with z|z
    ·exact h8 r z
    ·rw[Uu.mp z];exact r1
   ·intro r hr'
    rcases UX.mp hr' with z|z
    ·exact h9 r z
    ·rw[Uu.mp z];exact r2)
 refine⟨rows,g',?_,?_,h5,⟨Uh _,ds,h6,by omega,λi x r hx hr'=>?_⟩,h3,h8,h9⟩
 ·refine QF rfl ?_
  show Qcc [some (.fl (ns.map .int)),some (.ref a),some (.int n),some (.int m),none,none,none,none,none,none] g=_
  unfold Qcc
  rw[Y6 s1,Y6 (σ':=σ') (g':=g') ?_]
  ·subst h1;rfl
  ·rw[<-e]
   exact Z9 (ZM rfl hr)
 ·refine⟨Uv kp.len h4.len,λb o hb eb=>?_⟩
  have:b<g.length:=Q2 eb
  exact h4.at' b o (by simp at hb ⊢;omega) (kp.at' b o hb eb)
 ·obtain⟨b,hb1,hb2,hb3⟩:=h7 i x r hx hr'
  exact⟨b,hb1,by omega,by omega,hb3⟩
theorem Qf{a b:MS}{σ:S3}{g:G}{R:Out}(σ':S3)(g':G)(h:a σ g=.nx σ' g')(h2:b σ' g'=R):mSeq a b σ g=R:=(Y6 h).trans h2
theorem ift{c:MT}{a b:MS}{σ:S3}{g:G}{R:Out}(g':G)(h:c σ g=.ok true g')(h2:a σ g'=R):mIf c a b σ g=R:=(Qf4 h).trans h2
theorem iff'{c:MT}{a b:MS}{σ:S3}{g:G}{R:Out}(g':G)(h:c σ g=.ok false g')(h2:b σ g'=R):mIf c a b σ g=R:=(Qer h).trans h2
theorem eq_str(s t:Str)(g:G):pEq (.str s) (.str t) g=.ok (.bl (s == t)) g:=rfl
theorem mulL{i j:Int}{g:G}(h:cM i):pMul (.int i) (.int j) g=.ok (.int (i*j)) g:=Uc (.inl h)
theorem mulR{i j:Int}{g:G}(h:cM j):pMul (.int i) (.int j) g=.ok (.int (i*j)) g:=Uc (.inr h)
theorem JY{k n:Nat}{b:MS}{ds:List D}{σ:S3}{g g':G}(hl:ds.length=k)(h:b (ds.map some++List.replicate n none) g=.nx σ g'):mDef k n b ds g=.ok .non g':=by unfold mDef;rw[Uc hl,h]
theorem ZA{k n:Nat}{b:MS}{ds:List D}{x:Xc}{σ:S3}{g g':G}(hl:ds.length=k)(h:b (ds.map some++List.replicate n none) g=.raise x σ g'):mDef k n b ds g=.raise x g':=by unfold mDef;rw[Uc hl,h]
theorem Yy{f:D->D->G->Res D}{a b:ME}{σ:S3}{x y:D}{g g1 g2:G}{R:Res D}(ha:a σ g=.ok x g1)(hb:b σ g1=.ok y g2)(h:f x y g2=R):mOp2 f a b σ g=R:=by unfold mOp2;rw[ha,Res.bind_ok,hb,Res.bind_ok,h]
theorem YS{f:D->G->Res D}{a:ME}{σ:S3}{x:D}{g g1:G}{R:Res D}(ha:a σ g=.ok x g1)(h:f x g1=R):mOp1 f a σ g=R:=by unfold mOp1;rw[ha,Res.bind_ok,h]
theorem Yu{a:ME}{σ:S3}{b:Bool}{g g1:G}(ha:a σ g=.ok (.bl b) g1):Qk a σ g=.ok b g1:=by unfold Qk;rw[ha,Res.bind_ok]
theorem QdB{a:ME}{r:MA}{x:D}{xs:List D}{σ:S3}{g g1 g2:G}(h:a σ g=.ok x g1)(h2:r σ g1=.ok xs g2):Qb a r σ g=.ok (x::xs) g2:=by
 unfold Qb;rw[h,Res.bind_ok,h2];rfl
theorem Qcn{n:Nat}{ds:List D}{y:D}{σ:S3}{g:G}{o e:ME}(ho:o σ g=.ok (.ref n) g)(h:g[n]?=some (.lst ds))(he:e σ g=.ok y g)(hz:ds.length<SZ):
  Zh (Zv o e) σ g=.nx σ (g.set n (.lst (ds++[y]))):=by
 refine Qfd (d:=.non) ?_
 simp[Zv,ho,he,Res.bind,h,hz]
theorem entOk.good{rows:List (List D)}{n m:Nat}(hn:0<n)(hm:0<m)(h1:rows.length=n)(h2:∀r∈rows,r.length=m)(h3:∀r∈rows,∀d∈r,entOk d n m):Qa0 rows=true:=by
 cases rows with
 |nil=>simp at h1;omega
 |cons q rest =>
  have hq:=h2 q (Ur ..)
  unfold Qa0
  rw[UH,UI]
  refine⟨by simp;intro z;rw[z]at hq;simp at hq;omega,λx hx=>?_⟩
  unfold YQ
  rw[UH,UI]
  exact⟨by simp[h2 x hx,hq],λd hd=>by rw[h1,hq];exact(h3 x hx d hd).ent⟩
theorem Qco{it:MI}{n:Nat}{cap:List Nat}{t:MG}{c:MT}{e:ME}{σ:S3}{g g1 g2:G}{src:Src}{ds:List D}{σ0:S3}(h1:it σ g=.ok src g1)(hz:src.top<=SZ)(hc:capt n cap σ=σ0)(h2:Jn src t c e (src.top+1) 0 σ0 g1 []=.ok ds g2):YH it n cap t c e σ g=.ok (.ref g2.length) (g2++[.lst ds]):=by
 simp only[YH,h1,hz,hc,h2,Rv]
theorem QlX{g:G}{d1 d2:D}{b1 b2:Bool}{xs ys:List D}(h1:QG g d1=some (b1,xs))(h2:QG g d2=some (b2,ys))(hl:xs.length=ys.length):
  ∃src,Qbq d1 d2 g=.ok src g/\src.top=xs.length/\∀g1,QG g1 d1=some (b1,xs)->QG g1 d2=some (b2,ys)->src.at' g1 xs.length=some none/\∀(i:Nat) x y,xs[i]?=some x->ys[i]?=some y->src.at' g1 i=some (some (.tup [x,y])):=by
 unfold Qbq
 rw[h1,h2]
 refine⟨_,rfl,by simp[hl],λg1 q1 q2=>⟨?_,λi x y hx hy=>?_⟩⟩
 ·dsimp only;rw[q1,q2];dsimp only;rw[UP (Uh _)]
 ·dsimp only;rw[q1,q2];dsimp only;rw[hx,hy]
theorem QnG{a:MT}{σ:S3}{g g1:G}(h1:a σ g=.ok true g1):Jm a σ g=.ok false g1:=by unfold Jm;rw[h1];rfl
noncomputable def srcL(a:Nat)(n:Nat):Src:=⟨λg i=>(match g[a]? with|some (.lst es)=>some es[i]? | _=>none),n⟩
noncomputable def rS:Str:=⟨#[114]⟩
theorem QlY{a b:MT}{σ:S3}{g g1 g2:G}(h1:a σ g=.ok false g1)(h2:b σ g1=.ok false g2):mOrT a b σ g=.ok false g2:=by
 unfold mOrT;rw[h1,Res.bind_ok,Ud Ue,h2]
theorem Qc9{t p:Nat}{ds:List D}{d:D}{g:G}(h:g[t]?=some (.lst ds))(hp:ds[p]?=some d):pIx (.ref t) (.int p) g=.ok d g:=by
 have hl:p<ds.length:=(Uj.mp hp).1
 unfold pIx;dsimp only;rw[h];dsimp only
 unfold atD ixD
 rw[Uc (by omega),Uc (by omega)]
 simp[hp]
theorem QnH{t:Nat}{i:Int}{ds:List D}{d:D}{g:G}(h:g[t]?=some (.lst ds))(h0:0<=i)(hp:ds[i.toNat]?=some d):pIx (.ref t) (.int i) g=.ok d g:=by
 have e:((i.toNat:Nat):Int)=i:=by omega
 rw[<-e];exact Qc9 h hp
theorem Qj6{n k:Nat}{ds:List D}{y:D}{σ:S3}{g g1:G}{o i v:ME}(hv:v σ g=.ok y g1)(ho:o σ g1=.ok (.ref n) g1)(hi:i σ g1=.ok (.int k) g1)(h:g1[n]?=some (.lst ds))(hk:k<ds.length):
  Z1 o i v σ g=.nx σ (g1.set n (.lst (ds.set k y))):=by
 unfold Z1
 rw[hv];dsimp only
 rw[ho];dsimp only
 rw[hi];dsimp only
 rw[h];dsimp only
 have:ixD ds.length (k:Int)=some k:=by unfold ixD;rw[Uc (by omega),Uc (by omega)];simp
 rw[this]
theorem YT{g:G}{l:Nat}{ds:List D}(h:g[l]?=some (.lst ds)):QG g (.ref l)=some (true,ds):=by unfold QG;dsimp only;rw[h]
section
variable{σ:S3}{g:G}
@[simp] theorem QnI{a b:MS}:mSeq a b σ g=(match a σ g with | .nx σ' g'=>b σ' g'|o=>o):=rfl
@[simp] theorem QoW{i:Nat}{a:ME}:mAsg (gSet i) a σ g=(match a σ g with | .ok d g'=>.nx (σ.set i (some d)) g' | .raise e g'=>.raise e σ g' | .stuck=>.stuck):=rfl
@[simp] theorem Qpb{c:MT}{a b:MS}:mIf c a b σ g=(match c σ g with | .ok t g'=>if t=true then a σ g' else b σ g' | .raise e g'=>.raise e σ g' | .stuck=>.stuck):=rfl
@[simp] theorem QoX{a:ME}:mRet a σ g=(match a σ g with | .ok d g'=>.rt d g' | .raise e g'=>.raise e σ g' | .stuck=>.stuck):=rfl
@[simp] theorem QoE{a:ME}:Zh a σ g=(match a σ g with | .ok _ g'=>.nx σ g' | .raise e g'=>.raise e σ g' | .stuck=>.stuck):=rfl
@[simp] theorem QoF:Qlt σ g=.rt .non g:=rfl
@[simp] theorem QoG:QB σ g=.nx σ g:=rfl
@[simp] theorem QkX{i:Nat}:mVar i σ g=(match σ[i]? with|some (some d)=>.ok d g|_=>.stuck):=rfl
@[simp] theorem QnJ{d:D}:mLit d σ g=.ok d g:=rfl
@[simp] theorem QnK{f:D->G->Res D}{a:ME}:mOp1 f a σ g=(match a σ g with | .ok x g1=>f x g1 | .raise e g'=>.raise e g' | .stuck=>.stuck):=by unfold mOp1 Res.bind;cases a σ g <;> rfl
@[simp] theorem QnL{f:D->D->G->Res D}{a b:ME}:mOp2 f a b σ g=(match a σ g with | .ok x g1=>(match b σ g1 with | .ok y g2=>f x y g2 | .raise e g'=>.raise e g' | .stuck=>.stuck) | .raise e g'=>.raise e g' | .stuck=>.stuck):=by unfold mOp2 Res.bind;cases a σ g with|ok x g1=>dsimp only;cases b σ g1 <;> rfl|_=>rfl
@[simp] theorem QoY:mNil σ g=.ok [] g:=rfl
@[simp] theorem QoH{a:ME}{r:MA}:Qb a r σ g=(match a σ g with | .ok x g1=>(match r σ g1 with | .ok xs g2=>.ok (x::xs) g2 | .raise e g'=>.raise e g' | .stuck=>.stuck) | .raise e g'=>.raise e g' | .stuck=>.stuck):=by unfold Qb Res.bind;cases a σ g with|ok x g1=>dsimp only;cases r σ g1 <;> rfl|_=>rfl
@[simp] theorem QoZ{f:List D->G->Res D}{a:MA}:mOpA f a σ g=(match a σ g with | .ok x g1=>f x g1 | .raise e g'=>.raise e g' | .stuck=>.stuck):=by unfold mOpA Res.bind;cases a σ g <;> rfl
@[simp] theorem QoI{f:MF}{a:MA}:Ql f a σ g=(match a σ g with | .ok x g1=>f x g1 | .raise e g'=>.raise e g' | .stuck=>.stuck):=by unfold Ql Res.bind;cases a σ g <;> rfl
@[simp] theorem Qix{a:ME}:Qk a σ g=(match a σ g with | .ok (.bl b) g1=>.ok b g1 | .raise e g'=>.raise e g'|_=>.stuck):=by unfold Qk Res.bind;cases a σ g with|ok d g1=>cases d <;> rfl|_=>rfl
@[simp] theorem QoJ{a b:MT}:JZ a b σ g=(match a σ g with | .ok c g1=>if c=true then b σ g1 else .ok false g1 | .raise e g'=>.raise e g' | .stuck=>.stuck):=by unfold JZ Res.bind;cases a σ g <;> rfl
@[simp] theorem QkY{a b:MT}:mOrT a b σ g=(match a σ g with | .ok c g1=>if c=true then .ok true g1 else b σ g1 | .raise e g'=>.raise e g' | .stuck=>.stuck):=by unfold mOrT Res.bind;cases a σ g <;> rfl
@[simp] theorem Qfe{a:MT}:Jm a σ g=(match a σ g with | .ok c g1=>.ok (!c) g1 | .raise e g'=>.raise e g' | .stuck=>.stuck):=by unfold Jm Res.bind;cases a σ g <;> rfl
@[simp] theorem Qo0{c:MT}{a b:ME}:mIfE c a b σ g=(match c σ g with | .ok t g1=>if t=true then a σ g1 else b σ g1 | .raise e g'=>.raise e g' | .stuck=>.stuck):=by unfold mIfE Res.bind;cases c σ g <;> rfl
@[simp] theorem Qo1{a b:ME}:mAnd a b σ g=(match a σ g with | .ok (.bl c) g1=>if c=true then b σ g1 else .ok (.bl false) g1 | .raise e g'=>.raise e g'|_=>.stuck):=by unfold mAnd Res.bind;cases a σ g with|ok d g1=>cases d <;> rfl|_=>rfl
@[simp] theorem QnM{i j:Int}:pAdd (.int i) (.int j) g=.ok (.int (i+j)) g:=rfl
@[simp] theorem Qo2{i j:Int}:pSub (.int i) (.int j) g=.ok (.int (i-j)) g:=rfl
@[simp] theorem Qo3{i:Int}:pNeg (.int i) g=.ok (.int (-i)) g:=rfl
@[simp] theorem Qpc{i j:Int}:pLt (.int i) (.int j) g=.ok (.bl (decide (i<j))) g:=rfl
@[simp] theorem Qpd{i j:Int}:pLe (.int i) (.int j) g=.ok (.bl (decide (i<=j))) g:=rfl
@[simp] theorem Qpe{i j:Int}:pGt (.int i) (.int j) g=.ok (.bl (decide (j<i))) g:=rfl
@[simp] theorem Qpf{i j:Int}:pGe (.int i) (.int j) g=.ok (.bl (decide (j<=i))) g:=rfl
@[simp] theorem Qpg{i j:Int}:pEq (.int i) (.int j) g=.ok (.bl (i == j)) g:=rfl
@[simp] theorem Qph{i j:Int}:pNe (.int i) (.int j) g=.ok (.bl (!(i == j))) g:=rfl
theorem Yn{n:Nat}{ds:List D}(h:g[n]?=some (.lst ds)):pLen (.ref n) g=.ok (.int ds.length) g:=by simp[pLen,h]
theorem QdC{n:Nat}{ds:List D}{d:D}(h:g[n]?=some (.lst (d::ds).reverse)):pIx (.ref n) (.int (-1)) g=.ok d g:=by
 have e:(-1+((ds.length:Int)+1)).toNat=ds.length:=by omega
 have e1:(1:Int)<=(ds.length:Int)+1:=by omega
 simp[pIx,h,atD,ixD,e,e1]
theorem ix_tup{ds:List D}{n:Nat}{d:D}(h:ds[n]?=some d):pIx (.tup ds) (.int n) g=.ok d g:=by
 obtain⟨this,e⟩:=Uj.mp h
 simp[pIx,atD,ixD,this,e]
@[simp] theorem QnN{d:D}{ds:List D}:pIx (.tup (d::ds)) (.int 0) g=.ok d g:=ix_tup (n:=0) rfl
@[simp] theorem Qiy{c d:D}{ds:List D}:pIx (.tup (c::d::ds)) (.int 1) g=.ok d g:=ix_tup (n:=1) rfl
@[simp] theorem Qo4{b c d:D}{ds:List D}:pIx (.tup (b::c::d::ds)) (.int 2) g=.ok d g:=ix_tup (n:=2) rfl
@[simp] theorem Qo5{a b c d:D}{ds:List D}:pIx (.tup (a::b::c::d::ds)) (.int 3) g=.ok d g:=ix_tup (n:=3) rfl
end
noncomputable abbrev Sts:=List (Int×Int)
noncomputable def putN(s:Sts)(sg c:Int):Sts:=if c<1 then s else match s with
 |[]=>if sg=0 then [] else [(sg,c)]
 | (t,k)::r=>if t=sg then (sg,k+c)::r else (sg,c)::(t,k)::r
noncomputable def QD(s:Sts)(c:Int):Sts:=match s with
 |[]=>[]
 | (t,k)::r=>putN r t (k-c)
noncomputable def QE:Sts->Int
 |[]=>0
 | (t,_)::_=>t
noncomputable def Qm(s:Sts)(sg most:Int):Int:=if QE s=sg then (match s with | []=>most|(_,k)::_=>if most<k then most else k) else 0
noncomputable def QU(m:Int):Sts->Prop
 |[]=>True
 | (t,k)::r=>0<=t/\t<m/\1<=k/\QE r≠t/\QU m r
theorem Qa1{s:Sts}{t c:Int}(h:QE s≠t):putN s t c=if c<1 then s else (t,c)::s:=by
 unfold putN
 split
 ·rfl
 ·cases s with
  |nil=>have:¬t=0:=λe=>h e.symm;simp[this]
  |cons p r=>obtain⟨u,k⟩:=p;have:¬u=t:=h;simp[this]
theorem Qj7{s:Sts}{t c:Int}(h:1<=c):QE (putN s t c)=t:=by
 unfold putN
 rw[Ud (by omega)]
 cases s with
 |nil=>dsimp only;split <;> simp_all [QE]
 |cons p r=>obtain⟨u,k⟩:=p;dsimp only;split <;> simp_all [QE]
theorem YB{m:Int}{s:Sts}{t c:Int}(h:QU m s)(h0:0<=t)(h1:t<m):QU m (putN s t c):=by
 unfold putN
 split
 ·exact h
 ·cases s with
  |nil=>dsimp only;split <;> simp_all [QU,QE];omega
  |cons p r =>
   obtain⟨u,k⟩:=p
   dsimp only
   split
   ·subst u;simp only[QU]at h ⊢;exact⟨h.1,h.2.1,by omega,h.2.2.2⟩
   ·rename_i hu
    exact⟨h0,h1,by omega,hu,h⟩
theorem Jv{m:Int}{s:Sts}{c:Int}(h:QU m s):QU m (QD s c):=by
 cases s with
 |nil=>exact h
 |cons p r=>exact YB h.2.2.2.2 h.1 h.2.1
theorem Jw{m:Int}{s:Sts}(h:QU m s):QD s 0=s:=by
 cases s with
 |nil=>rfl
 |cons p r =>
  obtain⟨t,k⟩:=p
  show putN r t (k-0)=_
  have:=h.2.2.1
  rw[Qa1 h.2.2.2.1,Ud (by omega)]
  simp
theorem Qf5{s:Sts}{t:Int}:putN s t 0=s:=by unfold putN;simp
theorem Qj8{m:Int}{s:Sts}{t x:Int}(h:QU m s)(hx:QE s=t\/x=0):QD (putN s t 1) (1+x)=QD s x:=by
 by_cases hn:QE s=t
 ·cases s with
  |nil =>
   have:t=0:=hn.symm
   subst this;rfl
  |cons p r =>
   obtain⟨u,k⟩:=p
   have:u=t:=hn
   subst this
   show QD (putN ((u,k)::r) u 1) (1+x)=putN r u (k-x)
   have e:putN ((u,k)::r) u 1=(u,k+1)::r:=by unfold putN;simp
   rw[e]
   show putN r u (k+1 - (1+x))=_
   congr 1;omega
 ·have hx:x=0:=hx.resolve_left hn
  subst hx
  rw[Jw h,Qa1 hn,Ud (by omega)]
  show putN s t (1 - (1+0))=s
  exact Qf5
theorem Qiz{s:Sts}{t a b:Int}(ha:1<=a)(hb:1<=b):putN (putN s t a) t b=putN s t (a+b):=by
 have h1:¬a<1:=by omega
 have h2:¬b<1:=by omega
 have h3:¬a+b<1:=by omega
 cases s with
 |nil=>by_cases e:t=0 <;> simp[putN,e,h1,h2,h3]
 |cons p r=>obtain⟨u,k⟩:=p;by_cases e:u=t <;> simp[putN,e,h1,h2,h3,WF]
theorem Qes{m:Int}{s:Sts}{t c n:Int}(h:QU m s)(ht:QE s=t)(h0:0<=c)(hc:c<Qm s t n):QE (QD s c)=t/\Qm (QD s c) t (n-c)=Qm s t n-c/\∀e,0<=e->QD (QD s c) e=QD s (c+e):=by
 cases s with
 |nil =>
  have:t=0:=ht.symm
  subst this
  refine⟨rfl,?_,λ_ _=>rfl⟩
  show Qm [] 0 (n-c)=_
  simp[Qm,QE]
 |cons p r =>
  obtain⟨u,k⟩:=p
  have:u=t:=ht
  subst this
  have hn:=h.2.2.2.1
  have e1:Qm ((u,k)::r) u n=if n<k then n else k:=by simp[Qm,QE]
  rw[e1]at hc ⊢
  have hck:c<k:=by split at hc <;> omega
  have e2:QD ((u,k)::r) c=(u,k-c)::r:=by
   show putN r u (k-c)=_
   rw[Qa1 hn,Ud (by omega)]
  rw[e2]
  refine⟨rfl,?_,λe _=>?_⟩
  ·have:Qm ((u,k-c)::r) u (n-c)=if n-c<k-c then n-c else k-c:=by simp[Qm,QE]
   rw[this];split <;> split <;> omega
  ·show putN r u (k-c-e)=putN r u (k - (c+e))
   congr 1;omega
theorem Qj9{s:Sts}{t n:Int}(h:0<=n):Qm s t n<=n:=by
 unfold Qm
 split
 ·split
  ·omega
  ·split <;> omega
 ·omega
theorem QiA{m:Int}{s:Sts}{t n:Int}(hg:QU m s)(h:0<=n):0<=Qm s t n:=by
 unfold Qm
 split
 ·split
  ·omega
  ·have:=hg.2.2.1;split <;> omega
 ·omega
theorem QgZ{s:Sts}{t c n:Int}(h:c<=n):Qm s t c=(if Qm s t n<=c then Qm s t n else c)\/(QE s≠t/\Qm s t c=0/\Qm s t n=0):=by
 by_cases e:QE s=t
 ·left
  unfold Qm
  rw[Uc e,Uc e]
  split
  ·split <;> omega
  ·split <;> split <;> split <;> omega
 ·right;unfold Qm;rw[Ud e,Ud e];exact⟨e,rfl,rfl⟩
theorem Qg0{m:Int}{s:Sts}{t c n:Int}(h:QU m s)(ht:QE s=t)(h0:0<=c)(hc:c<=Qm s t n):Qm (QD s c) t (n-c)=Qm s t n-c:=by
 cases s with
 |nil =>
  have:t=0:=ht.symm
  subst this
  show Qm [] 0 (n-c)=_
  simp[Qm,QE]
 |cons p r =>
  obtain⟨u,k⟩:=p
  have:u=t:=ht
  subst this
  have hn:=h.2.2.2.1
  have e1:Qm ((u,k)::r) u n=if n<k then n else k:=by simp[Qm,QE]
  rw[e1]at hc ⊢
  show Qm (putN r u (k-c)) u (n-c)=_
  rw[Qa1 hn]
  by_cases z:k-c<1
  ·rw[Uc z]
   have:Qm r u (n-c)=0:=by unfold Qm;rw[Ud hn]
   rw[this];split at hc <;> split <;> omega
  ·rw[Ud z]
   have:Qm ((u,k-c)::r) u (n-c)=if n-c<k-c then n-c else k-c:=by simp[Qm,QE]
   rw[this];split <;> split <;> omega
theorem Qf6{m:Int}{A:Sts}{own c w:Int}(hA:QU m A)(h1:1<=c)(hw:c<=w):
  (1+Qm A own (c-1)=1+Qm A own (w-1)/\1+Qm A own (w-1)<=c) \/
  (1+Qm A own (c-1)=c/\c<1+Qm A own (w-1)/\QE (QD A (c-1))=own/\1+Qm (QD (QD A (c-1)) 1) own (w-c-1)=1+Qm A own (w-1) - c /\
   QD (QD (QD A (c-1)) 1) (1+Qm A own (w-1) - c-1)=QD A (1+Qm A own (w-1) - 1)):=by
 rcases QgZ (s:=A) (t:=own) (show c-1<=w-1 by omega) with e|⟨_,e1,e2⟩
 ·by_cases z:Qm A own (w-1)<=c-1
  ·rw[Uc z]at e;left;omega
  ·rw[Ud z]at e
   have hn:QE A=own:=by
    apply Tu;intro hn
    have:Qm A own (w-1)=0:=by unfold Qm;rw[Ud hn]
    omega
   obtain⟨q1,_,q3⟩:=Qes hA hn (show 0<=c-1 by omega) (show c-1<Qm A own (w-1) by omega)
   have q4:=q3 1 (by omega)
   rw[show c-1+1=c by omega]at q4
   have q5:=Qg0 hA hn (show 0<=c by omega) (show c<=Qm A own (w-1) by omega)
   rw[show w-1-c=w-c-1 by omega]at q5
   right
   refine⟨by omega,by omega,q1,by rw[q4,q5];omega,?_⟩
   rw[q4]
   by_cases y:c<Qm A own (w-1)
   ·rw[(Qes hA hn (show 0<=c by omega) y).2.2 _ (by omega)];congr 1;omega
   ·rw[show 1+Qm A own (w-1) - c-1=0 by omega,Jw (Jv hA)];congr 1;omega
 ·left;omega
structure RowN where
 st:Nat
 L:Sts
 own:Int
 R:Sts
noncomputable def QV(b:Int)(st:Nat)(A:Sts)(own w:Int):Int:=if b=(st:Int) then 1+Qm A own (w-1) else 1
noncomputable def Yv(d:D)(S:RowN)(w:Int):Option (RowN×Int×Int):=match d with
 |.tup [.int a,.str y,.int b]=>some (if y=rS then (⟨b.toNat,putN S.L a (QV b S.st S.R S.own w),QE (QD S.R (QV b S.st S.R S.own w-1)),QD (QD S.R (QV b S.st S.R S.own w-1)) 1⟩,QV b S.st S.R S.own w,QV b S.st S.R S.own w)
  else (⟨b.toNat,QD (QD S.L (QV b S.st S.L S.own w-1)) 1,QE (QD S.L (QV b S.st S.L S.own w-1)),putN S.R a (QV b S.st S.L S.own w)⟩,QV b S.st S.L S.own w,-QV b S.st S.L S.own w))
 |_=>none
noncomputable def Qff(rows:List (List D))(s c:Nat):Option D:=(rows[s]?).bind λr=>r[c]?
noncomputable def YU(rows:List (List D))(S:RowN)(n:Int):Option (RowN×Int×Int):=(Qff rows S.st S.own.toNat).bind λd=>Yv d S n
noncomputable def runN(rows:List (List D)):Nat->RowN->Int->Option (RowN×Int×Int×Int)
 |0,S,n=>if n<=0 then some (S,0,0,0) else match YU rows S n with
  |none=>some (S,0,0,0)
  |some _=>none
 |k+1,S,n=>if n<=0 then some (S,0,0,0) else match YU rows S n with
  |none=>some (S,0,0,0)
  |some r=>(runN rows k r.1 (n-r.2.1)).map λq=>(q.1,r.2.2+q.2.1,r.2.1+q.2.2.1,q.2.2.2+1)
structure OkN(n m:Nat)(S:RowN):Prop where
 st:S.st<n
 o0:0<=S.own
 o1:S.own<m
 L:QU m S.L
 R:QU m S.R
theorem Qfg{m:Nat}{s:Sts}(h:QU m s)(hm:0<m):0<=QE s/\QE s<m:=by
 cases s with
 |nil=>exact⟨TW _,by show(0:Int)<m;omega⟩
 |cons p r=>exact⟨h.1,h.2.1⟩
theorem QdD{m b w:Int}{st:Nat}{A:Sts}{own:Int}(h:QU m A)(hw:1<=w):1<=QV b st A own w/\QV b st A own w<=w:=by
 unfold QV
 split
 ·have:=Qj9 (s:=A) (t:=own) (show 0<=w-1 by omega)
  have:=QiA (t:=own) h (show 0<=w-1 by omega)
  omega
 ·omega
theorem Qfh{n m:Nat}{S:RowN}{d:D}{w:Int}{r:RowN×Int×Int}(ho:OkN n m S)(he:entOk d n m)(hm:0<m)(hw:1<=w)(h:Yv d S w=some r):OkN n m r.1/\1<=r.2.1/\r.2.1<=w:=by
 rcases he with rfl|⟨a,b,y,rfl,a0,a1,b0,b1,_⟩
 ·cases h
 ·unfold Yv at h
  dsimp only at h
  cases h
  split
  ·have s1:=QdD (b:=b) (st:=S.st) (own:=S.own) ho.R hw
   have d1:=Jv (c:=QV b S.st S.R S.own w-1) ho.R
   have n1:=Qfg d1 hm
   exact⟨⟨by show b.toNat<n;omega,n1.1,n1.2,YB ho.L a0 a1,Jv d1⟩,s1⟩
  ·have s1:=QdD (b:=b) (st:=S.st) (own:=S.own) ho.L hw
   have d1:=Jv (c:=QV b S.st S.L S.own w-1) ho.L
   have n1:=Qfg d1 hm
   exact⟨⟨by show b.toNat<n;omega,n1.1,n1.2,Jv d1,YB ho.R a0 a1⟩,s1⟩
theorem Qf7{n m:Nat}{S:RowN}{d:D}{c w:Int}{r:RowN×Int×Int}(ho:OkN n m S)(he:entOk d n m)(h1:1<=c)(hw:c<=w)(h:Yv d S w=some r):
  (Yv d S c=some r/\r.2.1<=c)\/∃r1,Yv d S c=some r1/\r1.2.1=c/\c<r.2.1/\r1.1.st=S.st/\r1.1.own=S.own/\Yv d r1.1 (w-c)=some (r.1,r.2.1-c,r.2.2-r1.2.2):=by
 rcases he with rfl|⟨a,b,y,rfl,a0,a1,b0,b1,_⟩
 ·cases h
 ·unfold Yv at h ⊢
  dsimp only at h ⊢
  cases h
  by_cases hb:b=(S.st:Int)
  ·have hst:b.toNat=S.st:=by omega
   have e0:∀A own w,QV b S.st A own w=1+Qm A own (w-1):=λA own w=>Uc hb
   by_cases hy:y=rS
   ·simp only[Uc hy,hst,e0]
    rcases Qf6 (own:=S.own) ho.R h1 hw with⟨x1,x2⟩|⟨x1,x2,x3,x4,x5⟩
    ·left;rw[x1];exact⟨rfl,x2⟩
    ·right
     refine⟨_,rfl,x1,x2,rfl,by show QE _=_;rw[x1];exact x3,?_⟩
     dsimp only
     rw[x1,x3,e0,x4,x5,Qiz h1 (by omega)]
     rw[show c+(1+Qm S.R S.own (w-1) - c)=1+Qm S.R S.own (w-1) by omega]
   ·simp only[Ud hy,hst,e0]
    rcases Qf6 (own:=S.own) ho.L h1 hw with⟨x1,x2⟩|⟨x1,x2,x3,x4,x5⟩
    ·left;rw[x1];exact⟨rfl,x2⟩
    ·right
     refine⟨_,rfl,x1,x2,rfl,by show QE _=_;rw[x1];exact x3,?_⟩
     dsimp only
     rw[x1,x3,e0,x4,x5,Qiz h1 (by omega)]
     rw[show c+(1+Qm S.L S.own (w-1) - c)=1+Qm S.L S.own (w-1) by omega,show -(1+Qm S.L S.own (w-1)) - -c = -(1+Qm S.L S.own (w-1) - c) by omega]
  ·have e0:∀A own w,QV b S.st A own w=1:=λA own w=>Ud hb
   left
   simp only[e0]
   refine⟨trivial,?_⟩
   split <;> exact h1
structure Tb(rows:List (List D))(n m:Nat):Prop where
 n0:0<n
 m0:0<m
 n12:n<=12
 m8:m<=8
 len:rows.length=n
 row:∀r∈rows,r.length=m
 ent:∀r∈rows,∀d∈r,entOk d n m
theorem Tb.at{rows:List (List D)}{n m s c:Nat}(T:Tb rows n m)(hs:s<n)(hc:c<m):∃row d,rows[s]?=some row/\row[c]?=some d/\entOk d n m/\Qff rows s c=some d:=by
 have h1:s<rows.length:=by rw[T.len];exact hs
 have hm:=UJ h1
 have h2:c<rows[s].length:=by rw[T.row _ hm];exact hc
 refine⟨rows[s],rows[s][c],by simp,by simp,T.ent _ hm _ (UJ h2),?_⟩
 unfold Qff
 simp[h1,h2]
section
variable{rows:List (List D)}{n m:Nat}
theorem YV{k:Nat}{S:RowN}{w:Int}(h:w<=0):runN rows k S w=some (S,0,0,0):=by cases k <;> (unfold runN;rw[Uc h])
theorem Qaf{k:Nat}{S:RowN}{w:Int}(h:YU rows S w=none):runN rows k S w=some (S,0,0,0):=by
 cases k <;> (unfold runN;rw[h];split <;> rfl)
theorem Y7{k:Nat}{S:RowN}{w:Int}{r:RowN×Int×Int}(hw:1<=w)(h:YU rows S w=some r):runN rows (k+1) S w=(runN rows k r.1 (w-r.2.1)).map λq=>(q.1,r.2.2+q.2.1,r.2.1+q.2.2.1,q.2.2.2+1):=by
 rw[runN,Ud (by omega),h]
theorem Qfi{S:RowN}{w:Int}{r:RowN×Int×Int}(hw:1<=w)(h:YU rows S w=some r):runN rows 0 S w=none:=by
 rw[runN,Ud (by omega),h]
theorem QdE:∀(k K:Nat)(S:RowN)(w:Int) q,k<=K->runN rows k S w=some q->runN rows K S w=some q
 |k,K,S,w,q,hk,h=>by
  by_cases hw:w<=0
  ·rw[YV hw]at h ⊢;exact h
  ·cases hn:YU rows S w with
   |none=>rw[Qaf hn]at h ⊢;exact h
   |some r =>
    cases k with
    |zero=>rw[Qfi (by omega) hn]at h;cases h
    |succ k =>
     obtain⟨K,rfl⟩:∃K',K=K'+1:=⟨K-1,by omega⟩
     rw[Y7 (by omega) hn]at h ⊢
     cases hr:runN rows k r.1 (w-r.2.1) with
     |none=>rw[hr]at h;cases h
     |some q'=>rw[hr]at h;rw[QdE k K _ _ _ (by omega) hr];exact h
theorem Qcp(T:Tb rows n m){S:RowN}{w:Int}{r:RowN×Int×Int}(ho:OkN n m S)(hw:1<=w)(h:YU rows S w=some r):OkN n m r.1/\1<=r.2.1/\r.2.1<=w:=by
 have:=ho.o0;have:=ho.o1
 obtain⟨row,d,_,_,he,e⟩:=T.at ho.st (c:=S.own.toNat) (by omega)
 unfold YU at h
 rw[e]at h
 exact Qfh ho he T.m0 hw h
theorem Qf8(T:Tb rows n m):∀(k:Nat)(S:RowN)(w:Int) q,OkN n m S->0<=w->runN rows k S w=some q->OkN n m q.1/\0<=q.2.2.1/\q.2.2.1<=w/\0<=q.2.2.2/\q.2.2.2<=k
 |k,S,w,q,ho,h0,h=>by
  by_cases hw:w<=0
  ·rw[YV hw]at h;cases h;exact⟨ho,TW _,h0,TW _,by dsimp only;omega⟩
  ·cases hn:YU rows S w with
   |none=>rw[Qaf hn]at h;cases h;exact⟨ho,TW _,h0,TW _,by dsimp only;omega⟩
   |some r =>
    obtain⟨o1,s1,s2⟩:=Qcp T ho (by omega) hn
    cases k with
    |zero=>rw[Qfi (by omega) hn]at h;cases h
    |succ k =>
     rw[Y7 (by omega) hn]at h
     cases hr:runN rows k r.1 (w-r.2.1) with
     |none=>rw[hr]at h;cases h
     |some q' =>
      rw[hr]at h;cases h
      obtain⟨x1,x2,x3,x4,x5⟩:=Qf8 T k r.1 (w-r.2.1) q' o1 (by omega) hr
      exact⟨x1,by dsimp only;omega,by dsimp only;omega,by dsimp only;omega,by dsimp only;omega⟩
theorem QiB(T:Tb rows n m):∀(k:Nat)(S:RowN)(w c:Int) q,OkN n m S->0<=c->c<=w->runN rows k S w=some q ->
  ∃qa qb:RowN×Int×Int×Int,(∀K,k<=K->runN rows K S c=some qa)/\(∀K,k+1<=K->runN rows K qa.1 (w-c)=some qb)/\qb.1=q.1/\qa.2.1+qb.2.1=q.2.1/\qa.2.2.1+qb.2.2.1=q.2.2.1/\(qa.2.2.2+qb.2.2.2=q.2.2.2\/qa.2.2.2+qb.2.2.2=q.2.2.2+1)
 |k,S,w,c,q,ho,h0,hc,h=>by
  by_cases c0:c=0
  ·subst c0
   refine⟨(S,0,0,0),q,λK _=>YV (TW _),λK hK=>?_,rfl,by simp,by simp,by simp⟩
   rw[Int.sub_zero];exact QdE k K S w q (by omega) h
  ·have:=ho.o0;have:=ho.o1
   obtain⟨row,d,_,_,he,e⟩:=T.at ho.st (c:=S.own.toNat) (by omega)
   have hN:∀u,YU rows S u=Yv d S u:=λu=>by unfold YU;rw[e];rfl
   cases hn:Yv d S w with
   |none =>
    have hd:∀u,Yv d S u=none:=by
     rcases he with rfl|⟨a,b,y,rfl,_⟩
     ·intro u;rfl
     ·cases hn
    rw[Qaf (by rw[hN,hn])]at h
    cases h
    exact⟨(S,0,0,0),(S,0,0,0),λK _=>Qaf (by rw[hN,hd]),λK _=>Qaf (by rw[hN,hd]),rfl,by simp,by simp,by simp⟩
   |some r =>
    obtain⟨o1,s1,s2⟩:=Qcp T ho (w:=w) (by omega) ((hN w).trans hn)
    cases k with
    |zero=>rw[Qfi (by omega) ((hN w).trans hn)]at h;cases h
    |succ k =>
     rw[Y7 (by omega) ((hN w).trans hn)]at h
     cases hr:runN rows k r.1 (w-r.2.1) with
     |none=>rw[hr]at h;cases h
     |some q' =>
      rw[hr]at h;cases h
      rcases Qf7 ho he (by omega) hc hn with⟨l1,l2⟩|⟨r1,l1,l2,l3,l4,l5,l6⟩
      ·obtain⟨qa,qb,x1,x2,x3,x4,x5,x6⟩:=QiB T k r.1 (w-r.2.1) (c-r.2.1) q' o1 (by omega) (by omega) hr
       refine⟨(qa.1,r.2.2+qa.2.1,r.2.1+qa.2.2.1,qa.2.2.2+1),qb,λK hK=>?_,λK hK=>?_,x3,?_,?_,?_⟩
       ·obtain⟨K,rfl⟩:∃K',K=K'+1:=⟨K-1,by omega⟩
        rw[Y7 (by omega) ((hN c).trans l1),x1 K (by omega)];rfl
       ·have:=x2 K (by omega)
        rw[show w-r.2.1 - (c-r.2.1)=w-c by omega]at this
        exact this
       ·dsimp only;omega
       ·dsimp only;omega
       ·dsimp only;omega
      ·refine⟨(r1.1,r1.2.2+0,r1.2.1+0,0+1),(q'.1,(r.2.2-r1.2.2)+q'.2.1,(r.2.1-c)+q'.2.2.1,q'.2.2.2+1),λK hK=>?_,λK hK=>?_,rfl,?_,?_,?_⟩
       ·obtain⟨K,rfl⟩:∃K',K=K'+1:=⟨K-1,by omega⟩
        rw[Y7 (by omega) ((hN c).trans l1),YV (by omega)];rfl
       ·obtain⟨K,rfl⟩:∃K',K=K'+1:=⟨K-1,by omega⟩
        have hx:YU rows r1.1 (w-c)=some (r.1,r.2.1-c,r.2.2-r1.2.2):=by unfold YU;rw[l4,l5,e];exact l6
        rw[Y7 (by omega) hx]
        dsimp only
        rw[show w-c - (r.2.1-c)=w-r.2.1 by omega,QdE k K _ _ _ (by omega) hr];rfl
       ·dsimp only;omega
       ·dsimp only;omega
       ·dsimp only;omega
end
noncomputable def QK:Sts->Nat->Int
 |[],_=>0
 | (t,k)::r,i=>if (i:Int)<k then t else QK r (i-k.toNat)
theorem ZN{m:Int}{s:Sts}(h:QU m s):QK s 0=QE s:=by
 cases s with
 |nil=>rfl
 |cons p r=>obtain⟨t,k⟩:=p;have:=h.2.2.1;unfold QK;rw[Uc (by omega)];rfl
theorem JQ{m:Int}{s:Sts}{a:Int}(hg:QU m s):QK (putN s a 1) 0=a/\∀i,QK (putN s a 1) (i+1)=QK s i:=by
 cases s with
 |nil=>by_cases h:a=0 <;> simp[putN,QK,h];omega
 |cons p r =>
  obtain⟨t,k⟩:=p
  have hk:=hg.2.2.1
  by_cases h:t=a
  ·have e:putN ((t,k)::r) a 1=(a,k+1)::r:=by simp[putN,h]
   rw[e]
   refine⟨by unfold QK;rw[Uc (by omega)],λi=>?_⟩
   unfold QK
   by_cases z:(i:Int)<k
   ·rw[Uc (by omega),Uc z,h]
   ·rw[Ud (by omega),Ud z];congr 1;omega
  ·have e:putN ((t,k)::r) a 1=(a,1)::(t,k)::r:=by simp[putN,h]
   rw[e]
   refine⟨by unfold QK;rw[Uc (by omega)],λi=>?_⟩
   rw[QK,Ud (by omega)];congr 1
theorem Qet{m:Int}{s:Sts}(hg:QU m s)(i:Nat):QK (QD s 1) i=QK s (i+1):=by
 cases s with
 |nil=>rfl
 |cons p r =>
  obtain⟨t,k⟩:=p
  have hk:=hg.2.2.1
  show QK (putN r t (k-1)) i=_
  rw[Qa1 hg.2.2.2.1]
  by_cases z:k-1<1
  ·rw[Uc z]
   conv=>rhs;unfold QK
   rw[Ud (by omega)];congr 1;omega
  ·rw[Ud z]
   unfold QK
   by_cases y:(i:Int)<k-1
   ·rw[Uc y,Uc (by omega)]
   ·rw[Ud y,Ud (by omega)];congr 1;omega
structure Cn where
 st:Nat
 pl:Int
 f:Int->Int
noncomputable def updF(f:Int->Int)(x a:Int):Int->Int:=λy=>if y=x then a else f y
noncomputable def goF(d:D)(c:Cn):Option Cn:=match d with
 |.tup [.int a,.str y,.int b]=>some ⟨b.toNat,if y=rS then c.pl+1 else c.pl-1,updF c.f c.pl a⟩
 |_=>none
noncomputable def Z7(rows:List (List D))(c:Cn):Option Cn:=(Qff rows c.st (c.f c.pl).toNat).bind λd=>goF d c
noncomputable def runF(rows:List (List D)):Nat->Cn->Cn×Nat
 |0,c=>(c,0)
 |k+1,c=>match Z7 rows c with
  |none=>(c,0)
  |some c'=>((runF rows k c').1,(runF rows k c').2+1)
structure RF(S:RowN)(c:Cn):Prop where
 st:c.st=S.st
 own:c.f c.pl=S.own
 R:∀i:Nat,c.f (c.pl+1+i)=QK S.R i
 L:∀i:Nat,c.f (c.pl-1-i)=QK S.L i
theorem Qka{d:D}{S:RowN}{m:Int}(hL:QU m S.L)(hR:QU m S.R){a b:Int}{y:Str}(hd:d=.tup [.int a,.str y,.int b]):Yv d S 1=some (if y=rS then (⟨b.toNat,putN S.L a 1,QE S.R,QD S.R 1⟩,1,1) else (⟨b.toNat,QD S.L 1,QE S.L,putN S.R a 1⟩,1,-1)):=by
 subst hd
 have e:∀A own,QU m A->QV b S.st A own 1=1:=λA own hA=>by
  have h:=QdD (b:=b) (st:=S.st) (own:=own) hA (show(1:Int)<=1 by omega)
  omega
 unfold Yv
 dsimp only
 rw[e _ _ hR,e _ _ hL,Int.sub_self,Jw hR,Jw hL]
theorem QlZ{rows:List (List D)}{n m:Nat}{S:RowN}{c:Cn}(T:Tb rows n m)(ho:OkN n m S)(h:RF S c):
  (YU rows S 1=none/\Z7 rows c=none)\/∃r c',YU rows S 1=some r/\Z7 rows c=some c'/\RF r.1 c'/\r.2.1=1/\r.2.2=c'.pl-c.pl:=by
 have h0:=ho.o0;have h1:=ho.o1
 obtain⟨row,d,_,_,he,e⟩:=T.at ho.st (c:=S.own.toNat) (by omega)
 have e1:YU rows S 1=Yv d S 1:=by unfold YU;rw[e];rfl
 have e2:Z7 rows c=goF d c:=by unfold Z7;rw[h.st,h.own,e];rfl
 rw[e1,e2]
 rcases he with rfl|⟨a,b,y,rfl,_⟩
 ·exact .inl ⟨rfl,rfl⟩
 ·right
  rw[Qka ho.L ho.R rfl]
  by_cases hy:y=rS
  ·rw[Uc hy]
   refine⟨_,⟨b.toNat,c.pl+1,updF c.f c.pl a⟩,rfl,by unfold goF;dsimp only;rw[Uc hy],⟨rfl,?_,λi=>?_,λi=>?_⟩,rfl,by dsimp only;omega⟩
   ·show updF c.f c.pl a (c.pl+1)=QE S.R
    have:=h.R 0
    rw[ZN ho.R]at this
    unfold updF;rw[Ud (by omega)];simpa using this
   ·show updF c.f c.pl a (c.pl+1+1+i)=QK (QD S.R 1) i
    rw[Qet ho.R,<-h.R]
    unfold updF;rw[Ud (by omega)];congr 1;omega
   ·show updF c.f c.pl a (c.pl+1-1-i)=QK (putN S.L a 1) i
    cases i with
    |zero=>rw[(JQ ho.L).1];unfold updF;rw[Uc (by omega)]
    |succ i=>rw[(JQ ho.L).2,<-h.L];unfold updF;rw[Ud (by omega)];congr 1;omega
  ·rw[Ud hy]
   refine⟨_,⟨b.toNat,c.pl-1,updF c.f c.pl a⟩,rfl,by unfold goF;dsimp only;rw[Ud hy],⟨rfl,?_,λi=>?_,λi=>?_⟩,rfl,by dsimp only;omega⟩
   ·show updF c.f c.pl a (c.pl-1)=QE S.L
    have:=h.L 0
    rw[ZN ho.L]at this
    unfold updF;rw[Ud (by omega)];simpa using this
   ·show updF c.f c.pl a (c.pl-1+1+i)=QK (putN S.R a 1) i
    cases i with
    |zero=>rw[(JQ ho.R).1];unfold updF;rw[Uc (by omega)]
    |succ i=>rw[(JQ ho.R).2,<-h.R];unfold updF;rw[Ud (by omega)];congr 1;omega
   ·show updF c.f c.pl a (c.pl-1-1-i)=QK (QD S.L 1) i
    rw[Qet ho.L,<-h.L]
    unfold updF;rw[Ud (by omega)];congr 1;omega
theorem Zd{rows:List (List D)}{c:Cn}(h:Z7 rows c=none):∀k,runF rows k c=(c,0)
 |0=>rfl
 |k+1=>by rw[runF,h]
theorem Q3{rows:List (List D)}{c c':Cn}{k:Nat}(h:Z7 rows c=some c'):runF rows (k+1) c=((runF rows k c').1,(runF rows k c').2+1):=by rw[runF,h]
theorem Qaq{rows:List (List D)}{n m:Nat}(T:Tb rows n m):∀(w K:Nat)(S:RowN)(c:Cn) q,OkN n m S->RF S c->runN rows K S (w:Nat)=some q->RF q.1 (runF rows w c).1/\q.2.1=(runF rows w c).1.pl-c.pl/\q.2.2.1=(runF rows w c).2
 |0,K,S,c,q,ho,h,hr=>by
  rw[YV (by simp)]at hr
  cases hr
  exact⟨h,(Int.sub_self _).symm,rfl⟩
 |w+1,K,S,c,q,ho,h,hr=>by
  obtain⟨qa,qb,x1,x2,x3,x4,x5,_⟩:=QiB T K S ((w+1:Nat):Int) 1 q ho (by omega) (by omega) hr
  have y1:=x1 (K+1) (by omega)
  have y2:=x2 (K+1) (by omega)
  rw[show((w+1:Nat):Int) - 1=(w:Nat) by omega]at y2
  rcases QlZ T ho h with⟨e1,e2⟩|⟨r,c',e1,e2,e3,e4,e5⟩
  ·rw[Qaf e1]at y1
   cases y1
   have z:=Qaq T w (K+1) S c qb ho h y2
   rw[Zd e2]at z ⊢
   rw[<-x3]
   dsimp only at x4 x5
   exact⟨z.1,by rw[<-z.2.1];omega,by rw[<-z.2.2];omega⟩
  ·rw[Y7 (by omega) e1,YV (by omega)]at y1
   cases y1
   dsimp only at x4 x5 y2
   have ho':=(Qcp T ho (by omega) e1).1
   have z:=Qaq T w (K+1) r.1 c' qb ho' e3 y2
   rw[Q3 e2]
   dsimp only
   rw[<-x3]
   exact⟨z.1,by have:=z.2.1;omega,by have:=z.2.2;rw[Int.natCast_add];omega⟩
theorem Qda{rows:List (List D)}{n m:Nat}(T:Tb rows n m):∀(K:Nat)(S:RowN)(w:Int),OkN n m S->w<=K->∃q,runN rows K S w=some q
 |K,S,w,ho,hw=>by
  by_cases h0:w<=0
  ·exact⟨_,YV h0⟩
  ·cases hn:YU rows S w with
   |none=>exact⟨_,Qaf hn⟩
   |some r =>
    obtain⟨o1,s1,s2⟩:=Qcp T ho (by omega) hn
    cases K with
    |zero=>omega
    |succ K =>
     obtain⟨q,hq⟩:=Qda T K r.1 (w-r.2.1) o1 (by omega)
     exact⟨_,by rw[Y7 (by omega) hn,hq];rfl⟩
theorem QdF{rows:List (List D)}{n m:Nat}(T:Tb rows n m):∀(K:Nat)(S:RowN)(w:Int) q (K':Nat),OkN n m S->runN rows K S w=some q->(q.2.2.2<=K'->runN rows K' S w=some q)/\((K':Int)<q.2.2.2->runN rows K' S w=none)
 |K,S,w,q,K',ho,h=>by
  by_cases h0:w<=0
  ·rw[YV h0]at h;cases h;exact⟨λ_=>YV h0,λh=>by dsimp only at h;omega⟩
  ·cases hn:YU rows S w with
   |none=>rw[Qaf hn]at h;cases h;exact⟨λ_=>Qaf hn,λh=>by dsimp only at h;omega⟩
   |some r =>
    obtain⟨o1,s1,s2⟩:=Qcp T ho (by omega) hn
    cases K with
    |zero=>rw[Qfi (by omega) hn]at h;cases h
    |succ K =>
     rw[Y7 (by omega) hn]at h
     cases hr:runN rows K r.1 (w-r.2.1) with
     |none=>rw[hr]at h;cases h
     |some q' =>
      rw[hr]at h;cases h
      have hp:=(Qf8 T K r.1 (w-r.2.1) q' o1 (by omega) hr).2.2.2.1
      cases K' with
      |zero=>exact⟨λh=>by dsimp only at h;omega,λ_=>Qfi (by omega) hn⟩
      |succ K' =>
       have ih:=QdF T K r.1 (w-r.2.1) q' K' o1 hr
       refine⟨λh=>?_,λh=>?_⟩
       ·rw[Y7 (by omega) hn,ih.1 (by dsimp only at h;omega)];rfl
       ·rw[Y7 (by omega) hn,ih.2 (by dsimp only at h;omega)];rfl
theorem Qkb{n m:Nat}{S:RowN}{d:D}{w:Int}{r:RowN×Int×Int}(ho:OkN n m S)(he:entOk d n m)(hw:1<=w)(h:Yv d S w=some r)(hs:r.2.1<w):¬(r.1.st=S.st/\r.1.own=S.own):=by
 have key:∀A:Sts,QU m A->1+Qm A S.own (w-1)<w->QE (QD A (1+Qm A S.own (w-1) - 1))≠S.own:=λA hA hlt=>by
  cases A with
  |nil =>
   intro e
   have:Qm [] S.own (w-1)=w-1:=by unfold Qm;rw[Uc (by exact e)]
   omega
  |cons p r =>
   obtain⟨t,k⟩:=p
   by_cases ht:t=S.own
   ·have e:Qm ((t,k)::r) S.own (w-1)=if w-1<k then w-1 else k:=by simp[Qm,QE,ht]
    rw[e]at hlt ⊢
    by_cases z:w-1<k
    ·rw[Uc z]at hlt;omega
    ·rw[Ud z]
     show QE (putN r t (k - (1+k-1)))≠_
     rw[show k - (1+k-1)=0 by omega,Qf5,<-ht]
     exact hA.2.2.2.1
   ·have e:Qm ((t,k)::r) S.own (w-1)=0:=by simp[Qm,QE,ht]
    rw[e,show(1:Int)+0-1=0 by omega,Jw hA]
    exact ht
 rcases he with rfl|⟨a,b,y,rfl,a0,a1,b0,b1,_⟩
 ·cases h
 ·unfold Yv at h
  dsimp only at h
  cases h
  rintro ⟨e1,e2⟩
  by_cases hb:b=(S.st:Int)
  ·have e0:∀A own w,QV b S.st A own w=1+Qm A own (w-1):=λA own w=>Uc hb
   simp only[e0]at hs e2
   by_cases hy:y=rS
   ·simp only[Uc hy]at hs e2;exact key _ ho.R hs e2
   ·simp only[Ud hy]at hs e2;exact key _ ho.L hs e2
  ·apply hb
   by_cases hy:y=rS
   ·simp only[Uc hy]at e1;omega
   ·simp only[Ud hy]at e1;omega
noncomputable abbrev rdF(c:Cn):Nat×Int:=(c.st,c.f c.pl)
noncomputable def cutF(rows:List (List D)):Nat->Cn->Option (Nat×Int)->Nat
 |0,_,_=>0
 |k+1,c,p=>match Z7 rows c with
  |none=>0
  |some c'=>(if p=some (rdF c) then 0 else 1)+cutF rows k c' (some (rdF c))
theorem Ql0{rows:List (List D)}{c:Cn}{p:Option (Nat×Int)}(h:p≠some (rdF c)):∀k,cutF rows k c p=cutF rows k c none
 |0=>rfl
 |k+1=>by unfold cutF;cases Z7 rows c with|none=>rfl|some c'=>dsimp only;rw[Ud h,Ud (by simp)]
theorem QdG{rows:List (List D)}:∀(i j:Nat)(c:Cn),(runF rows i c).2=i->runF rows (i+j) c=((runF rows j (runF rows i c).1).1,i+(runF rows j (runF rows i c).1).2)
 |0,j,c,_=>by rw[RA];show runF rows j c=_;simp[runF]
 |i+1,j,c,h=>by
  cases hs:Z7 rows c with
  |none=>rw[Zd hs]at h;cases h
  |some c' =>
   rw[Q3 hs]at h ⊢
   rw[show i+1+j=(i+j)+1 by omega,Q3 hs]
   have ih:=QdG (rows:=rows) i j c' (by dsimp only at h;omega)
   rw[ih]
   dsimp only
   congr 1;omega
theorem Qeu{rows:List (List D)}:∀(s k:Nat)(c:Cn)(p:Nat×Int),(runF rows s c).2=s->(∀j,j<s->rdF (runF rows j c).1=p)->cutF rows (s+k) c (some p)=cutF rows k (runF rows s c).1 (some p)
 |0,k,c,p,_,_=>by rw[RA];rfl
 |s+1,k,c,p,hs,hp=>by
  cases h1:Z7 rows c with
  |none=>rw[Zd h1]at hs;cases hs
  |some c' =>
   have h0:rdF c=p:=hp 0 (by omega)
   rw[Q3 h1]at hs ⊢
   rw[show s+1+k=(s+k)+1 by omega,cutF,h1]
   dsimp only
   rw[Uc (by rw[h0]),RA,h0]
   refine Qeu s k c' p (by dsimp only at hs;omega) λj hj=>?_
   have:=hp (j+1) (by omega)
   rw[Q3 h1]at this
   exact this
theorem Qf9{rows:List (List D)}{n m:Nat}(T:Tb rows n m):∀(K w:Nat)(S:RowN)(c:Cn) q,OkN n m S->RF S c->runN rows K S (w:Nat)=some q->q.2.2.2=(cutF rows w c none:Nat)
 |K,w,S,c,q,ho,h,hr=>by
  have h0:=ho.o0;have h1:=ho.o1
  obtain⟨row,d,_,_,he,e⟩:=T.at ho.st (c:=S.own.toNat) (by omega)
  have hN:∀u,YU rows S u=Yv d S u:=λu=>by unfold YU;rw[e];rfl
  have hS:Z7 rows c=goF d c:=by unfold Z7;rw[h.st,h.own,e];rfl
  cases w with
  |zero=>rw[YV (by simp)]at hr;cases hr;rfl
  |succ w =>
   cases hl:Yv d S ((w+1:Nat):Int) with
   |none =>
    have hd:d=.non:=by
     rcases he with rfl|⟨a,b,y,rfl,_⟩
     ·rfl
     ·cases hl
    rw[Qaf (by rw[hN,hl])]at hr
    cases hr
    rw[cutF,hS,hd];rfl
   |some r =>
    obtain⟨o1,s1,s2⟩:=Qfh ho he T.m0 (by omega) hl
    cases K with
    |zero=>rw[Qfi (by omega) ((hN _).trans hl)]at hr;cases hr
    |succ K =>
     rw[Y7 (by omega) ((hN _).trans hl)]at hr
     cases hq:runN rows K r.1 (((w+1:Nat):Int) - r.2.1) with
     |none=>rw[hq]at hr;cases hr
     |some q' =>
      rw[hq]at hr
      cases hr
      obtain⟨s,hs⟩:∃s:Nat,r.2.1=((s+1:Nat):Int):=⟨(r.2.1-1).toNat,by omega⟩
      have hsw:s<=w:=by omega
      rw[hs,show((w+1:Nat):Int) - ((s+1:Nat):Int)=((w-s:Nat):Int) by omega]at hq
      -- the leap,step by step
      have hat:∀j:Nat,j<=s->∃r1,Yv d S ((j+1:Nat):Int)=some r1/\r1.2.1=((j+1:Nat):Int)/\(j<s->r1.1.st=S.st/\r1.1.own=S.own)/\(j=s->r1=r):=λj hj=>by
       rcases Qf7 ho he (show(1:Int)<=((j+1:Nat):Int) by omega) (show((j+1:Nat):Int)<=((w+1:Nat):Int) by omega) hl with⟨l1,l2⟩|⟨r1,l1,l2,l3,l4,l5,_⟩
       ·have:j=s:=by omega
        subst this
        exact⟨r,l1,hs,λh=>absurd h (by omega),λ_=>rfl⟩
       ·exact⟨r1,l1,l2,λ_=>⟨l4,l5⟩,λe=>by omega⟩
      have hrun:∀j:Nat,j<=s->∃r1:RowN×Int×Int,RF r1.1 (runF rows (j+1) c).1/\(runF rows (j+1) c).2=j+1/\(j<s->r1.1.st=S.st/\r1.1.own=S.own)/\(j=s->r1=r):=λj hj=>by
       obtain⟨r1,a1,a2,a3,a4⟩:=hat j hj
       have hf:runN rows 1 S ((j+1:Nat):Int)=some (r1.1,r1.2.2+0,r1.2.1+0,0+1):=by
        rw[Y7 (by omega) ((hN _).trans a1),YV (by omega)];rfl
       obtain⟨b1,_,b3⟩:=Qaq T (j+1) 1 S c _ ho h hf
       exact⟨r1,b1,by dsimp only at b3;omega,a3,a4⟩
      obtain⟨r1,f1,f2,_,f4⟩:=hrun s (Uh _)
      have f4:=f4 rfl
      subst f4
      have hrd:∀j,j<s+1->rdF (runF rows j c).1=rdF c:=λj hj=>by
       cases j with
       |zero=>rfl
       |succ j =>
        obtain⟨r2,g1,_,g3,_⟩:=hrun j (by omega)
        obtain⟨y1,y2⟩:=g3 (by omega)
        show((runF rows (j+1) c).1.st,(runF rows (j+1) c).1.f (runF rows (j+1) c).1.pl)=(c.st,c.f c.pl)
        rw[g1.st,g1.own,h.st,h.own,y1,y2]
      have ih:=Qf9 T K (w-s) r1.1 _ q' o1 f1 hq
      have hb:=Qeu (rows:=rows) (s+1) (w-s) c (rdF c) f2 hrd
      rw[show s+1+(w-s)=w+1 by omega]at hb
      -- the first step counts one
      have hfirst:cutF rows (w+1) c none=1+cutF rows (w+1) c (some (rdF c)):=by
       cases hst:Z7 rows c with
       |none=>rw[Zd hst]at f2;cases f2
       |some c'=>rw[cutF,hst];dsimp only;rw[Ud (by simp)];conv=>rhs;rw[cutF,hst];dsimp only;rw[Uc rfl,RA]
      rw[hfirst,hb]
      have hlast:cutF rows (w-s) (runF rows (s+1) c).1 (some (rdF c))=cutF rows (w-s) (runF rows (s+1) c).1 none:=by
       by_cases z:w-s=0
       ·rw[z];rfl
       ·refine Ql0 (λe=>?_) _
        have e:=(Option.some.inj e).symm
        have hm:=Qkb ho he (by omega) hl (by omega)
        apply hm
        have e1:(runF rows (s+1) c).1.st=c.st:=TY Prod.fst e
        have e2:(runF rows (s+1) c).1.f (runF rows (s+1) c).1.pl=c.f c.pl:=TY Prod.snd e
        rw[f1.st,h.st]at e1
        rw[f1.own,h.own]at e2
        exact⟨e1,e2⟩
      rw[hlast]
      dsimp only
      rw[ih]
      omega
theorem Qbt{n:Nat}(h:n<=100000):n<SZ:=Nat.lt_of_le_of_lt h (by decide)
noncomputable def stD(p:Int×Int):D:=.tup [.int p.1,.int p.2]
noncomputable def stsD(s:Sts):List D:=s.map stD
noncomputable def revD(s:Sts):List D:=(stsD s).reverse
theorem Y8(s:Sts):(revD s).length=s.length:=by simp[revD,stsD]
theorem Qa2(p:Int×Int)(r:Sts):revD (p::r)=revD r++[stD p]:=by simp[revD,stsD]
theorem QdH{g:G}{s:Nat}{o:GO}(h:g[s]?=some o):g.set s o=g:=by
 refine List.ext_getElem? λi=>?_
 by_cases z:s=i
 ·subst z;rw[QA h,h]
 ·rw[Ug z]
section
variable{s:Nat}{side:Sts}{g:G}
theorem QdI{p:Int×Int}{r:Sts}(h:g[s]?=some (.lst (revD (p::r)))):pIx (.ref s) (.int (-1)) g=.ok (stD p) g:=QdC (ds:=stsD r) h
theorem QdJ(n:Nat):ixD (n+1) (-1)=some n:=by
 unfold ixD
 rw[Ud (by omega),Uc (by omega)]
 congr 1
 omega
theorem QnO{sg c:Int}(hs:g[s]?=some (.lst (revD side)))(hn:¬(side=[]/\sg=0))(hz:side.length<90000):JI [.ref s,.int sg,.int c] g=.ok .non (g.set s (.lst (revD (putN side sg c)))):=by
 have hl:=Yn hs
 by_cases hc:c<1
 ·have:putN side sg c=side:=by unfold putN;rw[Uc hc]
  rw[this,QdH hs]
  exact QF rfl (by simp[Z2,hc])
 ·cases side with
  |nil =>
   have h0:¬sg=0:=λe=>hn ⟨rfl,e⟩
   refine JY (σ:=[some (.ref s),some (.int sg),some (.int c)]) rfl ?_
   have hs':g[s]?=some (.lst []):=hs
   simp[Z2,hc,hl,Zv,hs',Res.bind,putN,h0,pTup,SZ,revD,stsD,stD]
  |cons p r =>
   obtain⟨t,k⟩:=p
   have hlast:=QdI hs
   have hs':=hs
   rw[Qa2]at hs'
   have hz':(revD r).length+1<1000000:=by rw[Y8];simp at hz;omega
   refine JY (σ:=[some (.ref s),some (.int sg),some (.int c)]) rfl ?_
   by_cases ht:t=sg
   ·subst ht
    simp[Z2,hc,hl,hlast,stD,Y8,Z1,hs',QdJ,putN,pTup,SZ,Qa2]
   ·simp[Z2,hc,hl,hlast,stD,ht,Y8,Zv,hs',Res.bind,putN,pTup,SZ,Qa2]
    rw[Uc (by simp at hz;omega)]
theorem QiC{sg c:Int}(hs:g[s]?=some (.lst (revD side)))(hz:side.length<90000):QgV [.ref s,.int sg,.int c] g=.ok .non (g.set s (.lst (revD (putN side sg c)))):=by
 have hl:=Yn hs
 refine JY (σ:=[some (.ref s),some (.int sg),some (.int c)]) rfl ?_
 by_cases hn:side=[]/\sg=0
 ·obtain⟨rfl,rfl⟩:=hn
  have e:putN [] 0 c=[]:=by unfold putN;split <;> rfl
  rw[e,QdH hs]
  simp[QjY,hl,revD,stsD]
 ·have ha:=QnO (c:=c) hs hn hz
  cases side with
  |nil=>have h0:¬sg=0:=λe=>hn ⟨rfl,e⟩;simp[QjY,hl,h0,ha,Y8]
  |cons p r=>simp[QjY,hl,ha,Y8]
theorem Qag(side:Sts)(sg c:Int):(putN side sg c).length<=side.length+1:=by
 unfold putN
 split
 ·omega
 ·cases side with
  |nil=>dsimp only;split <;> simp
  |cons p r=>dsimp only;split <;> simp
theorem JR(side:Sts)(c:Int):(QD side c).length<=side.length:=by
 cases side with
 |nil=>exact Uh _
 |cons p r=>exact Qag r p.1 _
theorem Qfj{c:Int}(hs:g[s]?=some (.lst (revD side)))(hz:side.length<90000):Qca [.ref s,.int c] g=.ok .non (g.set s (.lst (revD (QD side c)))):=by
 have hl:=Yn hs
 cases side with
 |nil =>
  refine JY (σ:=[some (.ref s),some (.int c),none]) rfl ?_
  rw[show QD [] c=[] from rfl,QdH hs]
  simp[Qis,hl,revD,stsD]
 |cons p r =>
  obtain⟨t,k⟩:=p
  have hs':=hs
  rw[Qa2]at hs'
  have h1:(g.set s (.lst (revD r)))[s]?=some (.lst (revD r)):=QA hs
  have hp:=QiC (sg:=t) (c:=k-c) h1 (by simp at hz;omega)
  rw[Rf]at hp
  refine JY (σ:=[some (.ref s),some (.int c),some (stD (t,k))]) rfl ?_
  have e:pPop (.ref s) g=.ok (stD (t,k)) (g.set s (.lst (revD r))):=by simp[pPop,hs']
  simp[Qis,hl,Y8,e]
  simp[stD,hp]
  rfl
theorem Qcq(hs:g[s]?=some (.lst (revD side))):Q6 [.ref s] g=.ok (.int (QE side)) g:=by
 have hl:=Yn hs
 refine QF rfl ?_
 cases side with
 |nil=>simp[Jf,hl,revD,stsD,QE]
 |cons p r=>simp[Jf,hl,Y8,QdI hs];simp[stD,QE]
theorem Qga{sg c:Int}(hs:g[s]?=some (.lst (revD side))):Qcb [.ref s,.int sg,.int c] g=.ok (.int (Qm side sg c)) g:=by
 have hl:=Yn hs
 refine QF rfl ?_
 by_cases hn:QE side=sg
 ·cases side with
  |nil=>simp[Qdv,Qcq hs,hl,hn,revD,stsD,Qm]
  |cons p r =>
   have:=QdI hs
   simp[Qdv,Qcq hs,hl,hn,Y8,this,Qm]
   simp[stD,QjV]
 ·simp[Qdv,Qcq hs,hn,Qm]
end
theorem Zm:Str.ofString "state" = ⟨#[115,116,97,116,101]⟩:=by decide +kernel
theorem Ya:Str.ofString "left" = ⟨#[108,101,102,116]⟩:=by decide +kernel
theorem ZB:Str.ofString "right" = ⟨#[114,105,103,104,116]⟩:=by decide +kernel
theorem QaJ:Str.ofString "own" = ⟨#[111,119,110]⟩:=by decide +kernel
theorem Ye:Str.ofString "moved" = ⟨#[109,111,118,101,100]⟩:=by decide +kernel
theorem Ql1:Str.ofString "entry" = ⟨#[101,110,116,114,121]⟩:=by decide +kernel
theorem QnP:Str.ofString "leap" = ⟨#[108,101,97,112]⟩:=by decide +kernel
theorem QoK:Str.ofString "row" = ⟨#[114,111,119]⟩:=by decide +kernel
section
variable{t s l r o m v:D}
noncomputable def fwF(t s l r o m:D):List (Str×D):=[(Str.ofString "table",t),(Str.ofString "state",s),(Str.ofString "left",l),(Str.ofString "right",r),(Str.ofString "own",o),(Str.ofString "moved",m)]
@[simp] theorem Qn1:(fwF t s l r o m).lookup (Str.ofString "table")=some t:=by unfold fwF;rw[Zc,Zm,Ya,ZB,QaJ,Ye];rfl
@[simp] theorem Qn2:(fwF t s l r o m).lookup (Str.ofString "state")=some s:=by unfold fwF;rw[Zc,Zm,Ya,ZB,QaJ,Ye];rfl
@[simp] theorem QoL:(fwF t s l r o m).lookup (Str.ofString "left")=some l:=by unfold fwF;rw[Zc,Zm,Ya,ZB,QaJ,Ye];rfl
@[simp] theorem Qn3:(fwF t s l r o m).lookup (Str.ofString "right")=some r:=by unfold fwF;rw[Zc,Zm,Ya,ZB,QaJ,Ye];rfl
@[simp] theorem Qo6:(fwF t s l r o m).lookup (Str.ofString "own")=some o:=by unfold fwF;rw[Zc,Zm,Ya,ZB,QaJ,Ye];rfl
@[simp] theorem Qn4:(fwF t s l r o m).lookup (Str.ofString "moved")=some m:=by unfold fwF;rw[Zc,Zm,Ya,ZB,QaJ,Ye];rfl
@[simp] theorem Qn5:(fwF t s l r o m).lookup (Str.ofString "entry")=none:=by unfold fwF;rw[Zc,Zm,Ya,ZB,QaJ,Ye,Ql1];rfl
@[simp] theorem QoM:(fwF t s l r o m).lookup (Str.ofString "leap")=none:=by unfold fwF;rw[Zc,Zm,Ya,ZB,QaJ,Ye,QnP];rfl
@[simp] theorem Qo7:(fwF t s l r o m).lookup (Str.ofString "row")=none:=by unfold fwF;rw[Zc,Zm,Ya,ZB,QaJ,Ye,QoK];rfl
@[simp] theorem Qn6:putG (Str.ofString "state") v (fwF t s l r o m)=fwF t v l r o m:=by unfold fwF;rw[Zc,Zm,Ya,ZB,QaJ,Ye];rfl
@[simp] theorem Qo8:putG (Str.ofString "own") v (fwF t s l r o m)=fwF t s l r v m:=by unfold fwF;rw[Zc,Zm,Ya,ZB,QaJ,Ye];rfl
@[simp] theorem Qn7:putG (Str.ofString "moved") v (fwF t s l r o m)=fwF t s l r o v:=by unfold fwF;rw[Zc,Zm,Ya,ZB,QaJ,Ye];rfl
@[simp] theorem Qo9:(fwF t s l r o m).length=6:=rfl
@[simp] theorem Qn8{rows:List (List D)}:([(Str.ofString "table",t)]:List (Str×D)).lookup (Str.ofString "table")=some t:=by rw[Zc];rfl
theorem pi1:putG (Str.ofString "table") t []=[(Str.ofString "table",t)]:=rfl
theorem pi2:putG (Str.ofString "state") s [(Str.ofString "table",t)]=[(Str.ofString "table",t),(Str.ofString "state",s)]:=by rw[Zc,Zm];rfl
theorem pi3:putG (Str.ofString "left") l [(Str.ofString "table",t),(Str.ofString "state",s)]=[(Str.ofString "table",t),(Str.ofString "state",s),(Str.ofString "left",l)]:=by rw[Zc,Zm,Ya];rfl
theorem pi4:putG (Str.ofString "right") r [(Str.ofString "table",t),(Str.ofString "state",s),(Str.ofString "left",l)]=[(Str.ofString "table",t),(Str.ofString "state",s),(Str.ofString "left",l),(Str.ofString "right",r)]:=by rw[Zc,Zm,Ya,ZB];rfl
theorem pi5:putG (Str.ofString "own") o [(Str.ofString "table",t),(Str.ofString "state",s),(Str.ofString "left",l),(Str.ofString "right",r)]=[(Str.ofString "table",t),(Str.ofString "state",s),(Str.ofString "left",l),(Str.ofString "right",r),(Str.ofString "own",o)]:=by rw[Zc,Zm,Ya,ZB,QaJ];rfl
theorem pi6:putG (Str.ofString "moved") m [(Str.ofString "table",t),(Str.ofString "state",s),(Str.ofString "left",l),(Str.ofString "right",r),(Str.ofString "own",o)]=fwF t s l r o m:=by unfold fwF;rw[Zc,Zm,Ya,ZB,QaJ,Ye];rfl
theorem QiD:([(Str.ofString "table",t),(Str.ofString "state",s),(Str.ofString "left",l),(Str.ofString "right",r)]:List (Str×D)).lookup (Str.ofString "right")=some r:=by rw[Zc,Zm,Ya,ZB];rfl
theorem QiE:([(Str.ofString "table",t),(Str.ofString "state",s),(Str.ofString "left",l),(Str.ofString "right",r),(Str.ofString "own",o)]:List (Str×D)).lookup (Str.ofString "right")=some r:=by rw[Zc,Zm,Ya,ZB,QaJ];rfl
end
section
variable{σ:S3}{g:G}
@[simp] theorem QoN{cs:List Nat}{f:Str}{o:ME}:Yb cs f o σ g=(match o σ g with
 |.ok (.ref n) g1=>(match g1[n]? with
  |some (.ins c fs)=>if c∈cs then (match fs.lookup f with|some d=>.ok d g1|none=>.stuck) else .stuck
  |_=>.stuck)
 |.raise e g'=>.raise e g'
 |_=>.stuck):=by
 unfold Yb mOp1 Res.bind;cases o σ g with|ok d g1=>cases d <;> rfl|_=>rfl
@[simp] theorem Qml{cs:List Nat}{f:Str}{o v:ME}:QW cs f o v σ g=(match v σ g with
 |.ok y g1=>(match o σ g1 with
  |.ok (.ref n) g2=>(match g2[n]? with
   |some (.ins c fs)=>if c∈cs/\fs.length<100 then .nx σ (g2.set n (.ins c (putG f y fs))) else .stuck
   |_=>.stuck)
  |.raise e g'=>.raise e σ g'
  |_=>.stuck)
 |.raise e g'=>.raise e σ g'
 |.stuck=>.stuck):=rfl
@[simp] theorem QoO{cc:Nat}{m:Str}{f:MF}{o:ME}{a:MA}:QcO cc m f o a σ g=(match o σ g with
 |.ok (.ref n) g1=>(match g1[n]? with
  |some (.ins c fs)=>if c=cc/\fs.lookup m=none then (match a σ g1 with | .ok xs g2=>f (.ref n::xs) g2 | .raise e g'=>.raise e g' | .stuck=>.stuck) else .stuck
  |_=>.stuck)
 |.raise e g'=>.raise e g'
 |_=>.stuck):=by
 unfold QcO Res.bind;cases o σ g with
 |ok d g1 =>
  cases d with
  |ref n =>
   dsimp only
   cases g1[n]? with
   |none=>rfl
   |some x=>cases x with
    |ins c fs=>dsimp only;split <;> first|rfl|(cases a σ g1 <;> rfl)
    |_=>rfl
  |_=>rfl
 |_=>rfl
end
noncomputable def fwO(rows:List (List D))(st own mv:Int)(l r:Nat):GO:=.ins 13 (fwF (.tup (rows.map .tup)) (.int st) (.ref l) (.ref r) (.int own) (.int mv))
structure FRep(rows:List (List D))(w l r:Nat)(g:G)(S:RowN)(mv:Int):Prop where
 w':g[w]?=some (fwO rows S.st S.own mv l r)
 l':g[l]?=some (.lst (revD S.L))
 r':g[r]?=some (.lst (revD S.R))
 wl:w≠l
 wr:w≠r
 lr:l≠r
theorem Qgb{rows:List (List D)}{w l r:Nat}{g:G}{S:RowN}{mv:Int}{d:D}(W:FRep rows w l r g S mv)(h0:0<=S.own)(h:Qff rows S.st S.own.toNat=some d):Zp [.ref w] g=.ok d g:=by
 refine QF rfl ?_
 have hw:=W.w'
 unfold fwO at hw
 unfold Qff at h
 cases hr:rows[S.st]? with
 |none=>rw[hr]at h;cases h
 |some row =>
  rw[hr]at h
  have e1:pIx (.tup (rows.map .tup)) (.int S.st) g=.ok (.tup row) g:=ix_tup (by rw[Up,hr];rfl)
  have e2:pIx (.tup row) (.int S.own) g=.ok d g:=by
   have:pIx (.tup row) (.int S.own.toNat) g=.ok d g:=ix_tup h
   rw[Tm h0]at this
   exact this
  simp[JX,hw,e1,e2]
noncomputable def QnQ:MS:=(mSeq (Zh (Ql QgV (Qb (mVar 5) (Qb (mOp2 pIx (mVar 2) (mLit (.int 0))) (Qb (mVar 6) mNil)))))
 (mSeq (Zh (Ql Qca (Qb (mVar 4) (Qb (mOp2 pSub (mVar 6) (mLit (.int 1))) mNil))))
 (mSeq (QW [13] "own" (mVar 0) (Ql Q6 (Qb (mVar 4) mNil)))
 (mSeq (Zh (Ql Qca (Qb (mVar 4) (Qb (mLit (.int 1)) mNil))))
 (mSeq (QW [13] "state" (mVar 0) (mOp2 pIx (mVar 2) (mLit (.int 2))))
 (mSeq (QW [13] "moved" (mVar 0) (mIfE (Qk (mVar 3)) (mOp2 pAdd (Yb [13] "moved" (mVar 0)) (mVar 6)) (mOp2 pSub (Yb [13] "moved" (mVar 0)) (mVar 6))))
 (mRet (mVar 6))))))))
theorem Qev{w ah bh:Nat}{A B:Sts}{g:G}{T l r y:D}{st own mv a b n asked:Int}{rt:Bool}(hw:g[w]?=some (.ins 13 (fwF T (.int st) l r (.int own) (.int mv))))(ha:g[ah]?=some (.lst (revD A)))(hb:g[bh]?=some (.lst (revD B)))(h1:w≠ah)(h2:w≠bh)(h3:ah≠bh)(zA:A.length<90000)(zB:B.length<90000):
  ∃g',QnQ [some (.ref w),some (.int asked),some (.tup [.int a,y,.int b]),some (.bl rt),some (.ref ah),some (.ref bh),some (.int n)] g=.rt (.int n) g'/\Keeps [w,ah,bh] g g' /\
   g'[w]?=some (.ins 13 (fwF T (.int b) l r (.int (QE (QD A (n-1)))) (.int (if rt=true then mv+n else mv-n))))/\g'[ah]?=some (.lst (revD (QD (QD A (n-1)) 1)))/\g'[bh]?=some (.lst (revD (putN B a n))):=by
 generalize hσ:([some (.ref w),some (.int asked),some (.tup [.int a,y,.int b]),some (.bl rt),some (.ref ah),some (.ref bh),some (.int n)]:S3)=σ
 have v0:σ[0]?=some (some (.ref w)):=by rw[<-hσ];rfl
 have v2:σ[2]?=some (some (.tup [.int a,y,.int b])):=by rw[<-hσ];rfl
 have v3:σ[3]?=some (some (.bl rt)):=by rw[<-hσ];rfl
 have v4:σ[4]?=some (some (.ref ah)):=by rw[<-hσ];rfl
 have v5:σ[5]?=some (some (.ref bh)):=by rw[<-hσ];rfl
 have v6:σ[6]?=some (some (.int n)):=by rw[<-hσ];rfl
 unfold QnQ
 have e1:=QiC (sg:=a) (c:=n) hb zB
 have w1:(g.set bh (.lst (revD (putN B a n))))[w]?=_:=(Ug h2.symm).trans hw
 have a1:(g.set bh (.lst (revD (putN B a n))))[ah]?=_:=(Ug h3.symm).trans ha
 have b1:(g.set bh (.lst (revD (putN B a n))))[bh]?=some (.lst (revD (putN B a n))):=QA hb
 have k1:Keeps [w,ah,bh] g (g.set bh (.lst (revD (putN B a n)))):=(Keeps.set _ _).mono (by simp)
 generalize g.set bh (.lst (revD (putN B a n)))=g1 at e1 w1 a1 b1 k1
 have e2:=Qfj (c:=n-1) a1 zA
 have w2:(g1.set ah (.lst (revD (QD A (n-1)))))[w]?=_:=(Ug h1.symm).trans w1
 have b2:(g1.set ah (.lst (revD (QD A (n-1)))))[bh]?=_:=(Ug h3).trans b1
 have a2:(g1.set ah (.lst (revD (QD A (n-1)))))[ah]?=some (.lst (revD (QD A (n-1)))):=QA a1
 have k2:Keeps [w,ah,bh] g1 (g1.set ah (.lst (revD (QD A (n-1))))):=(Keeps.set _ _).mono (by simp)
 generalize g1.set ah (.lst (revD (QD A (n-1))))=g2 at e2 w2 a2 b2 k2
 have e3:=Qcq a2
 have zD:=JR A (n-1)
 generalize hD:QD A (n-1)=D1 at e2 a2 e3 zD
 have w3:=QA (u:=.ins 13 (fwF T (.int st) l r (.int (QE D1)) (.int mv))) w2
 have a3:(g2.set w (.ins 13 (fwF T (.int st) l r (.int (QE D1)) (.int mv))))[ah]?=_:=(Ug h1).trans a2
 have b3:(g2.set w (.ins 13 (fwF T (.int st) l r (.int (QE D1)) (.int mv))))[bh]?=_:=(Ug h2).trans b2
 have k3:Keeps [w,ah,bh] g2 (g2.set w (.ins 13 (fwF T (.int st) l r (.int (QE D1)) (.int mv)))):=(Keeps.set _ _).mono (by simp)
 have s3:QW [13] "own" (mVar 0) (Ql Q6 (Qb (mVar 4) mNil)) σ g2=.nx σ (g2.set w (.ins 13 (fwF T (.int st) l r (.int (QE D1)) (.int mv)))):=by simp[v0,v4,e3,w2]
 generalize g2.set w (.ins 13 (fwF T (.int st) l r (.int (QE D1)) (.int mv)))=g3 at w3 a3 b3 k3 s3
 have e4:=Qfj (c:=1) a3 (by omega)
 have w4:(g3.set ah (.lst (revD (QD D1 1))))[w]?=_:=(Ug h1.symm).trans w3
 have b4:(g3.set ah (.lst (revD (QD D1 1))))[bh]?=_:=(Ug h3).trans b3
 have a4:(g3.set ah (.lst (revD (QD D1 1))))[ah]?=some (.lst (revD (QD D1 1))):=QA a3
 have k4:Keeps [w,ah,bh] g3 (g3.set ah (.lst (revD (QD D1 1)))):=(Keeps.set _ _).mono (by simp)
 generalize g3.set ah (.lst (revD (QD D1 1)))=g4 at e4 w4 a4 b4 k4
 refine⟨g4.set w (.ins 13 (fwF T (.int b) l r (.int (QE D1)) (.int (if rt=true then mv+n else mv-n)))),?_,(((k1.trans k2).trans k3).trans k4).trans ((Keeps.set _ _).mono (by simp)),QA w4,(Ug h1).trans a4,(Ug h2).trans b4⟩
 refine Qf σ g1 (by simp[v2,v5,v6,e1]) (Qf σ g2 (by simp[v4,v6,e2]) (Qf σ g3 s3 (Qf σ g4 (by simp[v4,e4]) ?_)))
 have w5:=QA (u:=.ins 13 (fwF T (.int b) l r (.int (QE D1)) (.int mv))) w4
 refine Qf σ (g4.set w (.ins 13 (fwF T (.int b) l r (.int (QE D1)) (.int mv)))) (by simp[v0,v2,w4]) ?_
 cases rt <;> simp[v0,v3,v6,w5]
theorem s_r':Str.ofString "r" = rS:=s_r
theorem Ql2{rows:List (List D)}{w l r n m:Nat}{g:G}{S:RowN}{mv asked:Int}{d:D}{rr:RowN×Int×Int}(W:FRep rows w l r g S mv)(he:entOk d n m)(h0:0<=S.own)(h:Qff rows S.st S.own.toNat=some d)(hl:Yv d S asked=some rr)(zL:S.L.length<90000)(zR:S.R.length<90000):
  ∃g',YM [.ref w,.int asked] g=.ok (.int rr.2.1) g'/\FRep rows w l r g' rr.1 (mv+rr.2.2)/\Keeps [w,l,r] g g':=by
 have e0:=Qgb W h0 h
 have hw:=W.w'
 unfold fwO at hw
 rcases he with rfl|⟨a,b,y,rfl,a0,a1,b0,b1,_⟩
 ·cases hl
 ·unfold Yv at hl
  dsimp only at hl
  cases hl
  have q1:∀c:Int,Qcb [.ref r,.int S.own,.int c] g=_:=λc=>Qga (sg:=S.own) (c:=c) W.r'
  have q2:∀c:Int,Qcb [.ref l,.int S.own,.int c] g=_:=λc=>Qga (sg:=S.own) (c:=c) W.l'
  by_cases hy:y=rS
  ·rw[Uc hy]
   obtain⟨g',x1,x2,x3,x4,x5⟩:=Qev (y:=.str y) (rt:=true) (asked:=asked) (a:=a) (b:=b) (n:=QV b S.st S.R S.own asked) hw W.r' W.l' W.wr W.wl W.lr.symm zR zL
   refine⟨g',QF rfl ?_,⟨?_,x5,x4,W.wl,W.wr,W.lr⟩,x2.mono (by simp)⟩
   ·show Zy [some (.ref w),some (.int asked),none,none,none,none,none] g=_
    rw[<-x1]
    unfold Zy
    refine Qf [some (.ref w),some (.int asked),some (.tup [.int a,.str y,.int b]),none,none,none,none] g (by simp[hw,e0]) (Qf [some (.ref w),some (.int asked),some (.tup [.int a,.str y,.int b]),some (.bl true),none,none,none] g (by simp[eq_str,s_r',hy]) (Qf [some (.ref w),some (.int asked),some (.tup [.int a,.str y,.int b]),some (.bl true),some (.ref r),none,none] g (by simp[hw]) (Qf [some (.ref w),some (.int asked),some (.tup [.int a,.str y,.int b]),some (.bl true),some (.ref r),some (.ref l),none] g (by simp[hw]) (Qf [some (.ref w),some (.int asked),some (.tup [.int a,.str y,.int b]),some (.bl true),some (.ref r),some (.ref l),some (.int (QV b S.st S.R S.own asked))] g ?_ rfl))))
    by_cases hb:b=(S.st:Int) <;> simp[hw,QV,hb,q1]
   ·rw[x3];show _=some (fwO rows ((b.toNat:Nat):Int) _ _ _ _);rw[Tm b0];rfl
  ·rw[Ud hy]
   obtain⟨g',x1,x2,x3,x4,x5⟩:=Qev (y:=.str y) (rt:=false) (asked:=asked) (a:=a) (b:=b) (n:=QV b S.st S.L S.own asked) hw W.l' W.r' W.wl W.wr W.lr zL zR
   refine⟨g',QF rfl ?_,⟨?_,x4,x5,W.wl,W.wr,W.lr⟩,x2⟩
   ·show Zy [some (.ref w),some (.int asked),none,none,none,none,none] g=_
    rw[<-x1]
    unfold Zy
    refine Qf [some (.ref w),some (.int asked),some (.tup [.int a,.str y,.int b]),none,none,none,none] g (by simp[hw,e0]) (Qf [some (.ref w),some (.int asked),some (.tup [.int a,.str y,.int b]),some (.bl false),none,none,none] g (by simp[eq_str,s_r',hy]) (Qf [some (.ref w),some (.int asked),some (.tup [.int a,.str y,.int b]),some (.bl false),some (.ref l),none,none] g (by simp[hw]) (Qf [some (.ref w),some (.int asked),some (.tup [.int a,.str y,.int b]),some (.bl false),some (.ref l),some (.ref r),none] g (by simp[hw]) (Qf [some (.ref w),some (.int asked),some (.tup [.int a,.str y,.int b]),some (.bl false),some (.ref l),some (.ref r),some (.int (QV b S.st S.L S.own asked))] g ?_ rfl))))
    by_cases hb:b=(S.st:Int) <;> simp[hw,QV,hb,q2]
   ·rw[x3];show _=some (fwO rows ((b.toNat:Nat):Int) _ _ _ _);rw[Tm b0];rfl
theorem Qcr{α:Type}{s:Nat}{xs:List α}{F H:α->D}{t:MG}{e:ME}{n:Nat}{cap:List Nat}{σ:S3}{g0 g:G}{a:ME}(hs:g[s]?=some (.lst (xs.map F)))(hz:xs.length<=100000)(ha:a σ g0=.ok (.ref s) g)(I:S3->Prop)(h0:I (capt n cap σ))(step:∀x∈xs,∀σ',I σ'->∃σ1,t (F x) σ'=some σ1/\I σ1/\e σ1 g=.ok (H x) g):YH (QM a) n cap t Yr e σ g0=.ok (.ref g.length) (g++[.lst (xs.map H)]):=by
 have hit:QM a σ g0=.ok (srcL s xs.length) g:=by
  unfold QM
  rw[ha,Res.bind_ok]
  unfold J0
  dsimp only
  rw[hs]
  dsimp only
  rw[Um]
  try rfl
 obtain⟨ys,σ',g3,c1,c2,c3,_⟩:=Z6 (src:=srcL s xs.length) (t:=t) (c:=Yr) (e:=e) (n:=xs.length)
  (λi σ' g4 acc=>acc=(xs.take i).map H/\g4=g/\I σ') (λi σ' g4 acc hi hQ=>by
   obtain⟨q1,q2,q3⟩:=hQ
   subst q2
   obtain⟨σ1,e1,e2,e3⟩:=step xs[i] (UJ hi) σ' q3
   refine⟨F xs[i],σ1,g4,?_,e1,.inl ⟨H xs[i],g4,rfl,e3,?_,rfl,e2⟩⟩
   ·show(match g4[s]? with|some (.lst es)=>some es[i]? | _=>none)=_
    rw[hs];dsimp only;rw[Up,UC hi];rfl
   ·rw[q1,UW hi,T3];rfl) (λσ g4 acc hQ=>by
   show(match g4[s]? with|some (.lst es)=>some es[xs.length]? | _=>none)=_
   rw[hQ.2.1,hs];dsimp only;rw[UP (by simp)]) (xs.length+1) 0 (capt n cap σ) g [] (by omega) (by omega) ⟨rfl,rfl,h0⟩
 rw[TJ]at c2
 subst c2 c3
 exact Qco hit (Tn (Qbt hz)) rfl c1
theorem QiF{α:Type}{H:α->D}{xs:List α}(h:∀x∈xs,H x=.bl true):allB (xs.map H)=some true:=by
 induction xs with
 |nil=>rfl
 |cons p r ih =>
  rw[UG,h p (Ur ..)]
  show(allB (r.map H)).map (true && ·)=_
  rw[ih λx hx=>h x (Uq _ hx)];rfl
theorem Qg1{α:Type}{H:α->D}{xs:List α}(h:∀x∈xs,H x=.bl false):anyB (xs.map H)=some false:=by
 induction xs with
 |nil=>rfl
 |cons p r ih =>
  rw[UG,h p (Ur ..)]
  show(anyB (r.map H)).map (false || ·)=_
  rw[ih λx hx=>h x (Uq _ hx)];rfl
theorem Qcs{m:Int}:∀{s:Sts}{p:Int×Int},QU m s->p∈s->0<=p.1/\p.1<m/\1<=p.2
 |_::_,_,h,hp=>by
  rcases UL.mp hp with rfl|hp
  ·exact⟨h.1,h.2.1,h.2.2.1⟩
  ·exact Qcs h.2.2.2.2 hp
theorem Qbg{m:Int}:∀{s:Sts}{i:Nat}{x y:Int×Int},QU m s->s[i]?=some x->s[i+1]?=some y->x.1≠y.1
 |[],_,_,_,_,h,_=>by simp at h
 |p::r,0,x,y,h,hx,hy=>by
  have:p=x:=by simpa using hx
  subst this
  cases r with
  |nil=>simp at hy
  |cons q r =>
   have:q=y:=by simpa using hy
   subst this
   exact λe=>h.2.2.2.1 e.symm
 |p::r,i+1,x,y,h,hx,hy=>Qbg (s:=r) (i:=i) h.2.2.2.2 (by simpa using hx) (by simpa using hy)
theorem Qct{m:Int}:∀{s:Sts}{p:Int×Int},QU m (s++[p])->p.1≠0
 |[],_,h=>λe=>h.2.2.2.1 (by rw[e];rfl)
 |_::r,_,h=>Qct (s:=r) h.2.2.2.2
theorem Qg2{p:Int×Int}{g:G}(h1:0<=p.1)(h2:1<=p.2):Q0 [stD p] g=.ok (.bl true) g:=by
 have e:∀i:Int,Qz [.int i] g=.ok (.bl (decide (0<=i))) g:=λi=>rfl
 have e2:pLen (.tup [.int p.1,.int p.2]) g=.ok (.int 2) g:=rfl
 have e3:Z8 .tuple (.tup [.int p.1,.int p.2]) g=.ok (.bl true) g:=rfl
 exact QF rfl (by simp[Y1,stD,e,e2,e3,h1,show 0<=p.2 by omega,show 0<p.2 by omega])
theorem cut1(xs:List D):cutD xs (some 1) none=xs.drop 1:=by
 unfold cutD sIxD
 cases xs with
 |nil=>rfl
 |cons x r=>simp
theorem Qah(side:Sts):side=[]\/∃a p,side=a++[p]:=by
 rcases List.eq_nil_or_concat side with h|⟨a,p,h⟩
 ·exact .inl h
 ·exact .inr ⟨a,p,by simpa using h⟩
theorem Qa3{s m:Nat}{side:Sts}{g:G}(hs:g[s]?=some (.lst (stsD side)))(hG:QU m side)(hz:side.length<=90000):∃g',ZY [.ref s] g=.ok .non g'/\Keeps [] g g':=by
 have hl:=Yn hs
 have c1:=Qcr (F:=stD) (H:=λ_=>.bl true) (t:=gSet 0) (e:=Ql Q0 (Qb (mVar 0) mNil)) (n:=1) (cap:=[]) (σ:=[some (.ref s),none,none]) (a:=mVar 0) hs (by omega) rfl (λσ=>∃u,σ=[u]) ⟨_,rfl⟩ (λx hx σ' ⟨u,hu⟩=>by
  have h1:=Qcs hG hx
  subst hu
  exact⟨[some (stD x)],rfl,⟨_,rfl⟩,by simp[Qg2 h1.1 h1.2.2]⟩)
 have a1:allB (side.map λ_=>D.bl true)=some true:=QiF λ_ _=>rfl
 have hk:Keeps [] g (g++[.lst (side.map λ_=>D.bl true)]):=.push _
 have p1:pAll (.ref g.length) (g++[.lst (side.map λ_=>D.bl true)])=.ok (.bl true) (g++[.lst (side.map λ_=>D.bl true)]):=by simp[pAll,a1]
 generalize g++[.lst (side.map λ_=>D.bl true)]=g1 at c1 hk p1
 have hs1:=hk.at' _ _ (by simp) hs
 have t0:Qbr (.ref s) g=.ok (.bl true) g:=by unfold Qbr tyOf;dsimp only;rw[hs];rfl
 have s1:JW (.ref s) (some 1) none g1=.ok (.ref g1.length) (g1++[.lst ((stsD side).drop 1)]):=by unfold JW;dsimp only;rw[hs1];dsimp only;rw[cut1]
 have k2:Keeps [] g1 (g1++[.lst ((stsD side).drop 1)]):=.push _
 have r2:=Qq (g:=g1) (.lst ((stsD side).drop 1))
 generalize hr:g1.length=r at s1 r2
 generalize g1++[.lst ((stsD side).drop 1)]=g2 at s1 k2 r2
 have hs2:=k2.at' _ _ (by simp) hs1
 have q1:=YT hs2
 have q2:=YT r2
 have hlen:(stsD side).length=side.length:=by simp[stsD]
 have hz2:∃src,Qbq (.ref s) (.ref r) g2=.ok src g2/\src.top=side.length-1/\(∀i,i<side.length-1->∃x y,side[i]?=some x/\side[i+1]?=some y/\src.at' g2 i=some (some (.tup [stD x,stD y])))/\src.at' g2 (side.length-1)=some none:=by
  unfold Qbq
  rw[q1,q2]
  refine⟨_,rfl,by simp[hlen],λi hi=>?_,?_⟩
  ·have e1:(stsD side)[i]?=some (stD (side[i]'(by omega))):=by unfold stsD;rw[Up,UC (by omega)];rfl
   have e2:((stsD side).drop 1)[i]?=some (stD (side[i+1]'(by omega))):=by unfold stsD;rw[List.getElem?_drop,Up,show 1+i=i+1 by omega,UC (by omega)];rfl
   exact⟨_,_,UC (by omega),UC (by omega),by dsimp only;rw[q1,q2];dsimp only;rw[e1,e2]⟩
  ·dsimp only;rw[q1,q2];dsimp only
   rw[show((stsD side).drop 1)[side.length-1]?=none from UP (by rw[TF,hlen];omega)]
   cases (stsD side)[side.length-1]? <;> rfl
 obtain⟨src,z1,z2,z3,z4⟩:=hz2
 obtain⟨σ',g',f1,rfl,y1,y2,rfl⟩:=Qfb (t:=Yl [gSet 1,gSet 2]) (body:=QT) (σ:=[some (.ref s),none,none]) (g:=g2) z2 (λ_ σ g'=>g'=g2/\∃y1 y2,σ=[some (.ref s),y1,y2]) ⟨rfl,_,_,rfl⟩ (λi σ g' hi ⟨q,y1,y2,hσ⟩=>by
  subst q hσ
  obtain⟨x,y,hx,hy,hat⟩:=z3 i hi
  refine⟨_,[some (.ref s),some (stD x),some (stD y)],[some (.ref s),some (stD x),some (stD y)],g',hat,rfl,?_,rfl,_,_,rfl⟩
  have:=Qbg hG hx hy
  simp[QT,stD,this]) (λσ g' ⟨q,_⟩=>by rw[q];exact z4)
 refine⟨g',JY rfl (?_:QC [some (.ref s),none,none] g=.nx [some (.ref s),y1,y2] g'),hk.trans k2⟩
 unfold QC
 refine Qf [some (.ref s),none,none] g1 ?_ (Qf [some (.ref s),y1,y2] g' ?_ ?_)
 ·have:Qk (mOp1 pAll (YH (QM (mVar 0)) 1 [] (gSet 0) Yr (Ql Q0 (Qb (mVar 0) mNil)))) [some (.ref s),none,none] g=.ok true g1:=Yu (YS c1 p1)
  exact iff' g1 (by rw[QkY,Qfe,Qix,QnK,QkX];simp only[Tf,t0];rw[Qfe,this];rfl) rfl
 ·have e:Qax (mVar 0) (ZU (mVar 0) (Jc (mLit (.int 1))) Zi) [some (.ref s),none,none] g1=.ok src g':=by
   unfold Qax ZU Jc Zi
   simp[Res.bind,s1,z1]
  unfold mFor
  rw[e]
  exact f1
 ·have hl2:=Yn hs2
  rcases Qah side with rfl|⟨a,p,rfl⟩
  ·simp[hl2,stsD]
  ·have h3:pIx (.ref s) (.int (-1)) g'=.ok (stD p) g':=by
    have:g'[s]?=some (.lst (stD p::(stsD a).reverse).reverse):=by rw[hs2];simp[stsD]
    exact QdC this
   have:=Qct hG
   simp[hl2,hlen,h3]
   simp[stD,this]
structure StR(n m:Nat)(g:G)(d:D)(st:Nat)(L R:Sts)(a b:Nat):Prop where
 d':d=.tup [.int st,.ref a,.ref b]
 a':g[a]?=some (.lst (stsD L))
 b':g[b]?=some (.lst (stsD R))
 L':QU m L
 R':QU m R
 s':st<n
theorem StR.mono{n m:Nat}{g g1:G}{d:D}{st:Nat}{L R:Sts}{a b:Nat}(h:StR n m g d st L R a b)(k:Keeps [] g g1):StR n m g1 d st L R a b :=
 ⟨h.d',k.at' _ _ (by simp) h.a',k.at' _ _ (by simp) h.b',h.L',h.R',h.s'⟩
theorem Qfk{n m:Nat}{g:G}{d:D}{st:Nat}{L R:Sts}{a b:Nat}(h:StR n m g d st L R a b)(zL:L.length<=90000)(zR:R.length<=90000):∃g',QS [d] g=.ok .non g'/\Keeps [] g g':=by
 obtain⟨g1,e1,k1⟩:=Qa3 h.a' h.L' zL
 obtain⟨g2,e2,k2⟩:=Qa3 (k1.at' _ _ (by simp) h.b') h.R' zR
 have hd:=h.d'
 subst hd
 refine⟨g2,JY (σ:=[some (.tup [.int st,.ref a,.ref b])]) rfl ?_,k1.trans k2⟩
 have e:∀i:Int,Qz [.int i] g=.ok (.bl (decide (0<=i))) g:=λi=>rfl
 have e3:pLen (.tup [.int st,.ref a,.ref b]) g=.ok (.int 3) g:=rfl
 have e4:Z8 .tuple (.tup [.int st,.ref a,.ref b]) g=.ok (.bl true) g:=rfl
 simp[QR,e,e1,e2,e3,e4]
theorem QkZ{s m:Nat}{side:Sts}{g:G}{σ:S3}{d0 d1 d3:Option D}(hσ:σ=[d0,d1,some (.int m),some (.ref s)])(hs:g[s]?=some (.lst (stsD side)))(hG:QU m side)(hz:side.length<=90000):Qt σ g=.nx σ (g++[.lst (side.map λ_=>D.bl false)]):=by
 subst hσ
 have c1:=Qcr (F:=stD) (H:=λ_=>.bl false) (t:=Yl [gSet 0,gSet 1]) (e:=mOp2 pGe (mVar 0) (mVar 2)) (n:=2) (cap:=[2]) (σ:=[d0,d1,some (.int m),some (.ref s)]) (a:=mVar 3) hs (by omega) rfl (λσ=>∃u v,σ=[u,v,some (.int m)]) ⟨_,_,rfl⟩ (λx hx σ' ⟨u,v,hu⟩=>by
  have h1:=Qcs hG hx
  subst hu
  exact⟨[some (.int x.1),some (.int x.2),some (.int m)],rfl,⟨_,_,rfl⟩,by simp;omega⟩)
 have a1:anyB (side.map λ_=>D.bl false)=some false:=Qg1 λ_ _=>rfl
 have p1:pAny (.ref g.length) (g++[.lst (side.map λ_=>D.bl false)])=.ok (.bl false) (g++[.lst (side.map λ_=>D.bl false)]):=by simp[pAny,a1]
 unfold Qt
 exact iff' _ (Yu (YS c1 p1)) rfl
theorem Qgc{M:Nat}{rows:List (List D)}{g:G}(hM:g[M]?=some (JO rows)):JH [.ref M] g=.ok (.int rows.length) g:=by
 refine QF rfl ?_
 unfold JO at hM
 simp[Qb9,hM,pLen]
theorem Qgd{M m:Nat}{rows:List (List D)}{g:G}(hM:g[M]?=some (JO rows))(h0:0<rows.length)(hr:∀r∈rows,r.length=m):Qbf [.ref M] g=.ok (.int m) g:=by
 refine QF rfl ?_
 unfold JO at hM
 cases rows with
 |nil=>simp at h0
 |cons r rest =>
  have:=hr r (Ur ..)
  simp[Qc8,hM,pLen,this]
theorem QdK{n m M:Nat}{rows:List (List D)}{g:G}{d:D}{st:Nat}{L R:Sts}{a b:Nat}(T:Tb rows n m)(hM:g[M]?=some (JO rows))(h:StR n m g d st L R a b)(zL:L.length<=90000)(zR:R.length<=90000):∃g',Q1 [.ref M,d] g=.ok .non g'/\Keeps [] g g':=by
 obtain⟨g1,e1,k1⟩:=Qfk h zL zR
 have hM1:=k1.at' _ _ (by simp) hM
 have e2:=Qgc hM1
 have e3:=Qgd hM1 (by rw[T.len];exact T.n0) T.row
 have h1:=h.mono k1
 have hd:=h.d'
 subst hd
 have hst:=h.s'
 generalize hx:([some (.ref M),some (.tup [.int st,.ref a,.ref b]),some (.int m)]:S3)=σ0
 have s1:=QkZ (d0:=some (.ref M)) (d1:=some (.tup [.int st,.ref a,.ref b])) (d3:=none) rfl h1.a' h1.L' zL
 have k2:Keeps [] g1 (g1++[.lst (L.map λ_=>D.bl false)]):=.push _
 generalize g1++[.lst (L.map λ_=>D.bl false)]=g2 at s1 k2
 have h2:=h1.mono k2
 have s2:=QkZ (d0:=some (.ref M)) (d1:=some (.tup [.int st,.ref a,.ref b])) (d3:=none) rfl h2.b' h2.R' zR
 have k3:Keeps [] g2 (g2++[.lst (R.map λ_=>D.bl false)]):=.push _
 generalize g2++[.lst (R.map λ_=>D.bl false)]=g3 at s2 k3
 refine⟨g3,JY (σ:=[some (.ref M),some (.tup [.int st,.ref a,.ref b]),some (.int m),some (.ref b)]) rfl ?_,(k1.trans k2).trans k3⟩
 unfold Qx
 refine Qf [some (.ref M),some (.tup [.int st,.ref a,.ref b]),none,none] g1 (by simp[e1]) (Qf [some (.ref M),some (.tup [.int st,.ref a,.ref b]),none,none] g1 (by simp[e2,T.len];intro z;omega) (Qf [some (.ref M),some (.tup [.int st,.ref a,.ref b]),some (.int m),none] g1 (by simp[e3]) ?_))
 have e5:QM (ZU (mVar 1) (Jc (mLit (.int 1))) Zi) [some (.ref M),some (.tup [.int st,.ref a,.ref b]),some (.int m),none] g1=.ok ⟨λ_ i=>some ([D.ref a,D.ref b]:List D)[i]?,2⟩ g1:=rfl
 rw[Z9 e5]
 show forL _ _ _ 3 0 _ _=_
 simp[forL,gSet,s1,s2]
theorem Qar{s:Nat}{ds:List D}{g:G}(hs:g[s]?=some (.lst ds)):ZP (.ref s) g=.ok (.ref g.length) (g++[.lst ds.reverse]):=by unfold ZP;rw[YT hs]
theorem Yo{g:G}{t:List GO}{M:Nat}{o:GO}(h:g[M]?=some o):(g++t)[M]?=some o:=by rw[Uw (Q2 h)];exact h
theorem gt0{g:G}{t:List GO}{o:GO}:(g++o::t)[g.length]?=some o:=by simp
theorem gt1{g:G}{t:List GO}{o p:GO}:(g++p::o::t)[g.length+1]?=some o:=by simp
theorem gt2{g:G}{t:List GO}{o p q:GO}:(g++q::p::o::t)[g.length+2]?=some o:=by simp
theorem st0{g:G}{t:List GO}{o u:GO}:(g++o::t).set g.length u=g++u::t:=by simp
theorem st2{g:G}{t:List GO}{o p q u:GO}:(g++q::p::o::t).set (g.length+2) u=g++q::p::u::t:=by rw[List.set_append_right _ _ (by omega)];simp
theorem Ql3{n m M:Nat}{rows:List (List D)}{g:G}{d:D}{st:Nat}{L R:Sts}{a b:Nat}{σ:S3}(hM:g[M]?=some (JO rows))(h:StR n m g d st L R a b)(zR:R.length<90000)(v0:σ[0]?=some (some (.ref M)))(v1:σ[1]?=some (some d)):
  ∃w l r g',Qdj 13 Z3 (Qb (mVar 0) (Qb (mVar 1) mNil)) σ g=.ok (.ref w) g'/\FRep rows w l r g' ⟨st,L,QE R,QD R 1⟩ 0/\g.length<=w/\g.length<=l/\g.length<=r/\Keeps [] g g':=by
 have hd:=h.d'
 subst hd
 unfold JO at hM
 have zz:(QD R 1).length<90000:=by have:=JR R 1;omega
 let σ0:S3:=[some (.ref g.length),some (.ref M),some (.tup [.int st,.ref a,.ref b])]
 have hi:Z3 [.ref g.length,.ref M,.tup [.int st,.ref a,.ref b]] (g++[.ins 13 []])=.ok .non (g++[fwO rows st (QE R) 0 (g.length+1) (g.length+2),.lst (revD L),.lst (revD (QD R 1))]):=by
  refine JY (σ:=σ0) rfl ?_
  show YL σ0 (g++[.ins 13 []])=_
  unfold YL
  refine Qf σ0 (g++[.ins 13 [(Str.ofString "table",.tup (rows.map .tup))]]) (by simp[σ0,Yo hM,pi1]) ?_
  refine Qf σ0 (g++[.ins 13 [(Str.ofString "table",.tup (rows.map .tup)),(Str.ofString "state",.int st)]]) (by simp[σ0,pi2]) ?_
  have q1:ZP (.ref a) (g++[.ins 13 [(Str.ofString "table",.tup (rows.map .tup)),(Str.ofString "state",.int st)]])=.ok (.ref (g.length+1)) (g++[.ins 13 [(Str.ofString "table",.tup (rows.map .tup)),(Str.ofString "state",.int st)],.lst (revD L)]):=by rw[Qar (Yo h.a')];simp[revD]
  refine Qf σ0 (g++[.ins 13 [(Str.ofString "table",.tup (rows.map .tup)),(Str.ofString "state",.int st),(Str.ofString "left",.ref (g.length+1))],.lst (revD L)]) (by simp[σ0,q1,pi3]) ?_
  have q2:ZP (.ref b) (g++[.ins 13 [(Str.ofString "table",.tup (rows.map .tup)),(Str.ofString "state",.int st),(Str.ofString "left",.ref (g.length+1))],.lst (revD L)])=.ok (.ref (g.length+2)) (g++[.ins 13 [(Str.ofString "table",.tup (rows.map .tup)),(Str.ofString "state",.int st),(Str.ofString "left",.ref (g.length+1))],.lst (revD L),.lst (revD R)]):=by rw[Qar (Yo h.b')];simp[revD]
  refine Qf σ0 (g++[.ins 13 [(Str.ofString "table",.tup (rows.map .tup)),(Str.ofString "state",.int st),(Str.ofString "left",.ref (g.length+1)),(Str.ofString "right",.ref (g.length+2))],.lst (revD L),.lst (revD R)]) (by simp[σ0,q2,pi4]) ?_
  have q3:=Qcq (gt2 (g:=g) (t:=[]) (q:=.ins 13 [(Str.ofString "table",.tup (rows.map .tup)),(Str.ofString "state",.int st),(Str.ofString "left",.ref (g.length+1)),(Str.ofString "right",.ref (g.length+2))]) (p:=.lst (revD L)) (o:=.lst (revD R)))
  refine Qf σ0 (g++[.ins 13 [(Str.ofString "table",.tup (rows.map .tup)),(Str.ofString "state",.int st),(Str.ofString "left",.ref (g.length+1)),(Str.ofString "right",.ref (g.length+2)),(Str.ofString "own",.int (QE R))],.lst (revD L),.lst (revD R)]) (by simp[σ0,QiD,q3,pi5]) ?_
  have q4:=Qfj (c:=1) (gt2 (g:=g) (t:=[]) (q:=.ins 13 [(Str.ofString "table",.tup (rows.map .tup)),(Str.ofString "state",.int st),(Str.ofString "left",.ref (g.length+1)),(Str.ofString "right",.ref (g.length+2)),(Str.ofString "own",.int (QE R))]) (p:=.lst (revD L)) (o:=.lst (revD R))) zR
  rw[st2]at q4
  refine Qf σ0 (g++[.ins 13 [(Str.ofString "table",.tup (rows.map .tup)),(Str.ofString "state",.int st),(Str.ofString "left",.ref (g.length+1)),(Str.ofString "right",.ref (g.length+2)),(Str.ofString "own",.int (QE R))],.lst (revD L),.lst (revD (QD R 1))]) (by simp[σ0,QiE,q4]) ?_
  simp[σ0,pi6,fwO]
 refine⟨g.length,g.length+1,g.length+2,g++[fwO rows st (QE R) 0 (g.length+1) (g.length+2),.lst (revD L),.lst (revD (QD R 1))],?_,⟨gt0,gt1,gt2,by omega,by omega,by omega⟩,by omega,by omega,by omega,⟨by simp,λk o _ e=>Yo e⟩⟩
 unfold Qdj
 simp[v0,v1,Res.bind,hi]
theorem QnR{rows:List (List D)}{w l r:Nat}{g:G}{S:RowN}{mv:Int}(W:FRep rows w l r g S mv)(zR:S.R.length<90000):
  ∃a b g',Yj [.ref w] g=.ok (.tup [.int S.st,.ref a,.ref b]) g'/\Keeps [] g g'/\g.length<=a/\a<b/\g'[a]?=some (.lst (stsD S.L))/\g'[b]?=some (.lst (stsD (putN S.R S.own 1))):=by
 have hw:=W.w'
 unfold fwO at hw
 refine⟨g.length+1,g.length+2,g++[.lst (revD (putN S.R S.own 1)),.lst (stsD S.L),.lst (stsD (putN S.R S.own 1))],QF rfl ?_,⟨by simp,λk o _ e=>Yo e⟩,by omega,by omega,gt1,gt2⟩
 show Jg [some (.ref w),none] g=_
 unfold Jg
 have q1:Qba (.ref r) g=.ok (.ref g.length) (g++[.lst (revD S.R)]):=by simp[Qba,W.r']
 refine Qf [some (.ref w),some (.ref g.length)] (g++[.lst (revD S.R)]) (by simp[hw,q1]) ?_
 have q2:=QiC (sg:=S.own) (c:=1) (gt0 (g:=g) (t:=[]) (o:=.lst (revD S.R))) zR
 rw[st0]at q2
 refine Qf [some (.ref w),some (.ref g.length)] (g++[.lst (revD (putN S.R S.own 1))]) (by simp[Yo hw,q2]) ?_
 have q3:ZP (.ref l) (g++[.lst (revD (putN S.R S.own 1))])=.ok (.ref (g.length+1)) (g++[.lst (revD (putN S.R S.own 1)),.lst (stsD S.L)]):=by rw[Qar (Yo W.l')];simp[revD]
 have q4:ZP (.ref g.length) (g++[.lst (revD (putN S.R S.own 1)),.lst (stsD S.L)])=.ok (.ref (g.length+2)) (g++[.lst (revD (putN S.R S.own 1)),.lst (stsD S.L),.lst (stsD (putN S.R S.own 1))]):=by rw[Qar gt0];simp[revD]
 simp[Yo hw,q3,q4,pTup,SZ]
theorem Qas{c:MT}{body:MS}:∀(f:Nat)(σ:S3)(g:G),ZH c body f σ g≠.stuck->∀f',f<=f'->ZH c body f' σ g=ZH c body f σ g
 |0,_,_,h,_,_=>absurd rfl h
 |f+1,σ,g,h,f',hf=>by
  obtain⟨k,rfl⟩:∃k,f'=k+1:=⟨f' - 1,by omega⟩
  unfold ZH at h ⊢
  cases hc:c σ g with
  |stuck=>rfl
  |raise e g1=>rfl
  |ok b g1 =>
   cases b with
   |false=>rfl
   |true =>
    rw[hc]at h
    dsimp only at h ⊢
    cases hb:body σ g1 with
    |nx σ2 g2=>rw[hb]at h;exact Qas f σ2 g2 h k (by omega)
    |ct σ2 g2=>rw[hb]at h;exact Qas f σ2 g2 h k (by omega)
    |bk σ2 g2=>rfl
    |rt d g2=>rfl
    |raise e σ2 g2=>rfl
    |stuck=>rfl
theorem QbM{c:MT}{body:MS}{f:Nat}{σ:S3}{g:G}{R:Out}(h:ZH c body f σ g=R)(hR:R≠.stuck):Qb0 c body σ g=R:=by
 have hx:∃f,ZH c body f σ g≠.stuck:=⟨f,by rw[h];exact hR⟩
 unfold Qb0
 rw[dif_pos hx]
 have h1:=hx.choose_spec
 rcases Nat.le_total f hx.choose with z|z
 ·rw[Qas f σ g (by rw[h];exact hR) _ z,h]
 ·rw[<-Qas _ σ g h1 f z,h]
theorem Keeps.over{S:List Nat}{g g1 g2:G}(a:Keeps [] g g1)(b:Keeps S g1 g2)(h:∀n∈S,g.length<=n):Keeps [] g g2 :=
 ⟨Uv a.len b.len,λn o _ e=>b.at' n o (λz=>by have:=h n z;have:=Q2 e;omega) (a.at' n o (by simp) e)⟩
theorem Qkc{d:D}{S:RowN}{w:Int}{r:RowN×Int×Int}(h:Yv d S w=some r):r.1.L.length+r.1.R.length<=S.L.length+S.R.length+1:=by
 unfold Yv at h
 split at h
 ·rename_i a y b
  cases h
  split
  ·have:=Qag S.L a (QV b S.st S.R S.own w)
   have:=JR S.R (QV b S.st S.R S.own w-1)
   have:=JR (QD S.R (QV b S.st S.R S.own w-1)) 1
   dsimp only;omega
  ·have:=Qag S.R a (QV b S.st S.L S.own w)
   have:=JR S.L (QV b S.st S.L S.own w-1)
   have:=JR (QD S.L (QV b S.st S.L S.own w-1)) 1
   dsimp only;omega
 ·cases h
noncomputable def Qg3:MT:=(JZ (Qk (mOp2 pLt (mVar 5) (mVar 2))) (Qk (mOp2 QaQ (QcO 13 (Str.ofString "entry") Zp (mVar 4) mNil) (mLit .non))))
noncomputable def Jx(M:Nat)(d:D)(steps most:Int)(w:Nat)(done leaps:Int):S3:=[some (.ref M),some d,some (.int steps),some (.int most),some (.ref w),some (.int done),some (.int leaps)]
theorem Qew{rows:List (List D)}{n m M w l r:Nat}{d:D}{steps most:Int}(T:Tb rows n m):∀(k:Nat)(S:RowN)(g:G)(done leaps mv:Int),OkN n m S->FRep rows w l r g S mv->(leaps+k=most\/(k=0/\most<=leaps))->S.L.length+S.R.length+min k (steps-done).toNat<80000 ->
  ∃g',Keeps [w,l,r] g g'/\(match runN rows k S (steps-done) with
   |some q=>ZH Qg3 QP (k+2) (Jx M d steps most w done leaps) g=.nx (Jx M d steps most w (done+q.2.2.1) (leaps+q.2.2.2)) g'/\FRep rows w l r g' q.1 (mv+q.2.1)/\q.1.L.length+q.1.R.length<=S.L.length+S.R.length+min k (steps-done).toNat
   |none=>∃σ',ZH Qg3 QP (k+2) (Jx M d steps most w done leaps) g=.raise (6,none) σ' g')
 |k,S,g,done,leaps,mv,ho,W,hm,hz=>by
  have h0:=ho.o0;have h1:=ho.o1
  obtain⟨row,e,_,_,he,hat⟩:=T.at ho.st (c:=S.own.toNat) (by omega)
  have hw:=W.w'
  unfold fwO at hw
  have e0:=Qgb W h0 hat
  unfold ZH
  have tc:Qg3 (Jx M d steps most w done leaps) g=.ok (decide (done<steps) && !isNon e) g:=by
   unfold Qg3 Jx
   by_cases z:done<steps <;> simp[z,hw,e0,QaQ]
  have hN:∀u,YU rows S u=Yv e S u:=λu=>by unfold YU;rw[hat];rfl
  by_cases z:done<steps
  ·rcases he with rfl|⟨a,b,y,rfl,he⟩
   ·rw[Qaf (by rw[hN];rfl)]
    refine⟨g,.refl,?_,by simpa using W,by dsimp only;omega⟩
    rw[tc,Uz z];simp[isNon]
   ·have he':entOk (.tup [.int a,.str y,.int b]) n m:=.inr ⟨a,b,y,rfl,he⟩
    have tt:Qg3 (Jx M d steps most w done leaps) g=.ok true g:=by rw[tc,Uz z];rfl
    rw[tt]
    dsimp only
    obtain⟨rr,hl⟩:∃rr,Yv (.tup [.int a,.str y,.int b]) S (steps-done)=some rr:=⟨_,rfl⟩
    cases k with
    |zero =>
     rw[Qfi (by omega) ((hN _).trans hl)]
     refine⟨g,.refl,Jx M d steps most w done leaps,?_⟩
     have eb:QP (Jx M d steps most w done leaps) g=.raise (6,none) (Jx M d steps most w done leaps) g:=by
      unfold QP
      refine Qeq (ift g ?_ ?_)
      ·unfold Jx;simp;omega
      ·simp[Yx,SZ]
     rw[eb]
    |succ k =>
     obtain⟨g1,x1,x2,x3⟩:=Ql2 W he' h0 hat hl (by omega) (by omega)
     have hln:=Qkc hl
     obtain⟨o1,s1,s2⟩:=Qfh ho he' T.m0 (by omega) hl
     obtain⟨g2,k2,y2⟩:=Qew (d:=d) (M:=M) (steps:=steps) (most:=most) T k rr.1 g1 (done+rr.2.1) (leaps+1) (mv+rr.2.2) o1 x2 (by omega) (by omega)
     have eb:QP (Jx M d steps most w done leaps) g=.nx (Jx M d steps most w (done+rr.2.1) (leaps+1)) g1:=by
      unfold QP
      refine Qf (Jx M d steps most w done leaps) g (iff' g ?_ rfl) (Qf (Jx M d steps most w (done+rr.2.1) leaps) g1 ?_ ?_)
      ·unfold Jx;simp;omega
      ·unfold Jx;simp[hw,x1]
      ·unfold Jx;simp
     refine⟨g2,x3.trans k2,?_⟩
     rw[eb]
     dsimp only
     rw[Y7 (by omega) ((hN _).trans hl),show steps-done-rr.2.1=steps - (done+rr.2.1) by omega]
     cases hr:runN rows k rr.1 (steps - (done+rr.2.1)) with
     |none=>rw[hr]at y2;exact y2
     |some q =>
      rw[hr]at y2
      obtain⟨z1,z2,z3⟩:=y2
      dsimp only[Option.map]
      refine⟨?_,?_,by omega⟩
      ·rw[z1];congr 2 <;> omega
      ·rw[<-WF];exact z2
  ·rw[YV (by omega)]
   refine⟨g,.refl,?_,by simpa using W,by dsimp only;omega⟩
   rw[tc,Ul z];simp
theorem Ql4{rows:List (List D)}{n m M k:Nat}{d:D}{steps most:Int}{g:G}{st:Nat}{L R:Sts}{a b:Nat}(T:Tb rows n m)(hM:g[M]?=some (JO rows))(h:StR n m g d st L R a b)(hz:L.length+R.length+min k steps.toNat<80000)(hk:most=k\/(k=0/\most<=0)):
  ∃g',Keeps [] g g'/\(match runN rows k ⟨st,L,QE R,QD R 1⟩ steps with
   |some q=>∃a' b',YO [.ref M,d,.int steps,.int most] g=.ok (.tup [.tup [.int q.1.st,.ref a',.ref b'],.int q.2.1,.int q.2.2.1,.int q.2.2.2]) g'/\StR n m g' (.tup [.int q.1.st,.ref a',.ref b']) q.1.st q.1.L (putN q.1.R q.1.own 1) a' b'/\q.1.L.length+q.1.R.length<=L.length+R.length+min k steps.toNat/\g.length<=a'/\g.length<=b'
   |none=>YO [.ref M,d,.int steps,.int most] g=.raise (6,none) g'):=by
 obtain⟨g1,e1,k1⟩:=QdK T hM h (by omega) (by omega)
 have hM1:=k1.at' _ _ (by simp) hM
 obtain⟨w,l,r,g2,e2,W2,w1,w2,w3,k2⟩:=Ql3 (σ:=[some (.ref M),some d,some (.int steps),some (.int most),none,none,none]) hM1 (h.mono k1) (by omega) rfl rfl
 have hn:=Qfg h.R' T.m0
 have ho:OkN n m ⟨st,L,QE R,QD R 1⟩:=⟨h.s',hn.1,hn.2,h.L',Jv h.R'⟩
 have hdl:=JR R 1
 obtain⟨g3,k3,y3⟩:=Qew (M:=M) (d:=d) (steps:=steps) (most:=most) T k _ g2 0 0 0 ho W2 (by omega) (by dsimp only;omega)
 simp only[Int.sub_zero]at y3
 have hk3:Keeps [] g g3:=(k1.trans k2).over k3 (λx hx=>by have:=k1.len;simp at hx;rcases hx with rfl|rfl|rfl <;> omega)
 have hpre:∀R',mSeq (Qb0 Qg3 QP) (mRet (mOpA pTup (Qb (QcO 13 (Str.ofString "row") Yj (mVar 4) mNil) (Qb (Yb [13] "moved" (mVar 4)) (Qb (mVar 5) (Qb (mVar 6) mNil)))))) (Jx M d steps most w 0 0) g2=R'->YN [some (.ref M),some d,some (.int steps),some (.int most),none,none,none] g=R':=λR' hR=>by
  unfold YN
  exact Qf _ g1 (by simp[e1]) (Qf [some (.ref M),some d,some (.int steps),some (.int most),some (.ref w),none,none] g2 (Zq e2) (Qf [some (.ref M),some d,some (.int steps),some (.int most),some (.ref w),some (.int 0),none] g2 rfl (Qf (Jx M d steps most w 0 0) g2 rfl hR)))
 cases hr:runN rows k ⟨st,L,QE R,QD R 1⟩ steps with
 |none =>
  rw[hr]at y3
  obtain⟨σ',y3⟩:=y3
  exact⟨g3,hk3,ZA rfl (hpre _ (Qeq (QbM y3 (by intro z;cases z))))⟩
 |some q =>
  rw[hr]at y3
  obtain⟨y4,W3,hln⟩:=y3
  try dsimp only at hln
  obtain⟨a',b',g4,e4,k4,l1,l2,a4,b4⟩:=QnR W3 (by omega)
  have h3:=Qf8 T k _ steps q ho
  have hq:OkN n m q.1:=by
   by_cases z:0<=steps
   ·exact(h3 z hr).1
   ·rw[YV (by omega)]at hr;cases hr;exact ho
  refine⟨g4,hk3.trans k4,a',b',QF rfl (hpre _ (Qf _ g3 (QbM y4 (by intro z;cases z)) ?_)),⟨rfl,a4,b4,hq.L,YB hq.R hq.o0 hq.o1,hq.st⟩,by omega,by have:=hk3.len;omega,by have:=hk3.len;omega⟩
  have hw:=W3.w'
  unfold fwO at hw
  have hw4:=k4.at' _ _ (by simp) hw
  unfold Jx
  simp[hw,e4,hw4,pTup,SZ]
inductive Sm(g:G):Nat->D->D->Prop
 |int (f:Nat) (i:Int):Sm g (f+1) (.int i) (.int i)
 |seq (f:Nat) (x y:D) (b:Bool) (xs ys:List D) (h1:QG g x=some (b,xs)) (h2:QG g y=some (b,ys)) (hl:xs.length=ys.length) (hz:xs.length<=1000) (hi:∀(i:Nat) u v,xs[i]?=some u->ys[i]?=some v->Sm g f u v):Sm g (f+1) x y
theorem YE{g g1:G}{x:D}{p:Bool×List D}(h:QG g x=some p)(k:Keeps [] g g1):QG g1 x=some p:=by
 cases x with
 |ref n =>
  unfold QG at h ⊢
  dsimp only at h ⊢
  cases hg:g[n]? with
  |none=>rw[hg]at h;cases h
  |some o =>
   rw[hg]at h
   rw[k.at' _ _ (by simp) hg]
   exact h
 |_=>exact h
theorem Qge{g:G}{x:D}{b:Bool}{xs:List D}(h:QG g x=some (b,xs)):tyOf g x=some (if b then .list else .tuple):=by
 cases x with
 |ref n =>
  unfold QG at h
  unfold tyOf
  dsimp only at h ⊢
  cases hg:g[n]? with
  |none=>rw[hg]at h;cases h
  |some o =>
   rw[hg]at h
   cases o with
   |lst ds=>cases h;rfl
   |_=>cases h
 |tup ds=>cases h;rfl
 |fl ds=>cases h;rfl
 |_=>cases h
theorem QiG{g:G}{x:D}{b:Bool}{xs:List D}(h:QG g x=some (b,xs)):pLen x g=.ok (.int xs.length) g:=by
 cases x with
 |ref n =>
  unfold QG at h
  unfold pLen
  dsimp only at h ⊢
  cases hg:g[n]? with
  |none=>rw[hg]at h;cases h
  |some o =>
   rw[hg]at h
   cases o with
   |lst ds=>cases h;rfl
   |_=>cases h
 |tup ds=>cases h;rfl
 |fl ds=>cases h;rfl
 |_=>cases h
theorem Qgf:∀n:Nat,allB (List.replicate n (.bl true))=some true
 |0=>rfl
 |n+1=>by rw[UQ];unfold allB;rw[Qgf n];rfl
theorem QiH{g:G}:∀{f:Nat}{x y:D},Sm g f x y->∀g1,Keeps [] g g1->∃g2,Z4 f [x,y] g1=.ok (.bl true) g2/\Keeps [] g1 g2
 |0,_,_,h,_,_=>by cases h
 |f+1,x,y,h,g1,k=>by
  cases h with
  |int _ i =>
   refine⟨g1,QF rfl ?_,.refl⟩
   show QaY (Z4 f) [some (.int i),some (.int i)] g1=_
   unfold QaY
   refine Qf [some (.int i),some (.int i)] g1 rfl (Qf [some (.int i),some (.int i)] g1 rfl (Qf [some (.int i),some (.int i)] g1 rfl (Qbs ?_)))
   have e:pEq (.int i) (.int i) g1=.ok (.bl true) g1:=by unfold pEq eqT;dsimp only;rw[Ri]
   show mOp2 pEq (mVar 0) (mVar 1) [some (.int i),some (.int i)] g1=_
   exact Yy (x:=.int i) (y:=.int i) (g1:=g1) (g2:=g1) rfl rfl e
  |seq _ _ _ b xs ys h1 h2 hl hz hi =>
   have s1:=YE h1 k
   have s2:=YE h2 k
   obtain⟨src,e1,e2,e3⟩:=QlX s1 s2 hl
   obtain⟨ds,σ',g2,c1,c2,c3,_⟩:=Z6 (src:=src) (t:=Yl [gSet 0,gSet 1]) (c:=Yr) (e:=Ql (Z4 f) (Qb (mVar 0) (Qb (mVar 1) mNil))) (n:=xs.length)
    (λi σ' g4 acc=>acc=List.replicate i (.bl true)/\Keeps [] g1 g4/\∃u v,σ'=[u,v]) (λi σ' g4 acc hi' hQ=>by
     obtain⟨q1,q2,u,v,q3⟩:=hQ
     subst q3
     have hy:i<ys.length:=by omega
     obtain⟨g5,a1,a2⟩:=QiH (hi i xs[i] ys[i] (by simp[hi']) (by simp[hy])) g4 (k.trans q2)
     refine⟨.tup [xs[i],ys[i]],[some xs[i],some ys[i]],g4,(e3 g4 (YE s1 q2) (YE s2 q2)).2 i _ _ (by simp[hi']) (by simp[hy]),rfl,.inl ⟨.bl true,g5,rfl,?_,?_,q2.trans a2,_,_,rfl⟩⟩
     ·rw[JP (ds:=[xs[i],ys[i]]) (g':=g4) rfl];exact a1
     ·rw[q1,List.replicate_succ']) (λσ g4 acc hQ=>(e3 g4 (YE s1 hQ.2.1) (YE s2 hQ.2.1)).1) (src.top+1) 0 [none,none] g1 [] (by omega) (by omega) ⟨rfl,.refl,none,none,rfl⟩
   subst c2
   have c4:=Qco (it:=Qax (mVar 0) (mVar 1)) (n:=2) (cap:=[]) (σ:=[some x,some y]) (t:=Yl [gSet 0,gSet 1]) (c:=Yr) (σ0:=[none,none]) (g:=g1) (by
    unfold Qax
    rw[show mVar 0 [some x,some y] g1=.ok x g1 from rfl,Res.bind_ok,show mVar 1 [some x,some y] g1=.ok y g1 from rfl,Res.bind_ok]
    exact e1) (by rw[e2];exact Tn (QgY hz)) rfl c1
   have kk:Keeps [] g2 (g2++[.lst (List.replicate xs.length (.bl true))]):=.push _
   refine⟨_,QF rfl ?_,c3.trans kk⟩
   show QaY (Z4 f) [some x,some y] g1=_
   have ty1:=Qge s1
   have ty2:=Qge s2
   have is0:∀c:Ty,mOp1 (Z8 c) (mVar 0) [some x,some y] g1=.ok (.bl (tyLe (if b then .list else .tuple) c)) g1:=λc=>YS (x:=x) (g1:=g1) rfl (by unfold Z8;rw[ty1])
   have is1:∀c:Ty,mOp1 (Z8 c) (mVar 1) [some x,some y] g1=.ok (.bl (tyLe (if b then .list else .tuple) c)) g1:=λc=>YS (x:=y) (g1:=g1) rfl (by unfold Z8;rw[ty2])
   have ne:∀c:Ty,Qk (mOp2 pNe (mOp1 (Z8 c) (mVar 0)) (mOp1 (Z8 c) (mVar 1))) [some x,some y] g1=.ok false g1:=λc=>Yu (Yy (is0 c) (is1 c) (by unfold pNe neT;dsimp only;rw[Ri];rfl))
   have t1:mOrT (Qk (mOp1 (Z8 .list) (mVar 1))) (Qk (mOp1 (Z8 .tuple) (mVar 1))) [some x,some y] g1=.ok true g1:=by
    unfold mOrT
    rw[Yu (is1 .list),Res.bind_ok,Yu (is1 .tuple)]
    cases b <;> rfl
   have e5:mOp2 pEq (mOp1 pLen (mVar 0)) (mOp1 pLen (mVar 1)) [some x,some y] g1=.ok (.bl true) g1:=Yy (x:=.int xs.length) (y:=.int ys.length) (g1:=g1) (g2:=g1) (YS (x:=x) (g1:=g1) rfl (QiG s1)) (YS (x:=y) (g1:=g1) rfl (QiG s2)) (by unfold pEq eqT;dsimp only;rw[hl,Ri])
   unfold QaY
   refine Qae (ift g1 t1 (Qf [some x,some y] g1 (iff' g1 (QlY (ne .list) (ne .tuple)) rfl) (Qbs ?_)))
   unfold mAnd
   rw[e5,Res.bind_ok]
   dsimp only
   rw[Uc rfl]
   refine YS c4 ?_
   unfold pAll
   dsimp only
   rw[Qq]
   dsimp only
   rw[Qgf]
theorem Ql5(g:G)(f:Nat)(p:Int×Int):Sm g (f+2) (stD p) (stD p):=.seq _ _ _ false [.int p.1,.int p.2] [.int p.1,.int p.2] rfl rfl rfl (by simp) (λi u v h1 h2=>by
 match i,h1,h2 with
 |0,h1,h2=>cases h1;cases h2;exact .int _ _
 |1,h1,h2=>cases h1;cases h2;exact .int _ _
 |i+2,h1,_=>simp at h1)
theorem QiI{g:G}{f:Nat}{x y:D}{b:Bool}{M:List (Int×Int)}(h1:QG g x=some (b,M.map stD))(h2:QG g y=some (b,M.map stD))(hz:M.length<=1000):Sm g (f+3) x y:=.seq _ _ _ b _ _ h1 h2 rfl (by rw[Um];exact hz) (λi u v e1 e2=>by
 rw[e1]at e2
 cases e2
 rw[Up]at e1
 cases hm:M[i]? with
 |none=>rw[hm]at e1;cases e1
 |some p=>rw[hm]at e1;cases e1;exact Ql5 g f p)
theorem Qkd{f:Nat}{g:G}{a b c d:Nat}{st:Int}{L R:Sts}(ha:g[a]?=some (.lst (stsD L)))(hb:g[b]?=some (.lst (stsD R)))(hc:g[c]?=some (.lst (stsD L)))(hd:g[d]?=some (.lst (stsD R)))(hL:L.length<=1000)(hR:R.length<=1000):
  Sm g (f+4) (.tup [.int st,.ref a,.ref b]) (.tup [.int st,.ref c,.ref d]):=.seq _ _ _ false _ _ rfl rfl rfl (by simp) (λi u v h1 h2=>by
 match i,h1,h2 with
 |0,h1,h2=>cases h1;cases h2;exact .int _ _
 |1,h1,h2=>cases h1;cases h2;exact QiI (f:=f) (YT ha) (YT hc) hL
 |2,h1,h2=>cases h1;cases h2;exact QiI (f:=f) (YT hb) (YT hd) hR
 |i+3,h1,_=>simp at h1)
theorem Qgg(k j:DK)(v:D):∀ks:List (DK×D),dGet (ks.map λp=>if p.1=k then (p.1,v) else p) j=(dGet ks j).map λx=>if j=k then v else x
 |[]=>rfl
 |p::r=>by
  have ih:=Qgg k j v r
  unfold dGet at ih ⊢
  rw[UG,UK,UK]
  by_cases h:p.1=j
  ·have e:decide ((if p.1=k then (p.1,v) else p).1=j)=true:=by split <;> exact Uz h
   rw[e,Uz h]
   subst h
   by_cases hk:p.1=k <;> simp[hk]
  ·have e:decide ((if p.1=k then (p.1,v) else p).1=j)=false:=by split <;> exact Ul h
   rw[e,Ul h]
   exact ih
theorem QdL(k:DK):∀ks:List (DK×D),(ks.any λp=>decide (p.1=k))=(dGet ks k).isSome
 |[]=>rfl
 |p::r=>by
  have ih:=QdL k r
  unfold dGet at ih ⊢
  rw[Tp,UK]
  by_cases h:p.1=k
  ·rw[Uz h];rfl
  ·rw[Ul h];exact ih
theorem Qgh(k j:DK)(v:D):∀ks:List (DK×D),dGet ks k=none->dGet (ks++[(k,v)]) j=if j=k then some v else dGet ks j
 |[],_=>by
  unfold dGet
  by_cases h:j=k
  ·subst h;simp
  ·simp[h,Ne.symm h]
 |p::r,hn=>by
  have hp:¬p.1=k:=λh=>by unfold dGet at hn;rw[UK,Uz h]at hn;cases hn
  have hr:dGet r k=none:=by unfold dGet at hn ⊢;rw[UK,Ul hp]at hn;exact hn
  have ih:=Qgh k j v r hr
  unfold dGet at ih ⊢
  rw[RZ,UK,UK]
  by_cases h:p.1=j
  ·rw[Uz h,Ud (λz=>hp (h.trans z))]
  ·rw[Ul h];exact ih
theorem QdM(ks:List (DK×D))(k j:DK)(v:D):dGet (dPut ks k v) j=if j=k then some v else dGet ks j:=by
 unfold dPut
 rw[QdL]
 cases h:dGet ks k with
 |none=>rw[Ud (by simp)];exact Qgh k j v ks h
 |some x =>
  rw[Uc (show(some x).isSome=true from rfl),Qgg]
  by_cases e:j=k
  ·subst e;rw[h];simp
  ·simp[e]
theorem Qex(k j:DK):∀ks:List (DK×D),dGet (Qbx ks k) j=if j=k then none else dGet ks j
 |[]=>by unfold dGet Qbx;split <;> rfl
 |p::r=>by
  have ih:=Qex k j r
  unfold dGet Qbx at ih ⊢
  rw[Tq]
  by_cases h:p.1=k
  ·rw[Ud (by simp[h]),ih,UK]
   by_cases e:j=k
   ·rw[Uc e,Uc e]
   ·rw[Ud e,Ud e,Ul (λz=>e (z.symm.trans h))]
  ·rw[Uc (by simp[h]),UK,UK]
   by_cases e:p.1=j
   ·rw[Uz e,Ud (λz=>h (e.trans z))]
   ·rw[Ul e];exact ih
theorem Qgi(ks:List (DK×D))(k:DK)(v:D):(dPut ks k v).length<=ks.length+1:=by
 unfold dPut;split <;> simp
theorem QiJ(ks:List (DK×D))(k:DK):(Qbx ks k).length<=ks.length:=TQ _ _
theorem Qgj(k:DK)(v:D):∀ks:List (DK×D),YA (ks.map λp=>if p.1=k then (p.1,v) else p)=YA ks
 |[]=>rfl
 |p::r=>by
  have ih:=Qgj k v r
  obtain⟨q,w⟩:=p
  rw[UG]
  by_cases h:q=k
  ·rw[Uc h]
   cases q with
   |inl i=>show(YA _).map _=(YA r).map _;rw[ih]
   |inr s=>rfl
  ·rw[Ud h]
   cases q with
   |inl i=>show(YA _).map _=(YA r).map _;rw[ih]
   |inr s=>rfl
theorem Qgk(x:Int)(v:D):∀{ks:List (DK×D)}{is:List Int},YA ks=some is->YA (ks++[(.inl x,v)])=some (is++[x])
 |[],_,h=>by cases h;rfl
 | (.inl i,_)::r,is,h=>by
  have h:(YA r).map (i :: ·)=some is:=h
  obtain⟨js,h1,h2⟩:=TK.mp h
  show(YA (r++_)).map (i :: ·)=_
  rw[Qgk x v h1,<-h2];rfl
theorem Qey(x:Int):∀{ks:List (DK×D)}{is:List Int},YA ks=some is->YA (Qbx ks (.inl x))=some (is.filter λi=>decide (i≠x))
 |[],_,h=>by cases h;rfl
 | (.inl i,_)::r,is,h=>by
  have h:(YA r).map (i :: ·)=some is:=h
  obtain⟨js,h1,h2⟩:=TK.mp h
  have ih:=Qey x h1
  subst h2
  unfold Qbx at ih ⊢
  rw[Tq,Tq]
  by_cases e:i=x
  ·subst e
   rw[Ud (by simp),Ud (by simp)];exact ih
  ·rw[Uc (by simp[e]),Uc (by simp[e])]
   show(YA _).map (i :: ·)=_
   rw[ih];rfl
structure DF(ks:List (DK×D))(f:Int->Int):Prop where
 get:∀x,dGet ks (.inl x)=if f x=0 then none else some (.int (f x))
 keys:∃is,YA ks=some is/\is.Nodup/\∀x,x∈is↔f x≠0
theorem df0:DF [] (λ_=>0):=⟨λ_=>rfl,[],rfl,.nil,λx=>by simp⟩
theorem DF.getD{ks:List (DK×D)}{f:Int->Int}(h:DF ks f)(x:Int):(dGet ks (.inl x)).getD (.int 0)=.int (f x):=by
 rw[h.get]
 by_cases z:f x=0
 ·rw[Uc z,z];rfl
 ·rw[Ud z];rfl
noncomputable def putC(ks:List (DK×D))(x:Int)(a:Int):List (DK×D):=if a=0 then Qbx (dPut ks (.inl x) (.int a)) (.inl x) else dPut ks (.inl x) (.int a)
theorem Qgl(ks:List (DK×D))(x a:Int):(putC ks x a).length<=ks.length+1:=by
 unfold putC
 split
 ·exact Uv (QiJ _ _) (Qgi _ _ _)
 ·exact Qgi _ _ _
theorem DF.put{ks:List (DK×D)}{f:Int->Int}{x a:Int}(h:DF ks f):DF (putC ks x a) (updF f x a):=by
 obtain⟨is,k1,k2,k3⟩:=h.keys
 have hinj:∀y:Int,((Sum.inl y:DK)=.inl x)↔y=x:=λy=>⟨λz=>by injection z,λz=>by rw[z]⟩
 have kput:∃js,YA (dPut ks (.inl x) (.int a))=some js/\js.Nodup/\∀y,y∈js↔(y=x\/y∈is):=by
  unfold dPut
  rw[QdL,h.get]
  by_cases z:f x=0
  ·rw[Uc z,Ud (by simp)]
   have hx:x∉is:=λhm=>(k3 x).mp hm z
   refine⟨is++[x],Qgk x _ k1,?_,λy=>by simp[or_comm]⟩
   rw[List.nodup_append]
   refine⟨k2,by simp,λu hu v hv e=>hx ?_⟩
   have hv:v=x:=by simpa using hv
   rw[<-hv,<-e];exact hu
  ·rw[Ud z,Uc (by simp)]
   have hx:x∈is:=(k3 x).mpr z
   exact⟨is,by rw[Qgj];exact k1,k2,λy=>⟨.inr,λo=>o.elim (λe=>e ▸ hx) id⟩⟩
 obtain⟨js,j1,j2,j3⟩:=kput
 unfold putC
 by_cases ha:a=0
 ·rw[Uc ha]
  refine⟨λy=>?_,js.filter λi=>decide (i≠x),Qey x j1,j2.filter _,λy=>?_⟩
  ·rw[Qex,QdM]
   unfold updF
   by_cases e:y=x
   ·rw[Uc ((hinj y).mpr e),Uc e,Uc ha]
   ·rw[Ud (λz=>e ((hinj y).mp z)),Ud (λz=>e ((hinj y).mp z)),Ud e];exact h.get y
  ·rw[T1,j3,k3]
   unfold updF
   by_cases e:y=x
   ·simp[e,ha]
   ·simp[e]
 ·rw[Ud ha]
  refine⟨λy=>?_,js,j1,j2,λy=>?_⟩
  ·rw[QdM]
   unfold updF
   by_cases e:y=x
   ·rw[Uc ((hinj y).mpr e),Uc e,Ud ha]
   ·rw[Ud (λz=>e ((hinj y).mp z)),Ud e];exact h.get y
  ·rw[j3,k3]
   unfold updF
   by_cases e:y=x
   ·simp[e,ha]
   ·simp[e]
def UpP(M:List (Int×Int)):Prop:=M.Pairwise λa b=>a.1<b.1
structure MkF(M:List (Int×Int))(f:Int->Int):Prop where
 up:UpP M
 mem:∀x s,(x,s)∈M↔s=f x/\s≠0
theorem DF.marks{ks:List (DK×D)}{f:Int->Int}{is:List Int}(h:DF ks f)(hk:YA ks=some is):MkF ((ZE is).map λx=>(x,f x)) f:=by
 obtain⟨js,k1,k2,k3⟩:=h.keys
 rw[hk]at k1
 cases k1
 have hp:=Zs is
 have hs:=Y0 is
 have hn:(ZE is).Nodup:=hp.nodup_iff.mpr k2
 refine⟨?_,λx s=>?_⟩
 ·unfold UpP
  rw[List.pairwise_map]
  have:=hs.and hn
  exact this.imp λ⟨a,b⟩=>by show _<_;omega
 ·rw[List.mem_map]
  constructor
  ·rintro ⟨y,hy,e⟩
   cases e
   exact⟨rfl,(k3 x).mp (hp.mem_iff.mp hy)⟩
  ·rintro ⟨rfl,h0⟩
   exact⟨x,hp.mem_iff.mpr ((k3 x).mpr h0),rfl⟩
theorem Qgm:∀{ks:List (DK×D)}{is:List Int},YA ks=some is->is.length=ks.length
 |[],_,h=>by cases h;rfl
 | (.inl i,_)::r,is,h=>by
  have h:(YA r).map (i :: ·)=some is:=h
  obtain⟨js,h1,h2⟩:=TK.mp h
  subst h2
  simp[Qgm h1]
section
variable{σ:S3}{g:G}
@[simp] theorem Qpa{ds:List D}:newL ds g=if ds.length<=SZ then .ok (.ref g.length) (g++[.lst ds]) else .stuck:=rfl
@[simp] theorem QoP{ds:List D}:pTup ds g=if ds.length<=SZ then .ok (.tup ds) g else .stuck:=rfl
@[simp] theorem QiK:Zi σ g=.ok none g:=rfl
@[simp] theorem Ql6{a:ME}:Jc a σ g=(match a σ g with | .ok (.int i) g1=>.ok (some i) g1 | .raise e g'=>.raise e g'|_=>.stuck):=by unfold Jc Res.bind;cases a σ g with|ok d g1=>cases d <;> rfl|_=>rfl
@[simp] theorem Qke{a:ME}{lo hi:MO}:ZU a lo hi σ g=(match a σ g with
 |.ok x g1=>(match lo σ g1 with
  |.ok l g2=>(match hi σ g2 with | .ok h g3=>JW x l h g3 | .raise e g'=>.raise e g' | .stuck=>.stuck)
  |.raise e g'=>.raise e g' | .stuck=>.stuck)
 |.raise e g'=>.raise e g' | .stuck=>.stuck):=by
 unfold ZU Res.bind;cases a σ g with
 |ok x g1=>dsimp only;cases lo σ g1 with
  |ok l g2=>dsimp only;cases hi σ g2 <;> rfl
  |_=>rfl
 |_=>rfl
@[simp] theorem Qez{i j:Int}(h:0<j):pMod (.int i) (.int j) g=.ok (.int (i%j)) g:=Uc h
theorem Q7{i j:Int}(h:0<j)(h2:j<1073741824):QN (.int i) (.int j) g=.ok (.int (i/j)) g:=Uc ⟨h,h2⟩
end
theorem Keeps.setNew{S:List Nat}{g g1:G}{s:Nat}{o:GO}(k:Keeps S g g1)(h:g.length<=s):Keeps S g (g1.set s o) :=
 ⟨by have:=k.len;simp;exact this,λn u q e=>by rw[Ug (by have:=Q2 e;omega)];exact k.at' n u q e⟩
theorem Qcu:∀is:List Int,Qd9 (is.map D.int)=some is
 |[]=>rfl
 |i::r=>by show(Qd9 (r.map D.int)).map (i :: ·)=_;rw[Qcu r];rfl
section
variable{σ:S3}{g:G}
theorem QiL{o k x:ME}{n:Nat}{ks:List (DK×D)}{i:Int}{z:D}(ho:o σ g=.ok (.ref n) g)(hd:g[n]?=some (.dct ks))(hk:k σ g=.ok (.int i) g)(hx:x σ g=.ok z g):Qel o k x σ g=.ok ((dGet ks (.inl i)).getD z) g:=by
 unfold Qel;simp[ho,hd,hk,hx,Res.bind]
theorem QiM{o k v:ME}{n:Nat}{ks:List (DK×D)}{i:Int}{y:D}(hv:v σ g=.ok y g)(ho:o σ g=.ok (.ref n) g)(hk:k σ g=.ok (.int i) g)(hd:g[n]?=some (.dct ks))(hz:ks.length<=100000):QcQ o k v σ g=.nx σ (g.set n (.dct (dPut ks (.inl i) y))):=by
 unfold QcQ;simp[hv,ho,hk,hd,Qbt hz]
theorem Ql7{o k:ME}{n:Nat}{ks:List (DK×D)}{i:Int}{v:D}(ho:o σ g=.ok (.ref n) g)(hk:k σ g=.ok (.int i) g)(hd:g[n]?=some (.dct ks))(hv:dGet ks (.inl i)=some v):QgN o k σ g=.ok v (g.set n (.dct (Qbx ks (.inl i)))):=by
 unfold QgN;simp[ho,hd,hk,Res.bind,hv]
end
noncomputable def shL(c:Cn)(d:Nat):D:=.tup [.int c.st,.int c.pl,.ref d]
def SL(g:G)(c:Cn)(x:D)(B:Nat):Prop:=∃d ks,x=shL c d/\g[d]?=some (.dct ks)/\DF ks c.f/\ks.length<=B
theorem SL.mono{S:List Nat}{g g1:G}{c:Cn}{x:D}{B:Nat}(h:SL g c x B)(k:Keeps S g g1)(hS:∀n∈S,∃ds,g[n]?=some (.lst ds)):SL g1 c x B:=by
 obtain⟨d,ks,e,hd,h1,h2⟩:=h
 refine⟨d,ks,e,k.at' _ _ (λhm=>?_) hd,h1,h2⟩
 obtain⟨ds,hl⟩:=hS d hm
 rw[hd]at hl;cases hl
theorem SL.up{g:G}{c:Cn}{x:D}{B C:Nat}(h:SL g c x B)(hc:B<=C):SL g c x C:=by
 obtain⟨d,ks,e,hd,h1,h2⟩:=h
 exact⟨d,ks,e,hd,h1,Uv h2 hc⟩
structure CnOk(n m:Nat)(c:Cn):Prop where
 st:c.st<n
 f:∀x,0<=c.f x/\c.f x<m
theorem Ql8{rows:List (List D)}{n m:Nat}{c c':Cn}(T:Tb rows n m)(h:CnOk n m c)(hs:Z7 rows c=some c'):CnOk n m c':=by
 have hf:=h.f c.pl
 obtain⟨row,d,_,_,he,e⟩:=T.at h.st (c:=(c.f c.pl).toNat) (by omega)
 unfold Z7 at hs
 rw[e]at hs
 rcases he with rfl|⟨a,b,y,rfl,a0,a1,b0,b1,_⟩
 ·cases hs
 ·cases hs
  refine⟨by show b.toNat<n;omega,λx=>?_⟩
  show 0<=updF c.f c.pl a x/\updF c.f c.pl a x<m
  unfold updF
  split
  ·exact⟨a0,a1⟩
  ·exact h.f x
def tabB(B:Nat)(g:G)(t:Nat)(rows:List (List D)):Prop:=t<B/\∃ds,g[t]?=some (.lst ds)/\∀(i:Nat)(row:List D),rows[i]?=some row->∃n,n<B/\ds[i]?=some (.ref n)/\g[n]?=some (.lst row)
theorem tabOf.b{N:Nat}{g:G}{t:Nat}{rows:List (List D)}(h:tabOf N g t rows):tabB g.length g t rows:=by
 obtain⟨_,ds,h1,h2,h3⟩:=h
 refine⟨Q2 h1,ds,h1,λi row hr=>?_⟩
 have hi:i<ds.length:=by rw[h2];exact(Uj.mp hr).1
 obtain⟨n,e,_,_,hn⟩:=h3 i ds[i] row (by simp) hr
 exact⟨n,Q2 hn,by rw[<-e];simp,hn⟩
theorem tabB.mono{B:Nat}{S:List Nat}{g g1:G}{t:Nat}{rows:List (List D)}(h:tabB B g t rows)(k:Keeps S g g1)(hS:∀n∈S,B<=n):tabB B g1 t rows:=by
 obtain⟨h0,ds,h1,h2⟩:=h
 refine⟨h0,ds,k.at' _ _ (λz=>by have:=hS _ z;omega) h1,λi row hr=>?_⟩
 obtain⟨n,a,b,c⟩:=h2 i row hr
 exact⟨n,a,b,k.at' _ _ (λz=>by have:=hS _ z;omega) c⟩
theorem tabB.up{B C:Nat}{g:G}{t:Nat}{rows:List (List D)}(h:tabB B g t rows)(hc:B<=C):tabB C g t rows:=by
 obtain⟨h0,ds,h1,h2⟩:=h
 refine⟨by omega,ds,h1,λi row hr=>?_⟩
 obtain⟨n,a,b,c⟩:=h2 i row hr
 exact⟨n,by omega,b,c⟩
theorem QnS{B t:Nat}{g:G}{rows:List (List D)}{i j:Nat}{r:List D}{d:D}(h:tabB B g t rows)(hr:rows[i]?=some r)(hd:r[j]?=some d):∃x,pIx (.ref t) (.int i) g=.ok (.ref x) g/\pIx (.ref x) (.int j) g=.ok d g/\g[x]?=some (.lst r)/\x<B:=by
 obtain⟨hN,ds,h1,h2⟩:=h
 obtain⟨x,q1,q2,q3⟩:=h2 i r hr
 exact⟨x,Qc9 h1 q2,Qc9 q3 hd,q3,q1⟩
theorem QiN{rows:List (List D)}{N n m t B:Nat}{c:Cn}{x:D}{g:G}(T:Tb rows n m)(ht:tabB N g t rows)(ho:CnOk n m c)(hx:SL g c x B)(hB:B<=90000):
  (Z7 rows c=none/\QbL [.ref t,x] g=.ok .non g)\/∃c' x' g',Z7 rows c=some c'/\QbL [.ref t,x] g=.ok x' g'/\SL g' c' x' (B+1)/\Keeps [] g g':=by
 obtain⟨d,ks,rfl,hd,hf,hk⟩:=hx
 have h0:=ho.f c.pl
 obtain⟨row,e,hr,hrd,he,hat⟩:=T.at ho.st (c:=(c.f c.pl).toNat) (by omega)
 obtain⟨y,p1,p2,_⟩:=QnS ht hr hrd
 rw[Tm h0.1]at p2
 have hst:Z7 rows c=goF e c:=by unfold Z7;rw[hat];rfl
 let S:Option D->Option D->S3:=λx5 x6=>[some (.ref t),some (shL c d),some (.int c.st),some (.int c.pl),some (.ref d),x5,x6]
 have pre:∀R,mSeq (mIf (Qk (mOp2 pIs (mVar 5) (mLit .non))) (mRet (mLit .non)) QB)
   (mSeq (mAsg (gSet 6) (mOp1 Qin (mVar 4))) (mSeq (QcQ (mVar 6) (mVar 3) (mOp2 pIx (mVar 5) (mLit (.int 0)))) (mSeq (mIf (Qk (mOp2 pEq (mOp2 pIx (mVar 5) (mLit (.int 0))) (mLit (.int 0)))) (Zh (QgN (mVar 6) (mVar 3))) QB) (mSeq (mIf (Qk (mOp2 pEq (mOp2 pIx (mVar 5) (mLit (.int 1))) (mLit (.str "r")))) (mRet (mOpA pTup (Qb (mOp2 pIx (mVar 5) (mLit (.int 2))) (Qb (mOp2 pAdd (mVar 3) (mLit (.int 1))) (Qb (mVar 6) mNil))))) QB) (mRet (mOpA pTup (Qb (mOp2 pIx (mVar 5) (mLit (.int 2))) (Qb (mOp2 pSub (mVar 3) (mLit (.int 1))) (Qb (mVar 6) mNil))))))))) (S (some e) none) g=R->QbK [some (.ref t),some (shL c d),none,none,none,none,none] g=R:=λR hR=>by
  unfold QbK
  refine Qf (S none none) g rfl (Qf (S (some e) none) g (Zq (Yy (x:=.ref y) (y:=.int (c.f c.pl)) (g1:=g) (g2:=g) (Yy (x:=.ref t) (y:=.int c.st) (g1:=g) (g2:=g) rfl rfl p1) ?_ p2)) hR)
  rw[QiL (n:=d) (ks:=ks) (i:=c.pl) (z:=.int 0) rfl hd rfl rfl,hf.getD]
 rw[hst]
 rcases he with rfl|⟨a,b,z,rfl,a0,a1,b0,b1,_⟩
 ·exact .inl ⟨rfl,QF rfl (pre _ (Qae rfl))⟩
 ·right
  have g1d:(g++[.dct ks])[g.length]?=some (.dct ks):=Qq _
  have k1:Keeps [] g (g++[.dct ks]):=.push _
  have hput:∃g2,mSeq (QcQ (mVar 6) (mVar 3) (mOp2 pIx (mVar 5) (mLit (.int 0)))) (mIf (Qk (mOp2 pEq (mOp2 pIx (mVar 5) (mLit (.int 0))) (mLit (.int 0)))) (Zh (QgN (mVar 6) (mVar 3))) QB) (S (some (.tup [.int a,.str z,.int b])) (some (.ref g.length))) (g++[.dct ks])=.nx (S (some (.tup [.int a,.str z,.int b])) (some (.ref g.length))) g2/\g2[g.length]?=some (.dct (putC ks c.pl a))/\Keeps [] g g2:=by
   have s1:QcQ (mVar 6) (mVar 3) (mOp2 pIx (mVar 5) (mLit (.int 0))) (S (some (.tup [.int a,.str z,.int b])) (some (.ref g.length))) (g++[.dct ks])=.nx (S (some (.tup [.int a,.str z,.int b])) (some (.ref g.length))) ((g++[GO.dct ks]).set g.length (.dct (dPut ks (.inl c.pl) (.int a)))):=QiM (by simp[S]) rfl rfl g1d (by omega)
   have g2d:=QA (u:=.dct (dPut ks (.inl c.pl) (.int a))) g1d
   by_cases ha:a=0
   ·refine⟨((g++[GO.dct ks]).set g.length (.dct (dPut ks (.inl c.pl) (.int a)))).set g.length (.dct (Qbx (dPut ks (.inl c.pl) (.int a)) (.inl c.pl))),Qf _ _ s1 (ift _ (by simp[S,ha]) (Qfd (d:=.int a) (Ql7 rfl rfl g2d (by rw[QdM,Uc rfl])))),?_,(k1.setNew (Uh _)).setNew (Uh _)⟩
    rw[QA g2d];unfold putC;rw[Uc ha]
   ·refine⟨(g++[GO.dct ks]).set g.length (.dct (dPut ks (.inl c.pl) (.int a))),Qf _ _ s1 (iff' _ (by simp[S,ha]) rfl),?_,k1.setNew (Uh _)⟩
    rw[g2d];unfold putC;rw[Ud ha]
  obtain⟨g2,s2,d2,k2⟩:=hput
  have fin:∀R,mSeq (mIf (Qk (mOp2 pEq (mOp2 pIx (mVar 5) (mLit (.int 1))) (mLit (.str "r")))) (mRet (mOpA pTup (Qb (mOp2 pIx (mVar 5) (mLit (.int 2))) (Qb (mOp2 pAdd (mVar 3) (mLit (.int 1))) (Qb (mVar 6) mNil))))) QB) (mRet (mOpA pTup (Qb (mOp2 pIx (mVar 5) (mLit (.int 2))) (Qb (mOp2 pSub (mVar 3) (mLit (.int 1))) (Qb (mVar 6) mNil))))) (S (some (.tup [.int a,.str z,.int b])) (some (.ref g.length))) g2=R->QbK [some (.ref t),some (shL c d),none,none,none,none,none] g=R:=λR hR=>by
   refine pre _ (Qf _ g (iff' g rfl rfl) (Qf (S (some (.tup [.int a,.str z,.int b])) (some (.ref g.length))) (g++[.dct ks]) (Zq (YS (x:=.ref d) (g1:=g) rfl (by simp[Qin,hd]))) ?_))
   rw[QnI]at s2 ⊢
   revert s2
   cases QcQ (mVar 6) (mVar 3) (mOp2 pIx (mVar 5) (mLit (.int 0))) (S (some (.tup [.int a,.str z,.int b])) (some (.ref g.length))) (g++[.dct ks]) with
   |nx σ1 g3=>intro s2;dsimp only at s2 ⊢;exact Qf _ g2 s2 hR
   |_=>intro s2;cases s2
  have hl:=Qgl ks c.pl a
  have hS':∀p:Int,SL g2 ⟨b.toNat,p,updF c.f c.pl a⟩ (.tup [.int b,.int p,.ref g.length]) (B+1):=λp=>⟨g.length,putC ks c.pl a,by unfold shL;dsimp only;rw[Tm b0],d2,hf.put,by omega⟩
  by_cases hz:z=rS
  ·refine⟨_,_,g2,by unfold goF;dsimp only;rw[Uc hz],QF rfl (fin _ (Qae (ift g2 ?_ ?_))),hS' (c.pl+1),k2⟩
   ·simp[S,eq_str,s_r',hz]
   ·simp[S,SZ]
  ·refine⟨_,_,g2,by unfold goF;dsimp only;rw[Ud hz],QF rfl (fin _ (Qf _ g2 (iff' g2 ?_ rfl) ?_)),hS' (c.pl-1),k2⟩
   ·simp[S,eq_str,s_r',hz]
   ·simp[S,SZ]
theorem QiO{rows:List (List D)}{i:Nat}{c:Cn}(h:(runF rows i c).2=i):runF rows (i+1) c=match Z7 rows (runF rows i c).1 with|none=>((runF rows i c).1,i)|some c'=>(c',i+1):=by
 rw[QdG i 1 c h]
 cases hs:Z7 rows (runF rows i c).1 with
 |none=>rw[Zd hs];rfl
 |some c'=>rw[Q3 hs];rfl
theorem Qfl{rows:List (List D)}:∀(k:Nat)(c:Cn),(runF rows k c).2<=k
 |0,_=>Uh _
 |k+1,c=>by
  cases hs:Z7 rows c with
  |none=>rw[Zd hs];exact Ts _
  |some c'=>rw[Q3 hs];have:=Qfl (rows:=rows) k c';dsimp only;omega
theorem Qa4{rows:List (List D)}:∀(k:Nat)(c:Cn)(j:Nat),(j<=k->(runF rows j c).2=min j (runF rows k c).2)/\(j<=(runF rows k c).2->(runF rows j c).2=j)/\((runF rows k c).2<=j->j<=k->(runF rows j c).1=(runF rows k c).1)
 |0,c,j=>by
  cases j with
  |zero=>exact⟨λ_=>by simp[runF],λ_=>rfl,λ_ _=>rfl⟩
  |succ j=>exact⟨λh=>by omega,λh=>by have h:j+1<=0:=h;omega,λ_ h=>by omega⟩
 |k+1,c,j=>by
  cases hs:Z7 rows c with
  |none=>rw[Zd hs,Zd hs];exact⟨λ_=>by simp,λh=>by dsimp only at h ⊢;omega,λ_ _=>rfl⟩
  |some c' =>
   rw[Q3 hs]
   cases j with
   |zero=>exact⟨λ_=>by simp[runF],λ_=>rfl,λh=>by dsimp only at h;omega⟩
   |succ j =>
    rw[Q3 hs]
    obtain⟨a1,a2,a3⟩:=Qa4 (rows:=rows) k c' j
    refine⟨λh=>?_,λh=>?_,λh h2=>?_⟩
    ·have:=a1 (by omega);dsimp only;omega
    ·have:=a2 (by dsimp only at h;omega);dsimp only;omega
    ·exact a3 (by dsimp only at h;omega) (by omega)
theorem Qcv{f:List D->G->Res D}{a:MA}{σ:S3}{xs:List D}{g g1:G}{R:Res D}(ha:a σ g=.ok xs g1)(h:f xs g1=R):mOpA f a σ g=R:=by unfold mOpA;rw[ha,Res.bind_ok,h]
def RunL(rows:List (List D))(c:Cn)(B:Nat)(g:G)(ds:List D)(j:Nat):Prop:=ds.length=j+1/\∀i,i<=j->∃x,ds[i]?=some x/\SL g (runF rows i c).1 x (B+i)
theorem RunL.mono{rows:List (List D)}{c:Cn}{B:Nat}{g g1:G}{ds:List D}{j:Nat}{S:List Nat}(h:RunL rows c B g ds j)(k:Keeps S g g1)(hS:∀n∈S,∃es,g[n]?=some (.lst es)):RunL rows c B g1 ds j :=
 ⟨h.1,λi hi=>let ⟨x,e,s⟩:=h.2 i hi;⟨x,e,s.mono k hS⟩⟩
theorem QiP{rows:List (List D)}{n m:Nat}(T:Tb rows n m):∀(k:Nat)(c:Cn),CnOk n m c->CnOk n m (runF rows k c).1
 |0,c,h=>h
 |k+1,c,h=>by
  cases hs:Z7 rows c with
  |none=>rw[Zd hs];exact h
  |some c'=>rw[Q3 hs];exact QiP T k c' (Ql8 T h hs)
theorem QeA{rows:List (List D)}{N n m t r B:Nat}{steps:Int}{c:Cn}(T:Tb rows n m)(ho:CnOk n m c)(hr:N<=r):∀(k j:Nat)(g:G)(ds:List D)(x:D),(j:Int)+k=steps->(runF rows j c).2=j->tabB N g t rows->g[r]?=some (.lst ds)->RunL rows c B g ds j->B+(j+k)<80000->ds[j]?=some x ->
  ∃g' ds',g'[r]?=some (.lst ds')/\RunL rows c B g' ds' (runF rows (j+k) c).2/\Keeps [r] g g' /\
   (ZH (Qk (mOp2 pLe (mOp1 pLen (mVar 3)) (mVar 2))) Yc (k+2) [some (.ref t),some x,some (.int steps),some (.ref r)] g=.rt (.ref r) g'\/∃x',ZH (Qk (mOp2 pLe (mOp1 pLen (mVar 3)) (mVar 2))) Yc (k+2) [some (.ref t),some x,some (.int steps),some (.ref r)] g=.nx [some (.ref t),some x',some (.int steps),some (.ref r)] g')
 |0,j,g,ds,x,hs,hj,ht,hg,hR,hz,hx=>by
  refine⟨g,ds,hg,by rw[Bd,hj];exact hR,.refl,.inr ⟨x,?_⟩⟩
  unfold ZH
  have tc:Qk (mOp2 pLe (mOp1 pLen (mVar 3)) (mVar 2)) [some (.ref t),some x,some (.int steps),some (.ref r)] g=.ok false g:=by simp[Yn hg,hR.1];omega
  rw[tc]
 |k+1,j,g,ds,x,hs,hj,ht,hg,hR,hz,hx=>by
  unfold ZH
  have tc:Qk (mOp2 pLe (mOp1 pLen (mVar 3)) (mVar 2)) [some (.ref t),some x,some (.int steps),some (.ref r)] g=.ok true g:=by simp[Yn hg,hR.1];omega
  rw[tc]
  dsimp only
  obtain⟨x0,hx0,sx⟩:=hR.2 j (Uh _)
  rw[hx]at hx0;cases hx0
  have hrs:=QiO (rows:=rows) hj
  rcases QiN T ht (QiP T j c ho) sx (by omega) with⟨e1,e2⟩|⟨c',x',g1,e1,e2,e3,k1⟩
  ·have eb:Yc [some (.ref t),some x,some (.int steps),some (.ref r)] g=.rt (.ref r) g:=by
    unfold Yc
    exact Qf [some (.ref t),some .non,some (.int steps),some (.ref r)] g (by simp[e2]) (Qae rfl)
   rw[eb]
   have hstop:(runF rows (j+(k+1)) c).2=j:=by rw[QdG j (k+1) c hj,Zd e1];rfl
   exact⟨g,ds,hg,by rw[hstop];exact hR,.refl,.inl rfl⟩
  ·rw[e1]at hrs
   have hg1:=k1.at' _ _ (by simp) hg
   obtain⟨d',ks',rfl,_⟩:=id e3
   have eb:Yc [some (.ref t),some x,some (.int steps),some (.ref r)] g=.nx [some (.ref t),some (shL c' d'),some (.int steps),some (.ref r)] (g1.set r (.lst (ds++[shL c' d']))):=by
    unfold Yc
    refine Qf [some (.ref t),some (shL c' d'),some (.int steps),some (.ref r)] g1 (by simp[e2]) (Qf _ g1 (iff' g1 rfl rfl) ?_)
    exact Qcn rfl hg1 rfl (Qbt (by rw[hR.1];omega))
   rw[eb]
   dsimp only
   have k2:Keeps [r] g (g1.set r (.lst (ds++[shL c' d']))):=(k1.mono (by simp)).trans (.set _ _)
   have hlst:∀q∈[r],∃es,g1[q]?=some (.lst es):=λq hq=>⟨ds,by rw[Uu.mp hq];exact hg1⟩
   have hR1:=hR.mono k1 (by simp)
   have hR2:=hR1.mono (Keeps.set r (.lst (ds++[shL c' d']))) hlst
   have hj1:(runF rows (j+1) c).2=j+1:=by rw[hrs]
   have hR3:RunL rows c B (g1.set r (.lst (ds++[shL c' d']))) (ds++[shL c' d']) (j+1):=⟨by simp[hR.1],λi hi=>by
    by_cases z:i<=j
    ·obtain⟨y,hy,sy⟩:=hR2.2 i z
     exact⟨y,by rw[Uw (by rw[hR.1];omega)];exact hy,sy⟩
    ·have:i=j+1:=by omega
     subst this
     refine⟨shL c' d',by rw[UD (by rw[hR.1];omega),hR.1];simp,?_⟩
     rw[hrs]
     exact(e3.mono (Keeps.set r (.lst (ds++[shL c' d']))) hlst).up (by omega)⟩
   obtain⟨g',ds',z1,z2,z3,z4⟩:=QeA (steps:=steps) (B:=B) T ho hr k (j+1) (g1.set r (.lst (ds++[shL c' d']))) (ds++[shL c' d']) (shL c' d') (by omega) hj1 (ht.mono k2 (by simpa using hr)) (QA hg1) hR3 (by omega) (by rw[UD (by rw[hR.1];omega),hR.1];simp)
   rw[show j+1+k=j+(k+1) by omega]at z2
   exact⟨g',ds',z1,z2,k2.trans z3,z4⟩
theorem Qkf{rows:List (List D)}{n m t B k:Nat}{c:Cn}{x:D}{g:G}(T:Tb rows n m)(ho:CnOk n m c)(ht:tabB g.length g t rows)(hx:SL g c x B)(hz:B+k<80000):
  ∃g' ds',Qdx [.ref t,x,.int k] g=.ok (.ref g.length) g'/\g'[g.length]?=some (.lst ds')/\RunL rows c B g' ds' (runF rows k c).2/\Keeps [] g g':=by
 have k0:Keeps [] g (g++[.lst [x]]):=.push _
 obtain⟨g',ds',z1,z2,z3,z4⟩:=QeA (steps:=k) (B:=B) T ho (Uh g.length) k 0 (g++[.lst [x]]) [x] x (by omega) rfl (ht.mono k0 (by simp)) (Qq _) ⟨rfl,λi hi=>by
  have hi0:i=0:=by omega
  rw[hi0];exact⟨x,rfl,hx.mono k0 (by simp)⟩⟩ (by omega) rfl
 rw[RA]at z2
 refine⟨g',ds',QF rfl (?_:Qe9 [some (.ref t),some x,some (.int k),none] g=_),z1,z2,k0.over z3 (by simp)⟩
 unfold Qe9
 refine Qf [some (.ref t),some x,some (.int k),some (.ref g.length)] (g++[.lst [x]]) (by simp[SZ]) ?_
 rcases z4 with z4|⟨x',z4⟩
 ·exact Qae (QbM z4 (by intro z;cases z))
 ·exact Qf _ g' (QbM z4 (by intro z;cases z)) rfl
theorem QiQ{c:Cn}{x:D}{B:Nat}{g:G}(h:SL g c x B):JL [x] g=.ok (.tup [.int c.st,.int (c.f c.pl)]) g:=by
 obtain⟨d,ks,rfl,hd,hf,_⟩:=h
 refine QF rfl (?_:Qdz [some (shL c d)] g=_)
 unfold Qdz
 refine Qbs (Qcv (xs:=[.int c.st,.int (c.f c.pl)]) (g1:=g) (QdB (g1:=g) rfl (QdB (g1:=g) ?_ rfl)) (by simp[SZ]))
 rw[QiL (n:=d) (ks:=ks) (i:=c.pl) (z:=.int 0) (by simp[shL]) hd (by simp[shL]) rfl,hf.getD]
theorem QeB{rows:List (List D)}:∀(k:Nat)(c:Cn)(p:Option (Nat×Int)),(runF rows (k+1) c).2=k+1->cutF rows (k+1) c p=cutF rows k c p+(if (k=0/\p=some (rdF c))\/(k≠0/\rdF (runF rows k c).1=rdF (runF rows (k-1) c).1) then 0 else 1)
 |0,c,p,h=>by
  cases hs:Z7 rows c with
  |none=>rw[Zd hs]at h;cases h
  |some c'=>simp[cutF,hs]
 |k+1,c,p,h=>by
  cases hs:Z7 rows c with
  |none=>rw[Zd hs]at h;cases h
  |some c' =>
   have h':(runF rows (k+1) c').2=k+1:=by rw[Q3 hs]at h;dsimp only at h;omega
   have ih:=QeB k c' (some (rdF c)) h'
   rw[cutF,hs]
   dsimp only
   rw[ih]
   conv=>rhs;rw[cutF,hs]
   dsimp only
   rw[Q3 hs]
   dsimp only
   cases k with
   |zero =>
    have e0:(runF rows 0 c').1=c':=rfl
    have e1:(runF rows (0+1-1) c).1=c:=rfl
    rw[e0,e1]
    have hc:(some (rdF c)=some (rdF c'))↔(rdF c'=rdF c):=⟨λe=>(Option.some.inj e).symm,λe=>by rw[e]⟩
    simp[hc];omega
   |succ k =>
    have e1:(runF rows (k+1+1-1) c).1=(runF rows k c').1:=by show(runF rows (k+1) c).1=_;rw[Q3 hs]
    rw[e1]
    simp;omega
theorem QeC{rows:List (List D)}:∀(k:Nat)(c:Cn)(p:Option (Nat×Int)),cutF rows k c p=cutF rows (runF rows k c).2 c p
 |0,_,_=>rfl
 |k+1,c,p=>by
  cases hs:Z7 rows c with
  |none=>rw[Zd hs];simp[cutF,hs]
  |some c'=>rw[Q3 hs];dsimp only;rw[cutF,hs];dsimp only;rw[QeC k c'];conv=>rhs;rw[cutF,hs]
theorem QiR{rows:List (List D)}:∀(k:Nat)(c:Cn)(p:Option (Nat×Int)),cutF rows k c p<=k
 |0,_,_=>Uh _
 |k+1,c,p=>by
  rw[cutF]
  cases Z7 rows c with
  |none=>exact Ts _
  |some c'=>dsimp only;have:=QiR (rows:=rows) k c' (some (rdF c));split <;> omega
theorem Qkg{rows:List (List D)}{c:Cn}{B r J:Nat}{ds:List D}{g:G}(hr:g[r]?=some (.lst ds))(h:RunL rows c B g ds J)(hJ:(runF rows J c).2=J)(hz:J<=1000):JN [.ref r] g=.ok (.int (cutF rows J c none)) g:=by
 have hl:=Yn hr
 rw[h.1]at hl
 have hd:∀i,i<=J->(runF rows i c).2=i:=λi hi=>(Qa4 (rows:=rows) J c i).2.1 (by omega)
 have rd:∀i,i<=J->∃x,pIx (.ref r) (.int i) g=.ok x g/\JL [x] g=.ok (.tup [.int (runF rows i c).1.st,.int ((runF rows i c).1.f (runF rows i c).1.pl)]) g:=λi hi=>by
  obtain⟨x,e,s⟩:=h.2 i hi
  exact⟨x,Qc9 hr e,QiQ s⟩
 obtain⟨σ',g',f1,rfl,y,rfl⟩:=Z5 (t:=gSet 2) (body:=Yt) (lo:=0) (n:=J) (σ:=[some (.ref r),some (.int 0),none]) (g:=g)
  (λi σ g'=>g'=g/\∃y,σ=[some (.ref r),some (.int (cutF rows i c none)),y]) ⟨rfl,none,rfl⟩ (λi σ g' hi ⟨q,y,hσ⟩=>by
   subst q hσ
   refine⟨[some (.ref r),some (.int (cutF rows i c none)),some (.int i)],[some (.ref r),some (.int (cutF rows (i+1) c none)),some (.int i)],g',by simp[gSet],?_,rfl,_,rfl⟩
   have hsn:=QeB (rows:=rows) i c none (hd (i+1) (by omega))
   unfold Yt
   cases i with
   |zero =>
    rw[hsn]
    exact ift g' (by simp) (by simp)
   |succ i =>
    obtain⟨x1,a1,a2⟩:=rd (i+1) (by omega)
    obtain⟨x2,b1,b2⟩:=rd i (by omega)
    have tt:Qk (mOp2 pNe (Ql JL (Qb (mOp2 pIx (mVar 0) (mVar 2)) mNil)) (Ql JL (Qb (mOp2 pIx (mVar 0) (mOp2 pSub (mVar 2) (mLit (.int 1)))) mNil))) [some (.ref r),some (.int (cutF rows (i+1) c none)),some (.int ((i+1:Nat):Int))] g'=.ok (!decide (rdF (runF rows (i+1) c).1=rdF (runF rows i c).1)) g':=by
     refine Yu (Yy (x:=.tup [.int (runF rows (i+1) c).1.st,.int ((runF rows (i+1) c).1.f (runF rows (i+1) c).1.pl)]) (y:=.tup [.int (runF rows i c).1.st,.int ((runF rows i c).1.f (runF rows i c).1.pl)]) (g1:=g') (g2:=g') ?_ ?_ ?_)
     ·rw[JP (ds:=[x1]) (g':=g') (QdB (Yy (x:=.ref r) (y:=.int ((i+1:Nat):Int)) (g1:=g') (g2:=g') rfl rfl a1) rfl)];exact a2
     ·rw[JP (ds:=[x2]) (g':=g') (QdB (Yy (x:=.ref r) (y:=.int (i:Nat)) (g1:=g') (g2:=g') rfl (by simp) b1) rfl)];exact b2
     ·have e:∀a b c d:Int,pNe (.tup [.int a,.int b]) (.tup [.int c,.int d]) g'=.ok (.bl (!((a == c) && ((b == d) && true)))) g':=λ_ _ _ _=>rfl
      rw[e]
      congr 2
      rw[Tw]
      simp[rdF]
      omega
    rw[hsn]
    by_cases e:rdF (runF rows (i+1) c).1=rdF (runF rows i c).1
    ·rw[Uz e]at tt
     refine iff' g' (QlY (by simp;omega) tt) ?_
     rw[Uc (.inr ⟨by omega,e⟩)];simp
    ·rw[Ul e]at tt
     refine ift g' (?_:_=Res.ok true g') ?_
     ·rw[QkY]
      simp only[show Qk (mOp2 pEq (mVar 2) (mLit (.int 0))) [some (.ref r),some (.int (cutF rows (i+1) c none)),some (.int ((i+1:Nat):Int))] g'=.ok false g' by simp;omega,tt];rfl
     ·rw[Ud (λz=>z.elim (λz=>by omega) (λz=>e z.2))];simp)
 refine QF rfl (?_:JM [some (.ref r),none,none] g'=_)
 unfold JM
 refine Qf [some (.ref r),some (.int 0),none] g' rfl (Qf [some (.ref r),some (.int (cutF rows J c none)),y] g' ?_ rfl)
 have hrg:Qs (mOp2 pSub (mOp1 pLen (mVar 0)) (mLit (.int 1))) [some (.ref r),some (.int 0),none] g'=.ok (QX 0 J) g':=ZM (by simp[hl]) (QaB (by omega))
 rw[Z9 hrg]
 exact f1
noncomputable def AdjN(m:Int):Sts->Prop
 |[]=>True
 | (t,k)::r=>0<=t/\t<m/\1<=k/\(∀q,r.head?=some q->q.1≠t)/\AdjN m r
theorem QbN{m:Int}{s c:Int}:∀{r:Sts},AdjN m r->0<=s->s<m->1<=c->(∀q,r.getLast?=some q->q.1≠s)->AdjN m (r++[(s,c)])
 |[],_,h0,h1,hc,_=>⟨h0,h1,hc,by simp,trivial⟩
 |p::r,h,h0,h1,hc,hl=>by
  refine⟨h.1,h.2.1,h.2.2.1,λq hq=>?_,QbN h.2.2.2.2 h0 h1 hc λq hq=>?_⟩
  ·cases r with
   |nil =>
    have:(s,c)=q:=by simpa using hq
    subst this
    exact λe=>hl p (by simp) e.symm
   |cons u r=>exact h.2.2.2.1 q (by simpa using hq)
  ·cases r with
   |nil=>simp at hq
   |cons u r=>exact hl q (by simpa using hq)
theorem Qgn{m:Int}{p:Int×Int}(hp:p.1≠0):∀{r:Sts},AdjN m (r++[p])->QU m (r++[p])
 |[],h=>⟨h.1,h.2.1,h.2.2.1,λe=>hp e.symm,trivial⟩
 |q::r,h=>by
  refine⟨h.1,h.2.1,h.2.2.1,?_,Qgn hp h.2.2.2.2⟩
  have h4:=h.2.2.2.1
  have h5:=h.2.2.2.2
  cases r with
  |nil=>exact h4 p (by simp)
  |cons u r=>exact h4 u (by simp)
theorem QeD{m:Int}:∀{s s':Sts},QU m s->QU m s'->(∀i,QK s i=QK s' i)->s=s'
 |[],[],_,_,_=>rfl
 |[],(t,k)::r,_,h,e=>by
  have hk:=h.2.2.1
  have e0:=e 0
  have ek:=e k.toNat
  rw[ZN h]at e0
  have hc:QK ((t,k)::r) k.toNat=QK r 0:=by rw[QK,Ud (by omega)];congr 1;omega
  rw[hc,ZN h.2.2.2.2]at ek
  exact absurd (ek.symm.trans e0) h.2.2.2.1
 | (t,k)::r,[],h,_,e=>by
  have hk:=h.2.2.1
  have e0:=e 0
  have ek:=e k.toNat
  rw[ZN h]at e0
  have hc:QK ((t,k)::r) k.toNat=QK r 0:=by rw[QK,Ud (by omega)];congr 1;omega
  rw[hc,ZN h.2.2.2.2]at ek
  exact absurd (ek.trans e0.symm) h.2.2.2.1
 | (t,k)::r,(t',k')::r',h,h',e=>by
  have hk:=h.2.2.1
  have hk':=h'.2.2.1
  have e0:=e 0
  rw[ZN h,ZN h']at e0
  have e0:t=t':=e0
  subst e0
  have hc:∀i,QK ((t,k)::r) (k.toNat+i)=QK r i:=λi=>by rw[QK,Ud (by omega)];congr 1;omega
  have hc':∀i,QK ((t,k')::r') (k'.toNat+i)=QK r' i:=λi=>by rw[QK,Ud (by omega)];congr 1;omega
  have ekk:k=k':=by
   rcases Int.lt_trichotomy k k' with z|z|z
   ·have e1:=e k.toNat
    have a1:=hc 0
    rw[Bd]at a1
    rw[a1,ZN h.2.2.2.2,QK,Uc (by omega)]at e1
    exact absurd e1 h.2.2.2.1
   ·exact z
   ·have e1:=e k'.toNat
    have a1:=hc' 0
    rw[Bd]at a1
    rw[a1,ZN h'.2.2.2.2,QK,Uc (by omega)]at e1
    exact absurd e1.symm h'.2.2.2.1
  subst ekk
  congr 1
  exact QeD h.2.2.2.2 h'.2.2.2.2 λi=>by rw[<-hc,<-hc',e]
noncomputable def tot:Sts->Nat
 |[]=>0
 | (_,k)::r=>k.toNat+tot r
theorem JS(a b:Sts):tot (a++b)=tot a+tot b:=by
 induction a with
 |nil=>simp[tot]
 |cons p r ih=>obtain⟨t,k⟩:=p;rw[RZ,tot,tot,ih];omega
theorem Qat{m:Int}:∀{a:Sts}(b:Sts)(i:Nat),AdjN m a->QK (a++b) i=if i<tot a then QK a i else QK b (i-tot a)
 |[],b,i,_=>by simp[tot]
 | (t,k)::r,b,i,h=>by
  have hk:=h.2.2.1
  rw[RZ,QK,QK,tot]
  by_cases z:(i:Int)<k
  ·rw[Uc z,Uc (by omega),Uc z]
  ·rw[Ud z,Ud z,Qat b _ h.2.2.2.2]
   by_cases y:i-k.toNat<tot r
   ·rw[Uc y,Uc (by omega)]
   ·rw[Ud y,Ud (by omega)];congr 1;omega
theorem Qau{t k:Int}{i:Nat}:QK [(t,k)] i=if (i:Int)<k then t else 0:=rfl
theorem Qgo{m:Int}:∀{a:Sts}{i:Nat},AdjN m a->tot a<=i->QK a i=0
 |[],_,_,_=>rfl
 | (t,k)::r,i,h,hi=>by
  have hk:=h.2.2.1
  rw[tot]at hi
  rw[QK,Ud (by omega)]
  exact Qgo h.2.2.2.2 (by omega)
structure Sn(m:Int)(φ:Nat->Int)(side:Sts)(last:Int):Prop where
 tt:(tot side:Int)=last+1
 ce:∀i,i<tot side->QK side i=φ i
 adj:AdjN m side
 ne:∀p,side.getLast?=some p->p.1≠0
noncomputable def Qfm(side:Sts)(last off s:Int):Sts :=
 if off > last+1 then side++[(0,off-last-1)]++[(s,1)] else
 match side.getLast? with
 |some p=>if p.1=s then side.dropLast++[(s,p.2+1)] else side++[(s,1)]
 |none=>side++[(s,1)]
theorem Qkh{m:Int}{a:Sts}{t k:Int}:AdjN m (a++[(t,k)])->AdjN m (a++[(t,k+1)]):=by
 induction a with
 |nil=>intro h;exact⟨h.1,h.2.1,by have:=h.2.2.1;omega,h.2.2.2⟩
 |cons p r ih =>
  intro h
  refine⟨h.1,h.2.1,h.2.2.1,λq hq=>?_,ih h.2.2.2.2⟩
  cases r with
  |nil =>
   have:(t,k+1)=q:=by simpa using hq
   subst this
   exact h.2.2.2.1 (t,k) (by simp)
  |cons u r=>exact h.2.2.2.1 q (by simpa using hq)
theorem Qki{m:Int}{a:Sts}{p:Int×Int}:AdjN m (a++[p])->AdjN m a:=by
 induction a with
 |nil=>intro _;trivial
 |cons q r ih =>
  intro h
  refine⟨h.1,h.2.1,h.2.2.1,λu hu=>?_,ih h.2.2.2.2⟩
  cases r with
  |nil=>simp at hu
  |cons v r=>exact h.2.2.2.1 u (by simpa using hu)
theorem Sn.turn{m:Int}{φ:Nat->Int}{side:Sts}{last:Int}{off:Nat}(h:Sn m φ side last)(hl:last+1<=off)(h0:φ off≠0)(h1:0<=φ off)(h2:φ off<m)(hb:∀i:Nat,last<i->i<off->φ i=0)(hm:0<m):Sn m φ (Qfm side last off (φ off)) off:=by
 have ht:=h.tt
 unfold Qfm
 by_cases z:(off:Int) > last+1
 ·rw[Uc z]
  have a1:AdjN m (side++[(0,(off:Int) - last-1)]):=QbN h.adj (by omega) hm (by omega) h.ne
  have a2:AdjN m (side++[(0,(off:Int) - last-1)]++[(φ off,1)]):=QbN a1 h1 h2 (by omega) (λq hq=>by
   have:(0,(off:Int) - last-1)=q:=by simpa using hq
   subst this;exact λe=>h0 e.symm)
  have t1:tot (side++[(0,(off:Int) - last-1)])=off:=by rw[JS];show tot side+(((off:Int) - last-1).toNat+0)=off;omega
  refine⟨by rw[JS,t1];show((off+((1:Int).toNat+0):Nat):Int)=_;omega,λi hi=>?_,a2,λp hp=>by
   have:(φ off,(1:Int))=p:=by simpa using hp
   subst this;exact h0⟩
  rw[JS,t1]at hi
  rw[Qat _ _ a1,t1]
  by_cases y:i<off
  ·rw[Uc y,Qat _ _ h.adj]
   by_cases x:i<tot side
   ·rw[Uc x];exact h.ce i x
   ·rw[Ud x,Qau,Uc (by omega)]
    exact(hb i (by omega) y).symm
  ·have hi:i<off+((1:Int).toNat+0):=hi
   have:i=off:=by omega
   subst this
   rw[Ud y,Qau,Uc (by omega)]
 ·rw[Ud z]
  have he:(off:Int)=last+1:=by omega
  have ho:tot side=off:=by omega
  have fin:(∀p,side.getLast?=some p->p.1≠φ off)->Sn m φ (side++[(φ off,1)]) off:=λhne=>by
   refine⟨by rw[JS,ho];show((off+((1:Int).toNat+0):Nat):Int)=_;omega,λi hi=>?_,QbN h.adj h1 h2 (by omega) hne,λp hp=>by
    have:(φ off,(1:Int))=p:=by simpa using hp
    subst this;exact h0⟩
   rw[JS,ho]at hi
   rw[Qat _ _ h.adj,ho]
   by_cases y:i<off
   ·rw[Uc y];exact h.ce i (by omega)
   ·have hi:i<off+((1:Int).toNat+0):=hi
    have:i=off:=by omega
    subst this
    rw[Ud y,Qau,Uc (by omega)]
  cases hg:side.getLast? with
  |none=>dsimp only;exact fin (by rw[hg];simp)
  |some p =>
   obtain⟨t,k⟩:=p
   dsimp only
   by_cases e:t=φ off
   ·rw[Uc e]
    obtain⟨a,ha⟩:∃a,side=a++[(t,k)]:=⟨side.dropLast,by
     have hne:side≠[]:=by rintro rfl;simp at hg
     rw[List.getLast?_eq_some_getLast hne]at hg
     have:=List.dropLast_concat_getLast hne
     rw[Option.some.inj hg]at this
     exact this.symm⟩
    subst ha
    rw[Wu,<-e]
    have hadj:=h.adj
    have ha:=Qki hadj
    have hk:1<=k:=by
     have:∀{a:Sts},AdjN m (a++[(t,k)])->1<=k:=λ{a}=>by
      induction a with
      |nil=>intro h;exact h.2.2.1
      |cons q r ih=>intro h;exact ih h.2.2.2.2
     exact this hadj
    have ho:tot a+(k.toNat+0)=off:=by rw[JS]at ho;exact ho
    refine⟨by rw[JS];show((tot a+((k+1).toNat+0):Nat):Int)=_;omega,λi hi=>?_,Qkh hadj,λp hp=>by
     have:(t,k+1)=p:=by simpa using hp
     subst this;rw[e];exact h0⟩
    rw[JS]at hi
    have hi:i<tot a+((k+1).toNat+0):=hi
    rw[Qat _ _ ha]
    by_cases y:i<off
    ·have:=h.ce i (by rw[JS];show i<tot a+(k.toNat+0);omega)
     rw[Qat _ _ ha]at this
     rw[<-this]
     by_cases x:i<tot a
     ·rw[Uc x,Uc x]
     ·rw[Ud x,Ud x,Qau,Qau,Uc (by omega),Uc (by omega)]
    ·have:i=off:=by omega
     subst this
     rw[Ud (by omega),Qau,Uc (by omega),e]
   ·rw[Ud e];exact fin (λq hq=>by rw[hg]at hq;cases hq;exact e)
theorem Sn.done{m:Int}{φ:Nat->Int}{side s:Sts}{last:Int}(h:Sn m φ side last)(hb:∀i:Nat,last<i->φ i=0)(hs:QU m s)(hc:∀i,φ i=QK s i):side=s:=by
 have ht:=h.tt
 have hg:QU m side:=by
  rcases Qah side with rfl|⟨a,p,rfl⟩
  ·trivial
  ·exact Qgn (h.ne p (by simp)) h.adj
 refine QeD hg hs λi=>?_
 rw[<-hc]
 by_cases z:i<tot side
 ·exact h.ce i z
 ·rw[Qgo h.adj (by omega),hb i (by omega)]
theorem Sn.start(m:Int)(φ:Nat->Int):Sn m φ [] (-1):=⟨rfl,λi hi=>by simp[tot]at hi,trivial,by simp⟩
theorem QiS{α:Type}{s:Nat}{xs:List α}{F H:α->D}{P:α->Bool}{t:MG}{c:MT}{e:ME}{n:Nat}{cap:List Nat}{σ:S3}{g0 g:G}{a:ME}(hs:g[s]?=some (.lst (xs.map F)))(hz:xs.length<=100000)(ha:a σ g0=.ok (.ref s) g)(I:S3->Prop)(h0:I (capt n cap σ))(step:∀x∈xs,∀σ',I σ'->∃σ1,t (F x) σ'=some σ1/\I σ1/\c σ1 g=.ok (P x) g/\e σ1 g=.ok (H x) g):YH (QM a) n cap t c e σ g0=.ok (.ref g.length) (g++[.lst ((xs.filter P).map H)]):=by
 have hit:QM a σ g0=.ok (srcL s xs.length) g:=by
  unfold QM
  rw[ha,Res.bind_ok]
  unfold J0
  dsimp only
  rw[hs]
  dsimp only
  rw[Um]
  try rfl
 obtain⟨ys,σ',g3,c1,c2,c3,_⟩:=Z6 (src:=srcL s xs.length) (t:=t) (c:=c) (e:=e) (n:=xs.length)
  (λi σ' g4 acc=>acc=((xs.take i).filter P).map H/\g4=g/\I σ') (λi σ' g4 acc hi hQ=>by
   obtain⟨q1,q2,q3⟩:=hQ
   subst q2
   obtain⟨σ1,e1,e2,e3,e4⟩:=step xs[i] (UJ hi) σ' q3
   refine⟨F xs[i],σ1,g4,?_,e1,?_⟩
   ·show(match g4[s]? with|some (.lst es)=>some es[i]? | _=>none)=_
    rw[hs];dsimp only;rw[Up,UC hi];rfl
   ·rw[UW hi,List.filter_append]
    cases hp:P xs[i]with
    |true=>rw[hp]at e3;exact .inl ⟨H xs[i],g4,e3,e4,by rw[q1];simp[hp],rfl,e2⟩
    |false=>rw[hp]at e3;exact .inr ⟨e3,by rw[q1];simp[hp],rfl,e2⟩) (λσ g4 acc hQ=>by
   show(match g4[s]? with|some (.lst es)=>some es[xs.length]? | _=>none)=_
   rw[hQ.2.1,hs];dsimp only;rw[UP (by simp)]) (xs.length+1) 0 (capt n cap σ) g [] (by omega) (by omega) ⟨rfl,rfl,h0⟩
 rw[TJ]at c2
 subst c2 c3
 exact Qco hit (Tn (Qbt hz)) rfl c1
theorem QoQ{a b:Bool}{g:G}:pEq (.bl a) (.bl b) g=.ok (.bl (a == b)) g:=rfl
theorem Qfn{f:Int->Int}{is:List Int}{P:Int->Bool}{h:Int->Int}(hn:is.Nodup)(hinj:∀x y,h x=h y->x=y):(ZE ((is.filter P).map h)).Pairwise (· < ·)/\∀o,o∈ZE ((is.filter P).map h)↔∃x∈is,P x=true/\h x=o:=by
 have hp:=Zs ((is.filter P).map h)
 have hs:=Y0 ((is.filter P).map h)
 have hnd:((is.filter P).map h).Nodup:=by
  have h1:(is.filter P).Nodup:=hn.filter _
  unfold List.Nodup at h1 ⊢
  rw[List.pairwise_map]
  exact h1.imp λhab e=>hab (hinj _ _ e)
 have hn':(ZE ((is.filter P).map h)).Nodup:=hp.nodup_iff.mpr hnd
 refine⟨(hs.and hn').imp λ⟨a,b⟩=>by omega,λo=>?_⟩
 rw[hp.mem_iff,List.mem_map]
 constructor
 ·rintro ⟨x,hx,e⟩
  have:=T1.mp hx
  exact⟨x,this.1,this.2,e⟩
 ·rintro ⟨x,hx,h1,e⟩
  exact⟨x,T1.mpr ⟨hx,h1⟩,e⟩
noncomputable def ZC(c:Cn)(d u v:Nat)(x0:D)(w y:Int)(x7 x8 x9 x10:Option D):S3:=[some x0,some (.int c.st),some (.int c.pl),some (.ref d),some (.tup [.ref u,.ref v]),some (.int w),some (.int y),x7,x8,x9,x10]
theorem QiT(n:Nat):ixD (n+1) (-1)=some n:=QdJ n
theorem QiU{c:Cn}{d u v q:Nat}{x0:D}{w y:Int}{x7 x10:Option D}{ks:List (DK×D)}{g:G}{side:Sts}{last:Int}{off:Nat}{φ:Nat->Int}(hd:g[d]?=some (.dct ks))(hf:DF ks c.f)(hq:pIx (.tup [.ref u,.ref v]) (.int w) g=.ok (.ref q) g)(hq2:∀o,pIx (.tup [.ref u,.ref v]) (.int w) (g.set q o)=.ok (.ref q) (g.set q o))(hs:g[q]?=some (.lst (stsD side)))(hx:c.f (c.pl+y*((off:Int)+1-w))=φ off)(h0:φ off≠0)(hy:cM y)(hl:last+1<=off)(hz:side.length<=90000):
  ∃x10',JJ (ZC c d u v x0 w y x7 (some (.int last)) (some (.int off)) x10) g=.nx (ZC c d u v x0 w y x7 (some (.int off)) (some (.int off)) x10') (g.set q (.lst (stsD (Qfm side last off (φ off))))):=by
 have p1:pDIx (.ref d) (.int (c.pl+y*((off:Int)+1-w))) g=.ok (.int (φ off)) g:=by unfold pDIx;dsimp only;rw[hd];dsimp only;rw[hf.get,hx,Ud h0]
 refine⟨some (.int (φ off)),?_⟩
 unfold JJ
 refine Qf (ZC c d u v x0 w y x7 (some (.int last)) (some (.int off)) (some (.int (φ off)))) g (by simp[ZC,mulL hy,p1]) ?_
 have hz1:(stsD side).length<SZ:=Qbt (by simp[stsD];omega)
 unfold Qfm
 by_cases z:(off:Int) > last+1
 ·rw[Uc z]
  have hap:∀(g:G)(ds:List D)(e:ME)(y':D)(σ:S3),mOp2 pIx (mVar 4) (mVar 5) σ g=.ok (.ref q) g->g[q]?=some (.lst ds)->e σ g=.ok y' g->ds.length<SZ->Zh (Zv (mOp2 pIx (mVar 4) (mVar 5)) e) σ g=.nx σ (g.set q (.lst (ds++[y']))):=λg ds e y' σ a1 a2 a3 a4=>Qcn a1 a2 a3 a4
  refine Qf (ZC c d u v x0 w y x7 (some (.int last)) (some (.int off)) (some (.int (φ off)))) (g.set q (.lst (stsD side++[stD (0,(off:Int) - last-1)]))) (ift g (by simp[ZC];omega) (hap g _ _ _ _ (by simp[ZC,hq]) hs (by simp[ZC,SZ,stD]) hz1)) ?_
  have hs2:=QA (u:=.lst (stsD side++[stD (0,(off:Int) - last-1)])) hs
  have hne:¬(off:Int)=last+1:=by omega
  refine Qf (ZC c d u v x0 w y x7 (some (.int last)) (some (.int off)) (some (.int (φ off)))) _ (iff' _ (by simp[ZC,hne]) (hap _ _ _ (stD (φ off,1)) _ (by simp[ZC,hq2]) hs2 (by simp[ZC,SZ,stD]) (Qbt (by simp[stsD];omega)))) ?_
  rw[Rf]
  simp[ZC,stsD]
 ·rw[Ud z]
  have he:(off:Int)=last+1:=by omega
  refine Qf (ZC c d u v x0 w y x7 (some (.int last)) (some (.int off)) (some (.int (φ off)))) g (iff' g (by simp[ZC];omega) rfl) ?_
  have hln:=Yn hs
  have app:Zh (Zv (mOp2 pIx (mVar 4) (mVar 5)) (mOpA pTup (Qb (mVar 10) (Qb (mLit (.int 1)) mNil)))) (ZC c d u v x0 w y x7 (some (.int last)) (some (.int off)) (some (.int (φ off)))) g=.nx (ZC c d u v x0 w y x7 (some (.int last)) (some (.int off)) (some (.int (φ off)))) (g.set q (.lst (stsD side++[stD (φ off,1)]))):=Qcn (by simp[ZC,hq]) hs (by simp[ZC,SZ,stD]) hz1
  rcases Qah side with rfl|⟨a,p,rfl⟩
  ·refine Qf _ _ (iff' g (by simp[ZC,he,hq,hln,stsD]) app) (by simp[ZC,stsD])
  ·obtain⟨t,k⟩:=p
   have hs':g[q]?=some (.lst (stD (t,k)::(stsD a).reverse).reverse):=by rw[hs];simp[stsD]
   have hlast:pIx (.ref q) (.int (-1)) g=.ok (.tup [.int t,.int k]) g:=QdC hs'
   have hs3:g[q]?=some (.lst (stsD a++[stD (t,k)])):=by rw[hs];simp[stsD]
   have hg:(a++[(t,k)]).getLast?=some (t,k):=by simp
   rw[hg]
   dsimp only
   by_cases e:t=φ off
   ·rw[Uc e,Wu]
    refine Qf (ZC c d u v x0 w y x7 (some (.int last)) (some (.int off)) (some (.int (φ off)))) (g.set q (.lst (stsD a++[stD (φ off,k+1)]))) (ift g (by simp[ZC,he,hq,hln,hlast,stsD,e]) ?_) (by simp[ZC,stsD])
    unfold Z1
    simp[ZC,hq,hlast,SZ,hs3,QiT,stD]
   ·rw[Ud e]
    refine Qf _ _ (iff' g (by simp[ZC,he,hq,hln,hlast,stsD,e]) app) (by simp[ZC,stsD])
theorem QiV(side:Sts)(last off s:Int):(Qfm side last off s).length<=side.length+2:=by
 unfold Qfm
 split
 ·simp
 ·split
  ·split
   ·simp;omega
   ·simp
  ·simp
theorem QeE{c:Cn}{d u v q m:Nat}{x0:D}{w y:Int}{x7 x8 x9 x10:Option D}{ks:List (DK×D)}{g:G}{φ:Nat->Int}{s:Sts}(hd:g[d]?=some (.dct ks))(hf:DF ks c.f)(hk:ks.length<=63)(hq:∀g,pIx (.tup [.ref u,.ref v]) (.int w) g=.ok (.ref q) g)(hs:g[q]?=some (.lst []))(hw:(w=0/\y = -1)\/(w=1/\y=1))(hφ:∀off:Nat,c.f (c.pl+y*((off:Int)+1-w))=φ off)(hm:∀x,0<=c.f x/\c.f x<m)(hG:QU m s)(hc:∀i,φ i=QK s i):
  ∃y7 y8 y9 y10 g',QaH (ZC c d u v x0 w y x7 x8 x9 x10) g=.nx (ZC c d u v x0 w y y7 y8 y9 y10) g'/\g'[q]?=some (.lst (stsD s))/\Keeps [q] g g':=by
 obtain⟨is,k1,k2,k3⟩:=hf.keys
 have hil:=Qgm k1
 have hsl:(ZE is).length=is.length:=(Zs is).length_eq
 have hqd:q≠d:=λe=>by rw[e,hd]at hs;cases hs
 have hcy:cM y:=by rcases hw with⟨_,rfl⟩|⟨_,rfl⟩ <;> exact⟨by decide,by decide⟩
 -- the spots
 have p1:Qe8 (.ref d) g=.ok (.ref g.length) (g++[.lst (is.map .int)]):=by
  unfold Qe8;dsimp only;rw[hd];dsimp only;rw[k1];dsimp only;rw[Uc (by omega)]
 have g1:=Qq (g:=g) (.lst (is.map D.int))
 have kp1:Keeps [] g (g++[.lst (is.map D.int)]):=.push _
 generalize g.length=n1 at p1 g1
 generalize g++[.lst (is.map D.int)]=h1 at p1 g1 kp1
 have p2:YK (.ref n1) h1=.ok (.ref h1.length) (h1++[.lst ((ZE is).map .int)]):=by
  unfold YK;rw[YT g1];dsimp only;rw[Qcu];dsimp only;rw[Uc (by omega)]
 have g2:=Qq (g:=h1) (.lst ((ZE is).map D.int))
 have kp2:Keeps [] h1 (h1++[.lst ((ZE is).map D.int)]):=.push _
 generalize h1.length=n2 at p2 g2
 generalize h1++[.lst ((ZE is).map D.int)]=h2 at p2 g2 kp2
 let S:Option D->Option D->Option D->Option D->S3:=ZC c d u v x0 w y
 have ha:mOp1 YK (mOp1 Qe8 (mVar 3)) (S x7 x8 x9 x10) g=.ok (.ref n2) h2:=YS (YS (x:=.ref d) (g1:=g) rfl p1) p2
 let P:Int->Bool:=λx=>decide (x<c.pl) == (w == 0)
 let hh:Int->Int:=λx=>(x-c.pl)*y-1+w
 have c1:=QiS (F:=D.int) (H:=λx=>.int (hh x)) (P:=P) (t:=gSet 0) (c:=Qk (mOp2 pEq (mOp2 pLt (mVar 0) (mVar 3)) (mOp2 pEq (mVar 1) (mLit (.int 0))))) (e:=mOp2 pAdd (mOp2 pSub (mOp2 pMul (mOp2 pSub (mVar 0) (mVar 3)) (mVar 2)) (mLit (.int 1))) (mVar 1)) (n:=1) (cap:=[5,6,2]) (σ:=S x7 x8 x9 x10) (g0:=g) (a:=mOp1 YK (mOp1 Qe8 (mVar 3))) g2 (by omega) ha (λσ=>∃z,σ=[z,some (.int w),some (.int y),some (.int c.pl)]) ⟨_,rfl⟩ (λx hx σ' ⟨z,hz⟩=>by
  subst hz
  exact⟨[some (.int x),some (.int w),some (.int y),some (.int c.pl)],rfl,⟨_,rfl⟩,by simp[QoQ,P],by simp[mulR hcy,hh]⟩)
 have kp3:Keeps [] h2 (h2++[.lst (((ZE is).filter P).map λx=>.int (hh x))]):=.push _
 have g3:=Qq (g:=h2) (.lst (((ZE is).filter P).map λx=>D.int (hh x)))
 generalize h2.length=n3 at c1 g3
 generalize h2++[.lst (((ZE is).filter P).map λx=>D.int (hh x))]=h3 at c1 g3 kp3
 have e3:((ZE is).filter P).map (λx=>D.int (hh x))=(((ZE is).filter P).map hh).map D.int:=by rw[List.map_map];rfl
 rw[e3]at g3
 have p4:YK (.ref n3) h3=.ok (.ref h3.length) (h3++[.lst ((ZE (((ZE is).filter P).map hh)).map .int)]):=by
  unfold YK;rw[YT g3];dsimp only;rw[Qcu];dsimp only;rw[Uc (by have:=TQ P (ZE is);rw[Um];omega)]
 have hnd:(ZE is).Nodup:=(Zs is).nodup_iff.mpr k2
 have hinj:∀a b,hh a=hh b->a=b:=λa b e=>by
  rcases hw with⟨rfl,rfl⟩|⟨rfl,rfl⟩ <;> (simp only[hh]at e;omega)
 obtain⟨o1,o2⟩:=Qfn (f:=c.f) (P:=P) hnd hinj
 have hlen:(ZE (((ZE is).filter P).map hh)).length<=30000:=by
  rw[(Zs _).length_eq,Um]
  have:=TQ P (ZE is)
  omega
 generalize hoff:ZE (((ZE is).filter P).map hh)=offs at *
 -- what an offset is
 have hmem:∀o,o∈offs↔0<=o/\φ o.toNat≠0:=λo=>by
  rw[o2]
  constructor
  ·rintro ⟨x,hx,hp,e⟩
   have hx:=(k3 x).mp ((Zs is).mem_iff.mp hx)
   rcases hw with⟨rfl,rfl⟩|⟨rfl,rfl⟩
   ·have hp:x<c.pl:=by simpa[P]using hp
    have e:(x-c.pl) * -1-1+0=o:=e
    refine⟨by omega,?_⟩
    rw[<-hφ,show c.pl + -1*(((o.toNat:Nat):Int)+1-0)=x by omega]
    exact hx
   ·have hp:¬x<c.pl:=by simpa[P]using hp
    have e:(x-c.pl)*1-1+1=o:=e
    refine⟨by omega,?_⟩
    rw[<-hφ,show c.pl+1*(((o.toNat:Nat):Int)+1-1)=x by omega]
    exact hx
  ·rintro ⟨h0,h1⟩
   rw[<-hφ]at h1
   refine⟨_,(Zs is).mem_iff.mpr ((k3 _).mpr h1),?_,?_⟩
   ·rcases hw with⟨rfl,rfl⟩|⟨rfl,rfl⟩
    ·have:c.pl + -1*(((o.toNat:Nat):Int)+1-0)<c.pl:=by omega
     simp only[P,Uz this];rfl
    ·have:¬c.pl+1*(((o.toNat:Nat):Int)+1-1)<c.pl:=by omega
     simp only[P,Ul this];rfl
   ·rcases hw with⟨rfl,rfl⟩|⟨rfl,rfl⟩ <;> (simp only[hh];omega)
 have kp4:Keeps [] h3 (h3++[.lst (offs.map D.int)]):=.push _
 have g4:=Qq (g:=h3) (.lst (offs.map D.int))
 generalize hn4:h3.length=n4 at p4 g4
 have kpp:=((kp1.trans kp2).trans kp3).trans kp4
 have hqn:q≠n4:=λe=>by
  have h3q:=((kp1.trans kp2).trans kp3).at' _ _ (by simp) hs
  have:=Q2 h3q
  omega
 generalize h3++[.lst (offs.map D.int)]=h4 at p4 g4 kp4 kpp
 have hd4:=kpp.at' _ _ (by simp) hd
 have hs4:=kpp.at' _ _ (by simp) hs
 -- the loop
 obtain⟨σ',g',f1,side,last,q1,q2,q3,q4,q5,q0,y9,y10,q6⟩:=Qfb (src:=srcL n4 offs.length) (t:=gSet 9) (body:=JJ) (n:=offs.length) (σ:=S (some (.ref n3)) (some (.int (-1))) x9 x10) (g:=h4) rfl
  (λi σ g'=>∃side last,g'[q]?=some (.lst (stsD side))/\Sn m φ side last/\(∀(j:Nat) o,j<i->offs[j]?=some o->o<=last)/\(∀(j:Nat) o,i<=j->offs[j]?=some o->last<o)/\Keeps [q] h4 g'/\side.length<=2*i/\∃y9 y10,σ=S (some (.ref n3)) (some (.int last)) y9 y10) ⟨[],-1,hs4,Sn.start _ _,λj o hj=>by omega,λj o _ ho=>by have:=(hmem o).mp (Rk ho);omega,.refl,Uh _,_,_,rfl⟩ (λi σ g' hi ⟨side,last,q1,q2,q3,q4,q5,q0,y9,y10,hσ⟩=>by
   subst hσ
   have hoi:offs[i]?=some offs[i]:=by simp[hi]
   have hmi:=(hmem offs[i]).mp (UJ hi)
   obtain⟨o,ho⟩:∃o:Nat,offs[i]=(o:Int):=⟨offs[i].toNat,by omega⟩
   rw[ho]at hmi hoi
   have hmi2:φ o≠0:=by simpa using hmi.2
   have hlo:=q4 i o (Uh _) hoi
   have hfo:=hm (c.pl+y*((o:Int)+1-w))
   rw[hφ]at hfo
   have hside:side.length<=90000:=by omega
   obtain⟨z10,e1⟩:=QiU (last:=last) (off:=o) (φ:=φ) (x0:=x0) (x7:=some (.ref n3)) (x10:=y10) (q5.at' _ _ (by simpa using hqd.symm) hd4) hf (hq g') (λo=>hq _) q1 (hφ o) hmi2 hcy (by omega) hside
   have hgap:∀j:Nat,last<j->j<o->φ j=0:=λj h1 h2=>by
    apply Tu
    intro hne
    have:(j:Int)∈offs:=(hmem j).mpr ⟨by omega,by simpa using hne⟩
    obtain⟨k,hk',ek⟩:=U7 this
    have hk2:offs[k]?=some (j:Int):=by simp[hk',ek]
    rcases Nat.lt_trichotomy k i with z|z|z
    ·have:=q3 k j z hk2;omega
    ·subst z;rw[hoi]at hk2;cases hk2;omega
    ·have:=(RL.mp o1) i k hi hk' z
     rw[ho,ek]at this;omega
   refine⟨.int o,S (some (.ref n3)) (some (.int last)) (some (.int o)) y10,_,_,?_,rfl,e1,Qfm side last o (φ o),o,QA q1,q2.turn (by omega) hmi2 hfo.1 hfo.2 hgap (by omega),λj o' hj ho'=>?_,λj o' hj ho'=>?_,q5.trans (.set _ _),by have:=QiV side last o (φ o);omega,_,_,rfl⟩
   ·show(match g'[n4]? with|some (.lst es)=>some es[i]? | _=>none)=_
    rw[q5.at' _ _ (by simpa using hqn.symm) g4];dsimp only;rw[Up,hoi];rfl
   ·by_cases z:j<i
    ·have:=q3 j o' z ho';omega
    ·have:j=i:=by omega
     subst this;rw[hoi]at ho';cases ho';omega
   ·have hj2:=(Uj.mp ho')
    obtain⟨hj3,ej⟩:=hj2
    have:=(RL.mp o1) i j hi hj3 (by omega)
    rw[ho,ej]at this;exact this) (λσ g' ⟨_,_,_,_,_,_,q5,_,_⟩=>by
   show(match g'[n4]? with|some (.lst es)=>some es[offs.length]? | _=>none)=_
   rw[q5.at' _ _ (by simpa using hqn.symm) g4];dsimp only;rw[UP (by simp)])
 subst q6
 have hend:side=s:=q2.done (λj hj=>by
  apply Tu
  intro hne
  have:(j:Int)∈offs:=(hmem j).mpr ⟨by omega,by simpa using hne⟩
  obtain⟨k,hk',ek⟩:=U7 this
  have:=q3 k j hk' (by simp[hk',ek])
  omega) hG hc
 subst hend
 refine⟨some (.ref n3),some (.int last),y9,y10,g',?_,q1,(kpp.mono (by simp)).trans q5⟩
 unfold QaH
 refine Qf (S (some (.ref n3)) x8 x9 x10) h3 (Zq c1) (Qf (S (some (.ref n3)) (some (.int (-1))) x9 x10) h3 rfl ?_)
 have hit:QM (mOp1 YK (mVar 7)) (S (some (.ref n3)) (some (.int (-1))) x9 x10) h3=.ok (srcL n4 offs.length) h4:=by
  unfold QM
  rw[YS (x:=.ref n3) (g1:=h3) rfl p4,Res.bind_ok]
  unfold J0
  dsimp only
  rw[g4]
  dsimp only
  rw[Um]
  try rfl
 rw[Z9 hit]
 exact f1
theorem ixT0{a b:D}{g:G}:pIx (.tup [a,b]) (.int 0) g=.ok a g:=QnN
theorem ixT1{a b:D}{g:G}:pIx (.tup [a,b]) (.int 1) g=.ok b g:=Qiy
theorem Qfo{n m d:Nat}{c:Cn}{ks:List (DK×D)}{g:G}{S:RowN}(hd:g[d]?=some (.dct ks))(hf:DF ks c.f)(hk:ks.length<=63)(ho:OkN n m S)(h:RF S c)(hm:∀x,0<=c.f x/\c.f x<m):
  ∃u v g',JK [shL c d] g=.ok (.tup [.int S.st,.ref u,.ref v]) g'/\g'[u]?=some (.lst (stsD S.L))/\g'[v]?=some (.lst (stsD (putN S.R S.own 1)))/\Keeps [] g g':=by
 have hR:=YB (c:=1) ho.R ho.o0 ho.o1
 have cR:∀i:Nat,c.f (c.pl+i)=QK (putN S.R S.own 1) i:=λi=>by
  cases i with
  |zero=>rw[(JQ ho.R).1,<-h.own];simp
  |succ i=>rw[(JQ ho.R).2,<-h.R];congr 1;omega
 have kp:Keeps [] g (g++[.lst [],.lst []]):=⟨by simp,λk o _ e=>Yo e⟩
 have u0:(g++[.lst [],.lst []])[g.length]?=some (.lst []):=gt0
 have v0:(g++[.lst [],.lst []])[g.length+1]?=some (.lst []):=gt1
 have e0:mOpA pTup (Qb (mOpA newL mNil) (Qb (mOpA newL mNil) mNil)) [some (shL c d),some (.int c.st),some (.int c.pl),some (.ref d),none,none,none,none,none,none,none] g=.ok (.tup [.ref g.length,.ref (g.length+1)]) (g++[.lst [],.lst []]):=by simp[SZ]
 have huv:g.length≠g.length+1:=by omega
 have hgl:∀x,g.length<=x->x=g.length\/x=g.length+1->g.length<=x:=λx h _=>h
 generalize hu:g.length=u at u0 v0 e0 huv
 generalize hv:u+1=v at v0 e0 huv
 generalize g++[GO.lst [],GO.lst []]=g1 at kp u0 v0 e0
 obtain⟨y7,y8,y9,y10,g2,f2,s2,k2⟩:=QeE (c:=c) (d:=d) (u:=u) (v:=v) (q:=u) (x0:=shL c d) (w:=0) (y:=-1) (x7:=none) (x8:=none) (x9:=none) (x10:=none) (φ:=λi=>c.f (c.pl-1-i)) (s:=S.L) (kp.at' _ _ (by simp) hd) hf hk (λg=>ixT0) u0 (.inl ⟨rfl,rfl⟩) (λoff=>by congr 1;omega) hm ho.L (λi=>h.L i)
 have hdl:=Q2 hd
 obtain⟨z7,z8,z9,z10,g3,f3,s3,k3⟩:=QeE (c:=c) (d:=d) (u:=u) (v:=v) (q:=v) (x0:=shL c d) (w:=1) (y:=1) (x7:=y7) (x8:=y8) (x9:=y9) (x10:=y10) (φ:=λi=>c.f (c.pl+i)) (s:=putN S.R S.own 1) (k2.at' _ _ (by simp;omega) (kp.at' _ _ (by simp) hd)) hf hk (λg=>ixT1) (k2.at' _ _ (by simpa using huv.symm) v0) (.inr ⟨rfl,rfl⟩) (λoff=>by congr 1;omega) hm hR cR
 refine⟨u,v,g3,QF rfl (?_:Qdy [some (shL c d),none,none,none,none,none,none,none,none,none,none] g=_),k3.at' _ _ (by simpa using huv) s2,s3,(kp.over k2 (by simp;omega)).over k3 (by simp;omega)⟩
 unfold Qdy
 refine Qf [some (shL c d),some (.int c.st),some (.int c.pl),some (.ref d),none,none,none,none,none,none,none] g rfl (Qf [some (shL c d),some (.int c.st),some (.int c.pl),some (.ref d),some (.tup [.ref u,.ref v]),none,none,none,none,none,none] g1 (Zq e0) (Qf (ZC c d u v (shL c d) 1 1 z7 z8 z9 z10) g3 ?_ ?_))
 ·have e5:QM (mOpA pTup (Qb (mOpA pTup (Qb (mLit (.int 0)) (Qb (mOp1 pNeg (mLit (.int 1))) mNil))) (Qb (mOpA pTup (Qb (mLit (.int 1)) (Qb (mLit (.int 1)) mNil))) mNil))) [some (shL c d),some (.int c.st),some (.int c.pl),some (.ref d),some (.tup [.ref u,.ref v]),none,none,none,none,none,none] g1=.ok ⟨λ_ i=>some ([D.tup [.int 0,.int (-1)],D.tup [.int 1,.int 1]]:List D)[i]?,2⟩ g1:=rfl
  rw[Z9 e5]
  show forL _ _ _ 3 0 _ _=_
  have st1:Yl [gSet 5,gSet 6] (.tup [.int 0,.int (-1)]) [some (shL c d),some (.int c.st),some (.int c.pl),some (.ref d),some (.tup [.ref u,.ref v]),none,none,none,none,none,none]=some (ZC c d u v (shL c d) 0 (-1) none none none none):=rfl
  have st2:Yl [gSet 5,gSet 6] (.tup [.int 1,.int 1]) (ZC c d u v (shL c d) 0 (-1) y7 y8 y9 y10)=some (ZC c d u v (shL c d) 1 1 y7 y8 y9 y10):=rfl
  simp[forL,st1,st2,f2,f3]
 ·simp[ZC,SZ,h.st]
abbrev cnt(g:G)(a:Nat)(k:Int):Prop:=g[a]?=some (.lst [.int k])
end L3
section
namespace L3
open PySem
def TabW(N n m:Nat)(g:G)(t:Nat):Prop:=N<=t/\∃ls:List Nat,g[t]?=some (.lst (ls.map .ref))/\ls.length=n/\∀x∈ls,N<=x/\x≠t/\∃r,g[x]?=some (.lst r)/\r.length=m/\∀d∈r,entOk d n m
theorem Ql9{N n m t:Nat}{g:G}{rows:List (List D)}(h:tabOf N g t rows)(h1:rows.length=n)(h2:∀r∈rows,r.length=m)(h3:∀r∈rows,∀d∈r,entOk d n m):TabW N n m g t:=by
 obtain⟨hN,ds,e1,e2,e3⟩:=h
 have:∃ls:List Nat,ds=ls.map D.ref:=by
  have hx:∀x∈ds,∃n,x=D.ref n:=λx hx=>by
   obtain⟨i,hi,rfl⟩:=U7 hx
   obtain⟨n,q,_⟩:=e3 i ds[i] (rows[i]'(by omega)) (by simp[hi]) (by simp[show i<rows.length by omega])
   exact⟨n,q⟩
  clear e1 e2 e3
  induction ds with
  |nil=>exact⟨[],rfl⟩
  |cons x r ih =>
   obtain⟨n,rfl⟩:=hx x (by simp)
   obtain⟨ls,rfl⟩:=ih λy hy=>hx y (by simp[hy])
   exact⟨n::ls,rfl⟩
 obtain⟨ls,rfl⟩:=this
 have hl:ls.length=rows.length:=by simpa using e2
 refine⟨hN,ls,e1,by omega,λx hx=>?_⟩
 obtain⟨i,hi,rfl⟩:=U7 hx
 have hr:i<rows.length:=by omega
 obtain⟨n',q1,q2,q3,q4⟩:=e3 i (.ref ls[i]) rows[i] (by simp[hi]) (by simp[hr])
 cases q1
 exact⟨q2,q3,rows[i],q4,h2 _ (UJ hr),h3 _ (UJ hr)⟩
theorem TabW.back{N n m t:Nat}{g:G}(h:TabW N n m g t):∃rows,tabOf N g t rows/\rows.length=n/\(∀r∈rows,r.length=m)/\∀r∈rows,∀d∈r,entOk d n m:=by
 obtain⟨hN,ls,e1,e2,e3⟩:=h
 have:∀ls:List Nat,(∀x∈ls,N<=x/\x≠t/\∃r,g[x]?=some (.lst r)/\r.length=m/\∀d∈r,entOk d n m)->∃rows:List (List D),rows.length=ls.length/\(∀r∈rows,r.length=m/\∀d∈r,entOk d n m)/\∀(i:Nat) x r,ls[i]?=some x->rows[i]?=some r->N<=x/\x≠t/\g[x]?=some (.lst r):=by
  intro ls
  induction ls with
  |nil=>exact λ_=>⟨[],rfl,by simp,by simp⟩
  |cons x l ih =>
   intro hx
   obtain⟨rows,a1,a2,a3⟩:=ih λy hy=>hx y (by simp[hy])
   obtain⟨b1,b2,r,b3,b4,b5⟩:=hx x (by simp)
   refine⟨r::rows,by simp[a1],λr' hr'=>?_,λi y r' hy hr'=>?_⟩
   ·rcases UL.mp hr' with rfl|hr'
    ·exact⟨b4,b5⟩
    ·exact a2 r' hr'
   ·cases i with
    |zero=>simp at hy hr';subst hy hr';exact⟨b1,b2,b3⟩
    |succ i=>exact a3 i y r' (by simpa using hy) (by simpa using hr')
 obtain⟨rows,a1,a2,a3⟩:=this ls e3
 refine⟨rows,⟨hN,_,e1,by simp[a1],λi x r hx hr=>?_⟩,by omega,λr hr=>(a2 r hr).1,λr hr=>(a2 r hr).2⟩
 rw[Up]at hx
 cases hl:ls[i]? with
 |none=>rw[hl]at hx;cases hx
 |some y =>
  rw[hl]at hx
  cases hx
  exact⟨y,rfl,(a3 i y r hl hr).1,(a3 i y r hl hr).2.1,(a3 i y r hl hr).2.2⟩
theorem TabW.set{N n m t x:Nat}{g:G}{r:List D}(h:TabW N n m g t)(hx:g[x]?=some (.lst r))(xt:x≠t){r':List D}(hl:r'.length=m)(hr:∀d∈r',entOk d n m):TabW N n m (g.set x (.lst r')) t:=by
 obtain⟨hN,ls,e1,e2,e3⟩:=h
 refine⟨hN,ls,by rw[Ug xt];exact e1,e2,λy hy=>?_⟩
 obtain⟨b1,b2,r0,b3,b4,b5⟩:=e3 y hy
 by_cases z:x=y
 ·subst z;exact⟨b1,b2,r',QA hx,hl,hr⟩
 ·exact⟨b1,b2,r0,by rw[Ug z];exact b3,b4,b5⟩
theorem TabW.cnt{N n m t a:Nat}{g:G}{o:GO}(h:TabW N n m g t)(ha:a<N):TabW N n m (g.set a o) t:=by
 obtain⟨hN,ls,e1,e2,e3⟩:=h
 refine⟨hN,ls,by rw[Ug (by omega)];exact e1,e2,λy hy=>?_⟩
 obtain⟨b1,b2,r0,b3,b4,b5⟩:=e3 y hy
 exact⟨b1,b2,r0,by rw[Ug (by omega)];exact b3,b4,b5⟩
noncomputable def sMb(ns:List Int)(a n m t:Nat)(x2 x6 x7:Option D):S3:=[some (.fl (ns.map .int)),some (.ref a),x2,some (.int n),some (.int m),some (.ref t),x6,x7]
theorem Qma{N n m t a i j:Nat}{ns:List Int}{g:G}{k:Int}{x2:Option D}(h:TabW N n m g t)(ha:a<N)(hg:cnt g a k)(hk:0<=k)(hk2:k<1000000000)(hi:i<n)(hj:j<m):
  ∃x2' g',Yd (sMb ns a n m t x2 (some (.int i)) (some (.int j))) g=.nx (sMb ns a n m t x2' (some (.int i)) (some (.int j))) g'/\TabW N n m g' t/\cnt g' a (k+1)/\KeepsN N [a] g g':=by
 obtain⟨mm,m1,m2,e⟩:=YR ns a k g hg hk hk2
 have hn':(0:Int)<n:=by omega
 have hm':(0:Int)<m:=by omega
 have c1:cnt (g.set a (.lst [.int (k+1)])) a (k+1):=QA hg
 have h1:TabW N n m (g.set a (.lst [.int (k+1)])) t:=h.cnt ha
 have k1:KeepsN N [a] g (g.set a (.lst [.int (k+1)])):=(Keeps.set _ _).n (by simp)
 generalize g.set a (.lst [.int (k+1)])=g1 at e c1 h1 k1
 have s1:mAsg (gSet 2) (Ql QI (Qb (mVar 0) (Qb (mVar 1) mNil))) (sMb ns a n m t x2 (some (.int i)) (some (.int j))) g=.nx (sMb ns a n m t (some (.int mm)) (some (.int i)) (some (.int j))) g1:=by simp[sMb,e]
 have part:∀(g:G)(σ:S3)(P:Bool)(c:MT)(v:ME),σ[5]?=some (some (.ref t))->σ[6]?=some (some (.int i))->σ[7]?=some (some (.int j))->TabW N n m g t->cnt g a (k+1) ->
   (∀x r d,g[x]?=some (.lst r)->r[j]?=some d->pIx (.ref t) (.int i) g=.ok (.ref x) g->pIx (.ref x) (.int j) g=.ok d g->entOk d n m->c σ g=.ok false g\/(c σ g=.ok true g/\∃d',v σ g=.ok d' g/\entOk d' n m)) ->
   ∃g',mIf c (Z1 (mOp2 pIx (mVar 5) (mVar 6)) (mVar 7) v) QB σ g=.nx σ g'/\TabW N n m g' t/\cnt g' a (k+1)/\KeepsN N [a] g g':=by
  intro g σ P c v v5 v6 v7 h hc hd
  obtain⟨hN,ls,e1,e2,e3⟩:=id h
  have hx:ls[i]?=some (ls[i]'(by omega)):=by simp[show i<ls.length by omega]
  obtain⟨b1,b2,r,b3,b4,b5⟩:=e3 _ (UJ (show i<ls.length by omega))
  have hr:r[j]?=some (r[j]'(by omega)):=by simp[show j<r.length by omega]
  have p1:pIx (.ref t) (.int i) g=.ok (.ref (ls[i]'(by omega))) g:=Qc9 e1 (by rw[Up,hx];rfl)
  have p2:pIx (.ref (ls[i]'(by omega))) (.int j) g=.ok (r[j]'(by omega)) g:=Qc9 b3 hr
  rcases hd _ r _ b3 hr p1 p2 (b5 _ (UJ (by omega))) with hf|⟨ht,d',hv,ho⟩
  ·exact⟨g,iff' g hf rfl,h,hc,.refl⟩
  ·refine⟨g.set (ls[i]'(by omega)) (.lst (r.set j d')),ift g ht ?_,h.set b3 b2 (by simp[b4]) (λd hd=>?_),(Ug (by omega)).trans hc,(Keeps.set _ _).n (λn hn h2=>by simp at hn;omega)⟩
   ·exact Qj6 hv (by simp[v5,v6,p1]) (by simp[v7]) b3 (by omega)
   ·rcases List.mem_or_eq_of_mem_set hd with hd|rfl
    ·exact b5 d hd
    ·exact ho
 obtain⟨g2,s2,h2,c2,k2⟩:=part g1 (sMb ns a n m t (some (.int mm)) (some (.int i)) (some (.int j))) true (JZ (Qk (mOp2 pEq (mOp2 pMod (mVar 2) (mLit (.int 3))) (mLit (.int 0)))) (Qk (mOp2 QaQ (mOp2 pIx (mOp2 pIx (mVar 5) (mVar 6)) (mVar 7)) (mLit .non)))) (mOpA pTup (Qb (mOp2 pIx (mOp2 pIx (mOp2 pIx (mVar 5) (mVar 6)) (mVar 7)) (mLit (.int 0))) (Qb (mOp2 pIx (mOp2 pIx (mOp2 pIx (mVar 5) (mVar 6)) (mVar 7)) (mLit (.int 1))) (Qb (mVar 6) mNil)))) rfl rfl rfl h1 c1 (λx r d hx hr p1 p2 ho=>by
  rcases ho with rfl|⟨u,v,w,rfl,u0,u1,v0,v1,hw⟩
  ·left;by_cases h3:mm%3=0 <;> simp[sMb,h3,p1,p2,QaQ,isNon]
  ·by_cases h3:mm%3=0
   ·right;exact⟨by simp[sMb,h3,p1,p2,QaQ,isNon],.tup [.int u,.str w,.int i],by simp[sMb,p1,p2,SZ],.inr ⟨u,i,w,rfl,u0,u1,by omega,by omega,hw⟩⟩
   ·left;simp[sMb,h3])
 obtain⟨w,hw,ww⟩:=QnF (mm/300) g2
 obtain⟨g3,s3,h3,c3,k3⟩:=part g2 (sMb ns a n m t (some (.int mm)) (some (.int i)) (some (.int j))) true (JZ (Qk (mOp2 pGt (mOp2 pMod (mOp2 QN (mVar 2) (mLit (.int 3))) (mLit (.int 7))) (mLit (.int 1)))) (Qk (mOp2 pIs (mOp2 pIx (mOp2 pIx (mVar 5) (mVar 6)) (mVar 7)) (mLit .non)))) (mOpA pTup (Qb (mOp2 pMod (mOp2 QN (mVar 2) (mLit (.int 30))) (mVar 4)) (Qb (mOp2 pIx (mLit (.str "lr")) (mOp2 pMod (mOp2 QN (mVar 2) (mLit (.int 300))) (mLit (.int 2)))) (Qb (mOp2 pMod (mOp2 QN (mVar 2) (mLit (.int 600))) (mVar 3)) mNil)))) rfl rfl rfl h2 c2 (λx r d hx hr p1 p2 ho=>by
  by_cases h3:1<mm/3%7
  ·rcases ho with rfl|⟨u,v,w,rfl,_⟩
   ·right;exact⟨by simp[sMb,h3,p1,p2,pIs,isNon,Q7],.tup [.int (mm/30%m),.str w,.int (mm/600%n)],by simp[sMb,Q7,Qez hn',Qez hm',hw,SZ],.inr ⟨_,_,w,rfl,UB _ (by omega),UE _ hm',UB _ (by omega),UE _ hn',ww⟩⟩
   ·left;simp[sMb,h3,p1,p2,pIs,isNon,Q7]
  ·left;simp[sMb,h3,Q7])
 exact⟨some (.int mm),g3,Qf _ g1 s1 (Qf _ g2 s2 s3),h3,c3,(k1.trans k2).trans k3⟩
theorem QnT{N n m t a i:Nat}{ns:List Int}{g:G}{k:Int}{x2 x7:Option D}(h:TabW N n m g t)(ha:a<N)(hg:cnt g a k)(hk:0<=k)(hk2:k<900000000)(hi:i<n)(hm:m<=8):
  ∃x2' x7' g',ZF (sMb ns a n m t x2 (some (.int i)) x7) g=.nx (sMb ns a n m t x2' (some (.int i)) x7') g'/\TabW N n m g' t/\cnt g' a (k+m)/\KeepsN N [a] g g':=by
 obtain⟨σ',g',f1,h',c',k',x2',x7',rfl⟩:=Z5 (t:=gSet 7) (body:=Yd) (lo:=0) (n:=m) (σ:=sMb ns a n m t x2 (some (.int i)) x7) (g:=g)
  (λj σ g'=>TabW N n m g' t/\cnt g' a (k+j)/\KeepsN N [a] g g'/\∃x2' x7',σ=sMb ns a n m t x2' (some (.int i)) x7') ⟨h,by simpa using hg,.refl,_,_,rfl⟩ (λj σ g' hj ⟨q1,q2,q3,x2',x7',hσ⟩=>by
   subst hσ
   obtain⟨x2'',g'',e1,e2,e3,e4⟩:=Qma (ns:=ns) (x2:=x2') q1 ha q2 (by omega) (by omega) hi hj
   refine⟨sMb ns a n m t x2' (some (.int i)) (some (.int j)),_,g'',by simp[sMb,gSet],e1,e2,by rw[show k+((j+1:Nat):Int)=k+j+1 by omega];exact e3,q3.trans e4,_,_,rfl⟩)
 refine⟨x2',x7',g',?_,h',c',k'⟩
 unfold ZF
 have hrg:Qs (mVar 4) (sMb ns a n m t x2 (some (.int i)) x7) g=.ok (QX 0 m) g:=ZM (by simp[sMb]) (QaB (by omega))
 rw[Z9 hrg]
 exact f1
theorem pick{xs:List Int}{i:Int}{g:G}{n:Nat}(hx:∀x∈xs,1<=x/\x<=4)(h0:0<=i)(h1:i<xs.length)(hn:g.length=n):∃v:Nat,1<=v/\v<=4/\pIx (.ref n) (.int i) (g++[.lst (xs.map .int)])=.ok (.int v) (g++[.lst (xs.map .int)]):=by
 subst hn
 have hi:i.toNat<xs.length:=by omega
 have:=hx _ (UJ hi)
 refine⟨(xs[i.toNat]).toNat,by omega,by omega,?_⟩
 rw[Tm (by omega)]
 exact QnH (Qq _) h0 (by simp[hi])
end L3
namespace L3
open PySem
theorem QoR(ns:List Int)(a:Nat)(k:Int)(g:G)(hg:cnt g a k)(hk:0<=k)(hk2:k<800000000):
  ∃N n m t rows k' g',Ji [.fl (ns.map .int),.ref a] g=.ok (.ref t) g'/\tabOf N g' t rows/\Tb rows n m/\cnt g' a k'/\k<=k'/\k'<=k+200/\Keeps [a] g g'/\a<N:=by
 obtain⟨mm,m1,m2,e⟩:=YR ns a k g hg hk (by omega)
 have ha:=Q2 hg
 have c1:cnt (g.set a (.lst [.int (k+1)])) a (k+1):=QA hg
 have k1:Keeps [a] g (g.set a (.lst [.int (k+1)])):=.set _ _
 have l1:(g.set a (.lst [.int (k+1)])).length=g.length:=by simp
 generalize g.set a (.lst [.int (k+1)])=g1 at e c1 k1 l1
 obtain⟨v,v1,v2,e2⟩:=pick (xs:=[1,2,2,3,3,4]) (i:=mm%6) (g:=g1) (n:=g1.length) (by decide) (by omega) (by simp;omega) rfl
 have k2:Keeps [a] g1 (g1++[.lst ([1,2,2,3,3,4].map D.int)]):=.push _
 have n2:newL [.int 1,.int 2,.int 2,.int 3,.int 3,.int 4] g1=.ok (.ref g1.length) (g1++[.lst ([1,2,2,3,3,4].map D.int)]):=by simp[SZ]
 have c2:cnt (g1++[.lst ([1,2,2,3,3,4].map D.int)]) a (k+1):=Yo c1
 generalize g1++[.lst ([1,2,2,3,3,4].map D.int)]=g2 at e2 k2 n2 c2
 obtain⟨u,u1,u2,e3⟩:=pick (xs:=[2,2,3,2,4,1]) (i:=mm/6%6) (g:=g2) (n:=g2.length) (by decide) (by omega) (by simp;omega) rfl
 have k3:Keeps [a] g2 (g2++[.lst ([2,2,3,2,4,1].map D.int)]):=.push _
 have n3:newL [.int 2,.int 2,.int 3,.int 2,.int 4,.int 1] g2=.ok (.ref g2.length) (g2++[.lst ([2,2,3,2,4,1].map D.int)]):=by simp[SZ]
 have c3:cnt (g2++[.lst ([2,2,3,2,4,1].map D.int)]) a (k+1):=Yo c2
 generalize g2++[.lst ([2,2,3,2,4,1].map D.int)]=g3 at e3 k3 n3 c3
 let S:Option D->Option D->Option D->Option D->S3:=λx3 x4 x5 x6=>[some (.fl (ns.map .int)),some (.ref a),some (.int mm),x3,x4,x5,x6,none]
 obtain⟨n,m,hn0,hn,hm0,hm,s4⟩:∃n m:Nat,0<n/\n<=5/\0<m/\m<=8/\mIf (Qk (mOp2 pEq (mOp2 pMod (mOp2 QN (mVar 2) (mLit (.int 36))) (mLit (.int 13))) (mLit (.int 0)))) (mAsg (Yl [(gSet 3),(gSet 4)]) (mOpA pTup (Qb (mLit (.int 5)) (Qb (mLit (.int 8)) mNil)))) QB (S (some (.int v)) (some (.int u)) none none) g3=.nx (S (some (.int n)) (some (.int m)) none none) g3:=by
  by_cases h:mm/36%13=0
  ·refine⟨5,8,by omega,by omega,by omega,by omega,ift g3 (by simp[S,Q7,h]) (by unfold mAsg;simp[SZ,Yl,QeW,gSet,S])⟩
  ·exact⟨v,u,by omega,by omega,by omega,by omega,iff' g3 (by simp[S,Q7,h]) rfl⟩
 obtain⟨rows,g4,e4,k4,c4,t4,r1,r2,r3⟩:=Qj5 ns a (k+1) n m g3 hn0 hm0 (by omega) hm c3 (by omega) (by omega)
 have haN:a<g3.length:=Q2 c3
 have hmul:((n*m:Nat):Int)<=40:=by have:=Nat.mul_le_mul hn hm;omega
 have hmul0:(n:Int)*m=((n*m:Nat):Int):=by simp
 have hmm0:(0:Int)<=((n*m:Nat):Int):=by omega
 rw[hmul0]at c4
 generalize ((n*m:Nat):Int)=nm at c4 hmul hmm0
 obtain⟨σ',g5,f5,h5,⟨k',c5,hk'1,hk'2⟩,k5,x2',x6',x7',rfl⟩:=Z5 (t:=gSet 6) (body:=ZF) (lo:=0) (n:=n) (σ:=sMb ns a n m g3.length (some (.int mm)) none none) (g:=g4)
  (λi σ g'=>TabW g3.length n m g' g3.length/\(∃k',cnt g' a k'/\k+1+nm<=k'/\k'<=k+1+nm+8*i)/\KeepsN g3.length [a] g4 g'/\∃x2' x6' x7',σ=sMb ns a n m g3.length x2' x6' x7') ⟨Ql9 t4 r1 r2 r3,⟨_,c4,by omega,by omega⟩,.refl,_,_,_,rfl⟩ (λi σ g' hi ⟨q1,⟨k',q2,q3,q4⟩,q5,x2',x6',x7',hσ⟩=>by
   subst hσ
   obtain⟨y2,y7,g'',z1,z2,z3,z4⟩:=QnT (ns:=ns) (i:=i) (x2:=x2') (x7:=x7') q1 haN q2 (by omega) (by omega) hi hm
   exact⟨sMb ns a n m g3.length x2' (some (.int i)) x7',_,g'',by simp[sMb,gSet],z1,z2,⟨_,z3,by omega,by omega⟩,q5.trans z4,_,_,_,rfl⟩)
 obtain⟨rows',t5,w1,w2,w3⟩:=h5.back
 have kk:Keeps [a] g g5:=by
  have k34:Keeps [a] g3 g4:=k4
  have:KeepsN g3.length [a] g3 g5:=(k34.n (by simp)).trans k5
  exact((k1.trans k2).trans k3).trans this.keeps
 refine⟨g3.length,n,m,g3.length,rows',k',g5,QF rfl (?_:Jh [some (.fl (ns.map .int)),some (.ref a),none,none,none,none,none,none] g=_),t5,⟨hn0,hm0,by omega,hm,w1,w2,w3⟩,c5,by omega,by omega,kk,haN⟩
 unfold Jh
 refine Qf (S none none none none) g1 (by simp[S,e]) (Qf (S (some (.int v)) none none none) g2 ?_ (Qf (S (some (.int v)) (some (.int u)) none none) g3 ?_ (Qf _ g3 s4 (Qf (sMb ns a n m g3.length (some (.int mm)) none none) g4 ?_ (Qf (sMb ns a n m g3.length x2' x6' x7') g5 ?_ rfl)))))
 ·exact Zq (Yy (Qcv (xs:=[.int 1,.int 2,.int 2,.int 3,.int 3,.int 4]) (g1:=g1) (by simp) n2) (y:=.int (mm%6)) (g2:=g2) (by simp[S]) e2)
 ·exact Zq (Yy (Qcv (xs:=[.int 2,.int 2,.int 3,.int 2,.int 4,.int 1]) (g1:=g2) (by simp) n3) (y:=.int (mm/6%6)) (g2:=g3) (by simp[S,Q7]) e3)
 ·exact Zq (by rw[JP (ds:=[.fl (ns.map .int),.ref a,.int n,.int m]) (g':=g3) rfl];exact e4)
 ·have hrg:Qs (mVar 3) (sMb ns a n m g3.length (some (.int mm)) none none) g4=.ok (QX 0 n) g4:=ZM (by simp[sMb]) (QaB (by omega))
  rw[Z9 hrg]
  exact f5
end L3
end
namespace L3
open PySem
theorem Qfp{m:Int}:∀(N:Nat)(φ:Nat->Int),(∀i,0<=φ i/\φ i<m)->(∀i,N<=i->φ i=0)->∃s,QU m s/\(∀i,φ i=QK s i)/\s.length<=N
 |0,φ,_,hz=>⟨[],trivial,λi=>hz i (Ts _),Uh _⟩
 |N+1,φ,h,hz=>by
  obtain⟨s,h1,h2,h3⟩:=Qfp N (λi=>φ (i+1)) (λi=>h _) (λi hi=>hz _ (by omega))
  have hp:=JQ (a:=φ 0) h1
  have hl:=Qag s (φ 0) 1
  refine⟨putN s (φ 0) 1,YB h1 (h 0).1 (h 0).2,λi=>?_,by omega⟩
  cases i with
  |zero=>exact hp.1.symm
  |succ i=>rw[hp.2,<-h2]
theorem QnU{n m B:Nat}{c:Cn}(hc:CnOk n m c)(hB:∀x,c.f x≠0->c.pl-B<=x/\x<=c.pl+B):∃S,OkN n m S/\RF S c/\S.L.length<=B/\S.R.length<=B:=by
 obtain⟨L,l1,l2,l3⟩:=Qfp (m:=m) B (λi=>c.f (c.pl-1-i)) (λi=>hc.f _) (λi hi=>RM λz=>by have:=hB _ z;omega)
 obtain⟨R,r1,r2,r3⟩:=Qfp (m:=m) B (λi=>c.f (c.pl+1+i)) (λi=>hc.f _) (λi hi=>RM λz=>by have:=hB _ z;omega)
 exact⟨⟨c.st,L,c.f c.pl,R⟩,⟨hc.st,(hc.f _).1,(hc.f _).2,l1,r1⟩,⟨rfl,rfl,r2,l2⟩,l3,r3⟩
def QnV(side:Sts):Prop:=∀p,side.getLast?=some p->p.1≠0
theorem QbO(a:Sts)(p:Int×Int):(a++[p]).getLast?=some p:=by simp
theorem QoS:QnV []:=λ_ h=>by cases h
theorem Qav(a b:Sts):stsD (a++b)=stsD a++stsD b:=T3
theorem Zw(a:Sts):(stsD a).length=a.length:=Um _
theorem Qmb{s:Nat}{xs:List D}{d:D}{g:G}(h:g[s]?=some (.lst (xs++[d]))):pIx (.ref s) (.int (-1)) g=.ok d g:=by
 unfold pIx
 dsimp only
 rw[h]
 dsimp only
 unfold atD
 rw[Ux,Rg,QdJ]
 simp
theorem QiW{A B:MT}{σ:S3}{g:G}(h1:A σ g=.ok true g):JZ A B σ g=B σ g:=by
 unfold JZ;rw[h1,Res.bind_ok,Uc rfl]
theorem Qmc{A B:MT}{σ:S3}{g:G}(h1:A σ g=.ok false g):JZ A B σ g=.ok false g:=by
 unfold JZ;rw[h1,Res.bind_ok,Ud Ue]
theorem QeF{a b:MS}{σ σ':S3}{x:Xc}{g g':G}(h:a σ g=.raise x σ' g'):mSeq a b σ g=.raise x σ' g':=by unfold mSeq;rw[h]
theorem Qmd{A C:MT}{σ:S3}{g g1:G}{x y:Bool}(h1:A σ g=.ok x g)(h2:C σ g=.ok y g1)(hx:x=false):mOrT A C σ g=.ok y g1:=by
 subst hx;unfold mOrT;rw[h1,Res.bind_ok,Ud Ue,h2]
theorem Qgp{A:MT}{σ:S3}{g g1:G}{x:Bool}(h1:A σ g=.ok x g1):Jm A σ g=.ok (!x) g1:=by unfold Jm;rw[h1];rfl
noncomputable def okSt(p:Int×Int):Bool:=decide (0<=p.1/\1<=p.2)
theorem Qfq(p:Int×Int)(g:G):Q0 [stD p] g=.ok (.bl (okSt p)) g:=by
 refine QF rfl ?_
 show Y1 [some (stD p)] g=_
 unfold Y1
 have t2:Qk (mOp2 pNe (mOp1 pLen (mVar 0)) (mLit (.int 2))) [some (stD p)] g=.ok false g:=rfl
 refine Qf _ g (iff' g (QlY (g1:=g) rfl t2) rfl) (Qbs ?_)
 have a1:Ql Qz (Qb (mOp2 pIx (mVar 0) (mLit (.int 0))) mNil) [some (stD p)] g=.ok (.bl (decide (0<=p.1))) g:=rfl
 have a2:Ql Qz (Qb (mOp2 pIx (mVar 0) (mLit (.int 1))) mNil) [some (stD p)] g=.ok (.bl (decide (0<=p.2))) g:=rfl
 have a3:mOp2 pGt (mOp2 pIx (mVar 0) (mLit (.int 1))) (mLit (.int 0)) [some (stD p)] g=.ok (.bl (decide (0<p.2))) g:=rfl
 unfold mAnd
 rw[a1,Res.bind_ok]
 dsimp only
 unfold okSt
 by_cases h1:0<=p.1
 ·rw[Uz h1,Uc rfl,a2,Res.bind_ok]
  dsimp only
  by_cases h2:0<=p.2
  ·rw[Uz h2,Uc rfl,a3]
   by_cases h3:0<p.2
   ·rw[Uz h3,Uz (show 0<=p.1/\1<=p.2 by omega)]
   ·rw[Ul h3,Ul (show ¬(0<=p.1/\1<=p.2) by omega)]
  ·rw[Ul h2,Ud Ue,Ul (show ¬(0<=p.1/\1<=p.2) by omega)]
 ·rw[Ul h1,Ud Ue,Ul (show ¬(0<=p.1/\1<=p.2) by omega)]
theorem Qme(side:Sts):allB (side.map λp=>D.bl (okSt p))=some (side.all okSt):=by
 induction side with
 |nil=>rfl
 |cons p r ih =>
  show(allB (r.map λp=>D.bl (okSt p))).map (okSt p && ·)=_
  rw[ih];rfl
def Qkj(side:Sts):Prop:=∀(i:Nat)(x y:Int×Int),side[i]?=some x->side[i+1]?=some y->x.1≠y.1
def QaK(side:Sts):Prop:=side.all okSt=true/\Qkj side/\QnV side
theorem QiX{s:Nat}{side:Sts}{g:G}(hs:g[s]?=some (.lst (stsD side)))(hz:side.length<=900):
  mOrT (Jm (Qk (mOp1 Qbr (mVar 0)))) (Jm (Qk (mOp1 pAll (YH (QM (mVar 0)) 1 [] (gSet 0) Yr (Ql Q0 (Qb (mVar 0) mNil)))))) [some (.ref s),none,none] g=.ok (!(side.all okSt)) (g++[.lst (side.map λp=>D.bl (okSt p))]):=by
 have t1:Qk (mOp1 Qbr (mVar 0)) [some (.ref s),none,none] g=.ok true g:=Yu (YS (x:=.ref s) (g1:=g) rfl (by unfold Qbr tyOf;dsimp only;rw[hs];rfl))
 have hit:QM (mVar 0) [some (.ref s),none,none] g=.ok (srcL s (stsD side).length) g:=by
  unfold QM
  rw[show mVar 0 [some (.ref s),none,none] g=.ok (.ref s) g from rfl,Res.bind_ok]
  unfold J0
  dsimp only
  rw[hs]
  try rfl
 have hl:=Zw side
 obtain⟨xs,σ',g3,c1,c2,c3,_⟩:=Z6 (src:=srcL s (stsD side).length) (t:=gSet 0) (c:=Yr) (e:=Ql Q0 (Qb (mVar 0) mNil)) (n:=(stsD side).length)
  (λi σ' g4 acc=>acc=(side.take i).map (λp=>D.bl (okSt p))/\g4=g/\∃u,σ'=[u]) (λi σ' g4 acc hi hQ=>by
   obtain⟨q1,q2,u,q3⟩:=hQ
   subst q2 q3
   have hi':i<side.length:=by omega
   refine⟨stD side[i],[some (stD side[i])],g4,?_,rfl,.inl ⟨.bl (okSt side[i]),g4,rfl,?_,?_,rfl,_,rfl⟩⟩
   ·show(match g4[s]? with|some (.lst es)=>some es[i]? | _=>none)=_
    rw[hs];dsimp only;unfold stsD;rw[Up,UC hi'];rfl
   ·rw[JP (ds:=[stD side[i]]) (g':=g4) rfl];exact Qfq _ _
   ·rw[q1,UW hi',T3];rfl) (λσ g4 acc hQ=>by
   show(match g4[s]? with|some (.lst es)=>some es[(stsD side).length]? | _=>none)=_
   rw[hQ.2.1,hs];dsimp only;rw[UP (Uh _)]) ((stsD side).length+1) 0 [none] g [] (by omega) (by omega) ⟨rfl,rfl,none,rfl⟩
 rw[hl,TJ]at c2
 subst c2 c3
 have c4:=Qco (n:=1) (cap:=[]) (t:=gSet 0) (c:=Yr) (e:=Ql Q0 (Qb (mVar 0) mNil)) (σ0:=[none]) hit (Tn (QgY (show(stsD side).length<=1000 by omega))) rfl c1
 refine Qmd (Qgp t1) (Qgp (Yu (YS c4 ?_))) rfl
 unfold pAll
 dsimp only
 rw[Qq]
 dsimp only
 rw[Qme]
theorem QiY{s r:Nat}{side:Sts}{g:G}(hs:g[s]?=some (.lst (stsD side)))(hr:g[r]?=some (.lst ((stsD side).drop 1))):
    ∃src,Qbq (.ref s) (.ref r) g=.ok src g/\src.top=side.length-1 /\
    ((Qkj side/\∃y1 y2,forL src (Yl [gSet 1,gSet 2]) QT (src.top+1) 0 [some (.ref s),none,none] g=.nx [some (.ref s),y1,y2] g) \/
     (¬Qkj side/\∃σ',forL src (Yl [gSet 1,gSet 2]) QT (src.top+1) 0 [some (.ref s),none,none] g=.raise (5,none) σ' g)):=by
  have q1:=YT hs
  have q2:=YT hr
  have hl:=Zw side
  have htop:min (stsD side).length ((stsD side).drop 1).length=side.length-1:=by rw[TF,hl];omega
  unfold Qbq
  rw[q1,q2]
  refine⟨_,rfl,htop,?_⟩
  dsimp only
  rw[htop]
  have hget:∀i,i<side.length-1->∃x y,side[i]?=some x/\side[i+1]?=some y/\(stsD side)[i]?=some (stD x)/\((stsD side).drop 1)[i]?=some (stD y):=λi hi=>by
    refine⟨side[i]'(by omega),side[i+1]'(by omega),by simp,by simp,?_,?_⟩
    · unfold stsD;rw[Up,UC (by omega)];rfl
    · unfold stsD;rw[List.getElem?_drop,Up,show 1+i=i+1 by omega,UC (by omega)];rfl
  have:=Qap (src:=⟨λg i=>(match QG g (.ref s),QG g (.ref r) with
    |some (_,xs),some (_,ys)=>(match xs[i]?,ys[i]? with
      |some x,some y=>some (some (.tup [x,y]))
      |_,_=>some none)
    |_,_=>none),side.length-1⟩) (t:=Yl [gSet 1,gSet 2]) (body:=QT) (n:=side.length-1)
    (λi σ g1=>g1=g/\(∃y1 y2,σ=[some (.ref s),y1,y2])/\∀(j:Nat)(x y:Int×Int),j<i->side[j]?=some x->side[j+1]?=some y->x.1≠y.1) (λo=>¬Qkj side/\∃σ',o=.raise (5,none) σ' g) (λi σ g1 hi hQ=>by
      obtain⟨rfl,⟨y1,y2,rfl⟩,h3⟩:=hQ
      obtain⟨x,y,hx,hy,dx,dy⟩:=hget i hi
      refine⟨.tup [stD x,stD y],[some (.ref s),some (stD x),some (stD y)],?_,rfl,?_⟩
      · dsimp only;rw[q1,q2];dsimp only;rw[dx,dy]
      · have t1:Qk (mOp2 pEq (mOp2 pIx (mVar 1) (mLit (.int 0))) (mOp2 pIx (mVar 2) (mLit (.int 0)))) [some (.ref s),some (stD x),some (stD y)] g1=.ok (x.1 == y.1) g1:=rfl
        unfold QT
        by_cases hxy:x.1=y.1
        · rw[U1.mpr hxy]at t1
          have e:mIf (Qk (mOp2 pEq (mOp2 pIx (mVar 1) (mLit (.int 0))) (mOp2 pIx (mVar 2) (mLit (.int 0))))) (Yx 5 (Qb (mLit (.str "two stretches side by side have unlike signs")) mNil)) QB [some (.ref s),some (stD x),some (stD y)] g1=.raise (5,none) [some (.ref s),some (stD x),some (stD y)] g1:=ift g1 t1 rfl
          rw[e]
          exact .inr ⟨trivial,λap=>ap i x y hx hy hxy,_,rfl⟩
        · rw[Wj hxy]at t1
          refine .inl ⟨_,g1,.inl (iff' g1 t1 rfl),rfl,⟨_,_,rfl⟩,λj x' y' hj hx' hy'=>?_⟩
          by_cases z:j<i
          · exact h3 j x' y' z hx' hy'
          · have:j=i:=by omega
            subst this
            rw[hx]at hx';rw[hy]at hy';cases hx';cases hy';exact hxy) (λσ g1 hQ=>by
      obtain⟨rfl,_,_⟩:=hQ
      dsimp only;rw[q1,q2];dsimp only
      rw[show((stsD side).drop 1)[side.length-1]?=none from UP (by rw[TF,hl];omega)]
      cases (stsD side)[side.length-1]? <;> rfl) (side.length-1+1) 0 [some (.ref s),none,none] g (by omega) (by omega) ⟨rfl,⟨_,_,rfl⟩,λj x y hj=>absurd hj (by omega)⟩
  rcases this with⟨σ',g',e,rfl,⟨y1,y2,rfl⟩,h⟩|⟨_,h1,σ',h2⟩
  · refine .inl ⟨λi x y hx hy=>h i x y ?_ hx hy,y1,y2,e⟩
    have:=(Uj.mp hy).1
    omega
  · exact .inr ⟨h1,σ',h2⟩
theorem QaC{s:Nat}{side:Sts}{g:G}(hs:g[s]?=some (.lst (stsD side)))(hz:side.length<=900):
  ∃g',Keeps [] g g'/\((QaK side/\ZY [.ref s] g=.ok .non g')\/(¬QaK side/\ZY [.ref s] g=.raise (5,none) g')):=by
 have t1:=QiX hs hz
 cases hA:side.all okSt with
 |false =>
  rw[hA]at t1
  refine⟨g++[.lst (side.map λp=>D.bl (okSt p))],.push _,.inr ⟨λh=>Ue (hA.symm.trans h.1),ZA (σ:=[some (.ref s),none,none]) rfl ?_⟩⟩
  show QC [some (.ref s),none,none] g=_
  unfold QC
  exact QeF (ift _ t1 rfl)
 |true =>
  rw[hA]at t1
  have k1:Keeps [] g (g++[.lst (side.map λp=>D.bl (okSt p))]):=.push _
  have hs1:=k1.at' _ _ (by simp) hs
  generalize g++[GO.lst (side.map λp=>D.bl (okSt p))]=g1 at t1 k1 hs1
  have sl:ZU (mVar 0) (Jc (mLit (.int 1))) Zi [some (.ref s),none,none] g1=.ok (.ref g1.length) (g1++[.lst ((stsD side).drop 1)]):=by
   unfold ZU
   rw[show mVar 0 [some (.ref s),none,none] g1=.ok (.ref s) g1 from rfl,Res.bind_ok,show Jc (mLit (.int 1)) [some (.ref s),none,none] g1=.ok (some 1) g1 from rfl,Res.bind_ok,show Zi [some (.ref s),none,none] g1=.ok none g1 from rfl,Res.bind_ok]
   unfold JW
   dsimp only
   rw[hs1]
   dsimp only
   rw[cut1]
  have k2:Keeps [] g1 (g1++[.lst ((stsD side).drop 1)]):=.push _
  have hs2:=k2.at' _ _ (by simp) hs1
  have hr2:(g1++[GO.lst ((stsD side).drop 1)])[g1.length]?=some (.lst ((stsD side).drop 1)):=Qq _
  generalize g1++[GO.lst ((stsD side).drop 1)]=g2 at sl k2 hs2 hr2
  obtain⟨src,e2,htop,h⟩:=QiY hs2 hr2
  have hit:Qax (mVar 0) (ZU (mVar 0) (Jc (mLit (.int 1))) Zi) [some (.ref s),none,none] g1=.ok src g2:=by
   unfold Qax
   rw[show mVar 0 [some (.ref s),none,none] g1=.ok (.ref s) g1 from rfl,Res.bind_ok,sl,Res.bind_ok,e2]
  refine⟨g2,k1.trans k2,?_⟩
  rcases h with⟨hap,y1,y2,e3⟩|⟨hap,σ',e3⟩
  ·have t4:Qk (mOp2 pGt (mOp1 pLen (mVar 0)) (mLit (.int 0))) [some (.ref s),y1,y2] g2=.ok (decide ((0:Int)<((stsD side).length:Int))) g2:=Yu (Yy (x:=.int (stsD side).length) (y:=.int 0) (g1:=g2) (g2:=g2) (YS (x:=.ref s) (g1:=g2) rfl (by unfold pLen;dsimp only;rw[hs2])) rfl rfl)
   rw[Zw]at t4
   rcases Qah side with rfl|⟨a,p,rfl⟩
   ·rw[Ul (by simp)]at t4
    refine .inl ⟨⟨rfl,hap,QoS⟩,JY (σ:=[some (.ref s),y1,y2]) rfl ?_⟩
    show QC [some (.ref s),none,none] g=_
    unfold QC
    exact Qf _ g1 (iff' g1 t1 rfl) (Qf _ g2 ((Z9 hit).trans e3) (iff' g2 (Qmc t4) rfl))
   ·rw[Uz (by simp)]at t4
    have hs':g2[s]?=some (.lst (stsD a++[stD p])):=by rw[hs2,Qav];rfl
    have t5:Qk (mOp2 pEq (mOp2 pIx (mOp2 pIx (mVar 0) (mOp1 pNeg (mLit (.int 1)))) (mLit (.int 0))) (mLit (.int 0))) [some (.ref s),y1,y2] g2=.ok (p.1 == 0) g2:=Yu (Yy (x:=.int p.1) (y:=.int 0) (g1:=g2) (g2:=g2) (Yy (x:=stD p) (y:=.int 0) (g1:=g2) (g2:=g2) (Yy (x:=.ref s) (y:=.int (-1)) (g1:=g2) (g2:=g2) rfl rfl (Qmb hs')) rfl rfl) rfl rfl)
    by_cases hp:p.1=0
    ·rw[U1.mpr hp]at t5
     refine .inr ⟨λz=>z.2.2 p (QbO a p) hp,ZA (σ:=[some (.ref s),y1,y2]) rfl ?_⟩
     show QC [some (.ref s),none,none] g=_
     unfold QC
     exact Qf _ g1 (iff' g1 t1 rfl) (Qf _ g2 ((Z9 hit).trans e3) (ift g2 (by rw[QiW t4,t5]) rfl))
    ·rw[Wj hp]at t5
     refine .inl ⟨⟨hA,hap,λx hx=>by rw[QbO]at hx;cases hx;exact hp⟩,JY (σ:=[some (.ref s),y1,y2]) rfl ?_⟩
     show QC [some (.ref s),none,none] g=_
     unfold QC
     exact Qf _ g1 (iff' g1 t1 rfl) (Qf _ g2 ((Z9 hit).trans e3) (iff' g2 (by rw[QiW t4,t5]) rfl))
  ·refine .inr ⟨λz=>hap z.2.1,ZA (σ:=σ') rfl ?_⟩
   show QC [some (.ref s),none,none] g=_
   unfold QC
   exact Qf _ g1 (iff' g1 t1 rfl) (QeF ((Z9 hit).trans e3))
theorem Qk0{m:Int}{side:Sts}(h:QU m side):QaK side:=by
 refine⟨UI.mpr λp hp=>?_,λi x y hx hy=>Qbg h hx hy,λp hp=>?_⟩
 ·have:=Qcs h hp
  exact Uz ⟨this.1,this.2.2⟩
 ·rcases Qah side with rfl|⟨a,q,rfl⟩
  ·cases hp
  ·rw[QbO]at hp
   cases hp
   exact Qct h
theorem QiZ{m:Int}:∀{side:Sts},QaK side->(∀p∈side,p.1<m)->QU m side
 |[],_,_=>trivial
 |p::r,h,hm=>by
  have hp:=Th (UI.mp h.1 p (Ur ..))
  refine⟨hp.1,hm p (Ur ..),hp.2,?_,QiZ ⟨UI.mpr λq hq=>UI.mp h.1 q (Uq _ hq),λi x y hx hy=>h.2.1 (i+1) x y (by simpa using hx) (by simpa using hy),λq hq=>h.2.2 q ?_⟩ λq hq=>hm q (Uq _ hq)⟩
  ·cases r with
   |nil=>exact λz=>h.2.2 p rfl z.symm
   |cons q r=>exact λz=>h.2.1 0 p q rfl rfl z.symm
  ·cases r with
   |nil=>cases hq
   |cons q' r=>rw[List.getLast?_cons_cons];exact hq
theorem QeG{a b:Nat}{L R:Sts}{st:Int}{g:G}(ha:g[a]?=some (.lst (stsD L)))(hb:g[b]?=some (.lst (stsD R)))(zL:L.length<=900)(zR:R.length<=900):
  ∃g',Keeps [] g g'/\(((0<=st/\QaK L/\QaK R)/\QS [.tup [.int st,.ref a,.ref b]] g=.ok .non g')\/(¬(0<=st/\QaK L/\QaK R)/\QS [.tup [.int st,.ref a,.ref b]] g=.raise (5,none) g')):=by
 have e:Qz [.int st] g=.ok (.bl (decide (0<=st))) g:=rfl
 have e3:pLen (.tup [.int st,.ref a,.ref b]) g=.ok (.int 3) g:=rfl
 have e4:Z8 .tuple (.tup [.int st,.ref a,.ref b]) g=.ok (.bl true) g:=rfl
 by_cases h0:0<=st
 ·obtain⟨g1,k1,⟨q1,e1⟩|⟨q1,e1⟩⟩:=QaC ha zL
  ·obtain⟨g2,k2,⟨q2,e2⟩|⟨q2,e2⟩⟩:=QaC (k1.at' _ _ (by simp) hb) zR
   ·exact⟨g2,k1.trans k2,.inl ⟨⟨h0,q1,q2⟩,JY (σ:=[some (.tup [.int st,.ref a,.ref b])]) rfl (by simp[QR,e,e1,e2,e3,e4,h0])⟩⟩
   ·exact⟨g2,k1.trans k2,.inr ⟨λz=>q2 z.2.2,ZA (σ:=[some (.tup [.int st,.ref a,.ref b])]) rfl (by simp[QR,e,e1,e2,e3,e4,h0])⟩⟩
  ·exact⟨g1,k1,.inr ⟨λz=>q1 z.2.1,ZA (σ:=[some (.tup [.int st,.ref a,.ref b])]) rfl (by simp[QR,e,e1,e3,e4,h0])⟩⟩
 ·exact⟨g,.refl,.inr ⟨λz=>h0 z.1,ZA (σ:=[some (.tup [.int st,.ref a,.ref b])]) rfl (by simp[QR,e,e3,e4,h0,Yx,SZ])⟩⟩
theorem Qmf(m:Int)(side:Sts):anyB (side.map λp=>D.bl (decide (m<=p.1)))=some (side.any λp=>decide (m<=p.1)):=by
 induction side with
 |nil=>rfl
 |cons p r ih =>
  show(anyB (r.map λp=>D.bl (decide (m<=p.1)))).map (decide (m<=p.1) || ·)=_
  rw[ih];rfl
theorem Qi0{s m:Nat}{side:Sts}{g:G}{d0 d1:Option D}(hs:g[s]?=some (.lst (stsD side)))(hz:side.length<=900):
  ∃g',Keeps [] g g'/\(((∀p∈side,p.1<m)/\Qt [d0,d1,some (.int m),some (.ref s)] g=.nx [d0,d1,some (.int m),some (.ref s)] g')\/(¬(∀p∈side,p.1<m)/\Qt [d0,d1,some (.int m),some (.ref s)] g=.raise (5,none) [d0,d1,some (.int m),some (.ref s)] g')):=by
 have c1:=Qcr (F:=stD) (H:=λp=>.bl (decide ((m:Int)<=p.1))) (t:=Yl [gSet 0,gSet 1]) (e:=mOp2 pGe (mVar 0) (mVar 2)) (n:=2) (cap:=[2]) (σ:=[d0,d1,some (.int m),some (.ref s)]) (a:=mVar 3) hs (by omega) rfl (λσ=>∃u v,σ=[u,v,some (.int m)]) ⟨_,_,rfl⟩ (λx hx σ' ⟨u,v,hu⟩=>by
  subst hu
  exact⟨[some (.int x.1),some (.int x.2),some (.int m)],rfl,⟨_,_,rfl⟩,by simp⟩)
 have p1:pAny (.ref g.length) (g++[.lst (side.map λp=>D.bl (decide ((m:Int)<=p.1)))])=.ok (.bl (side.any λp=>decide ((m:Int)<=p.1))) (g++[.lst (side.map λp=>D.bl (decide ((m:Int)<=p.1)))]):=by simp[pAny,Qmf]
 refine⟨g++[.lst (side.map λp=>D.bl (decide ((m:Int)<=p.1)))],.push _,?_⟩
 have t:=Yu (YS c1 p1)
 unfold Qt
 by_cases h:∀p∈side,p.1<m
 ·have e:(side.any λp=>decide ((m:Int)<=p.1))=false:=by
   rw[List.any_eq_false]
   exact λp hp=>by have:=h p hp;simp;omega
  rw[e]at t
  exact .inl ⟨h,iff' _ t rfl⟩
 ·have e:(side.any λp=>decide ((m:Int)<=p.1))=true:=by
   rw[RY]
   obtain⟨p,hp⟩:=Classical.not_forall.mp h
   obtain⟨h1,h2⟩:=Classical.not_imp.mp hp
   exact⟨p,h1,by simp;omega⟩
  rw[e]at t
  exact .inr ⟨h,ift _ t (by simp[Yx,SZ])⟩
theorem QcR{n m M:Nat}{rows:List (List D)}{g:G}{st:Int}{L R:Sts}{a b:Nat}(T:Tb rows n m)(hM:g[M]?=some (JO rows))(ha:g[a]?=some (.lst (stsD L)))(hb:g[b]?=some (.lst (stsD R)))(zL:L.length<=900)(zR:R.length<=900)(hn:¬(0<=st/\st<n/\QU m L/\QU m R)):∃g',Q1 [.ref M,.tup [.int st,.ref a,.ref b]] g=.raise (5,none) g'/\Keeps [] g g':=by
 obtain⟨g1,k1,⟨q1,e1⟩|⟨q1,e1⟩⟩:=QeG (st:=st) ha hb zL zR
 ·have hM1:=k1.at' _ _ (by simp) hM
  have e2:=Qgc hM1
  have e3:=Qgd hM1 (by rw[T.len];exact T.n0) T.row
  have s0:∀x:Option D,x=none->Zh (Ql QS (Qb (mVar 1) mNil)) [some (.ref M),some (.tup [.int st,.ref a,.ref b]),none,none] g=.nx [some (.ref M),some (.tup [.int st,.ref a,.ref b]),none,none] g1:=λx _=>by simp[e1]
  by_cases hst:st<n
  ·have s1:mIf (Qk (mOp2 pGe (mOp2 pIx (mVar 1) (mLit (.int 0))) (Ql JH (Qb (mVar 0) mNil)))) (Yx 5 (Qb (mLit (.str "the state is not the machine's")) mNil)) QB [some (.ref M),some (.tup [.int st,.ref a,.ref b]),none,none] g1=.nx [some (.ref M),some (.tup [.int st,.ref a,.ref b]),none,none] g1:=by simp[e2,T.len];intro z;omega
   have e5:QM (ZU (mVar 1) (Jc (mLit (.int 1))) Zi) [some (.ref M),some (.tup [.int st,.ref a,.ref b]),some (.int m),none] g1=.ok ⟨λ_ i=>some ([D.ref a,D.ref b]:List D)[i]?,2⟩ g1:=rfl
   have key:∀(o:Xc×S3×G),o.1=(5,none)->forL ⟨λ_ i=>some ([D.ref a,D.ref b]:List D)[i]?,2⟩ (gSet 3) Qt 3 0 [some (.ref M),some (.tup [.int st,.ref a,.ref b]),some (.int m),none] g1=.raise o.1 o.2.1 o.2.2->Q1 [.ref M,.tup [.int st,.ref a,.ref b]] g=.raise (5,none) o.2.2:=λo h5 ho=>by
    refine ZA (σ:=o.2.1) rfl ?_
    show Qx [some (.ref M),some (.tup [.int st,.ref a,.ref b]),none,none] g=_
    unfold Qx
    refine Qf _ g1 (s0 none rfl) (Qf _ g1 s1 (Qf [some (.ref M),some (.tup [.int st,.ref a,.ref b]),some (.int m),none] g1 (by simp[e3]) ?_))
    rw[Z9 e5]
    rw[<-h5]
    exact ho
   obtain⟨g2,k2,⟨q2,e6⟩|⟨q2,e6⟩⟩:=Qi0 (m:=m) (d0:=some (.ref M)) (d1:=some (.tup [.int st,.ref a,.ref b])) (k1.at' _ _ (by simp) ha) zL
   ·obtain⟨g3,k3,⟨q3,e7⟩|⟨q3,e7⟩⟩:=Qi0 (m:=m) (d0:=some (.ref M)) (d1:=some (.tup [.int st,.ref a,.ref b])) ((k1.trans k2).at' _ _ (by simp) hb) zR
    ·exact absurd ⟨q1.1,hst,QiZ q1.2.1 q2,QiZ q1.2.2 q3⟩ hn
    ·exact⟨g3,key ((5,none),_,g3) rfl (by simp[forL,gSet,e6,e7];rfl),(k1.trans k2).trans k3⟩
   ·exact⟨g2,key ((5,none),_,g2) rfl (by simp[forL,gSet,e6];rfl),k1.trans k2⟩
  ·refine⟨g1,ZA (σ:=[some (.ref M),some (.tup [.int st,.ref a,.ref b]),none,none]) rfl ?_,k1⟩
   show Qx [some (.ref M),some (.tup [.int st,.ref a,.ref b]),none,none] g=_
   unfold Qx
   refine Qf _ g1 (s0 none rfl) (QeF ?_)
   have z:(n:Int)<=st:=by omega
   simp[e2,T.len,z,Yx,SZ]
 ·refine⟨g1,ZA (σ:=[some (.ref M),some (.tup [.int st,.ref a,.ref b]),none,none]) rfl ?_,k1⟩
  show Qx [some (.ref M),some (.tup [.int st,.ref a,.ref b]),none,none] g=_
  unfold Qx
  exact QeF (by simp[e1])
noncomputable def rowD(S:RowN)(a b:Nat):D:=.tup [.int S.st,.ref a,.ref b]
noncomputable def Qcw(S:RowN)(a b:Nat)(gone done leaps:Int):D:=.tup [rowD S a b,.int gone,.int done,.int leaps]
def Qi1(n m:Nat)(g:G)(S:RowN)(a b:Nat):Prop:=StR n m g (rowD S a b) S.st S.L (putN S.R S.own 1) a b
noncomputable def tooS:Str:=Str.ofString "too long"
noncomputable def noS:Str:=Str.ofString "no stretches"
theorem Qcx{rows:List (List D)}{n m M k:Nat}{S:RowN}{steps most:Int}{g:G}{a b:Nat}(T:Tb rows n m)(hM:g[M]?=some (JO rows))(ho:OkN n m S)(h:Qi1 n m g S a b)(hz:S.L.length+S.R.length+min k steps.toNat<70000)(hk:most=k\/(k=0/\most<=0)):
  ∃g',Keeps [] g g'/\(match runN rows k S steps with
   |none=>ZQ [.ref M,rowD S a b,.int steps,.int most] g=.ok (.str tooS) g'
   |some q=>∃a' b',Qi1 n m g' q.1 a' b'/\ZQ [.ref M,rowD S a b,.int steps,.int most] g=.ok (Qcw q.1 a' b' q.2.1 q.2.2.1 q.2.2.2) g'/\g.length<=a'/\g.length<=b'/\q.1.L.length+q.1.R.length<=S.L.length+S.R.length+1+min k steps.toNat):=by
 have hp:=Qag S.R S.own 1
 obtain⟨g',k1,y⟩:=Ql4 (k:=k) (steps:=steps) T hM h (by omega) hk
 have q1:QE (putN S.R S.own 1)=S.own:=Qj7 (by omega)
 have q2:QD (putN S.R S.own 1) 1=S.R:=by
  have:=Qj8 (t:=S.own) (x:=0) ho.R (.inr rfl)
  rw[Jw ho.R]at this
  exact this
 rw[q1,q2]at y
 refine⟨g',k1,?_⟩
 have s0:mAsg (gSet 4) (mLit .non) [some (.ref M),some (rowD S a b),some (.int steps),some (.int most),none,none] g=.nx [some (.ref M),some (rowD S a b),some (.int steps),some (.int most),some .non,none] g:=rfl
 cases hr:runN rows k S steps with
 |none =>
  rw[hr]at y
  refine QF rfl (Qf _ g s0 (Qf [some (.ref M),some (rowD S a b),some (.int steps),some (.int most),some (.str tooS),none] g' ?_ rfl))
  unfold mTry
  simp[y,runH,tooS]
 |some q =>
  rw[hr]at y
  obtain⟨a',b',e1,e2,e3,e4,e5⟩:=y
  refine⟨a',b',e2,QF rfl (Qf _ g s0 (Qf [some (.ref M),some (rowD S a b),some (.int steps),some (.int most),some (Qcw q.1 a' b' q.2.1 q.2.2.1 q.2.2.2),none] g' ?_ rfl)),e4,e5,by omega⟩
  unfold mTry
  simp[e1]
  rfl
theorem Qkk{n m M:Nat}{rows:List (List D)}{g:G}{st steps most:Int}{L R:Sts}{a b:Nat}(T:Tb rows n m)(hM:g[M]?=some (JO rows))(ha:g[a]?=some (.lst (stsD L)))(hb:g[b]?=some (.lst (stsD R)))(zL:L.length<=900)(zR:R.length<=900)(hn:¬(0<=st/\st<n/\QU m L/\QU m R)):∃g',ZQ [.ref M,.tup [.int st,.ref a,.ref b],.int steps,.int most] g=.ok (.str noS) g'/\Keeps [] g g':=by
 obtain⟨g1,e1,k1⟩:=QcR T hM ha hb zL zR hn
 have s0:mAsg (gSet 4) (mLit .non) [some (.ref M),some (.tup [.int st,.ref a,.ref b]),some (.int steps),some (.int most),none,none] g=.nx [some (.ref M),some (.tup [.int st,.ref a,.ref b]),some (.int steps),some (.int most),some .non,none] g:=rfl
 have e2:YO [.ref M,.tup [.int st,.ref a,.ref b],.int steps,.int most] g=.raise (5,none) g1:=ZA (σ:=[some (.ref M),some (.tup [.int st,.ref a,.ref b]),some (.int steps),some (.int most),none,none,none]) rfl (by
  show YN [some (.ref M),some (.tup [.int st,.ref a,.ref b]),some (.int steps),some (.int most),none,none,none] g=_
  unfold YN
  exact QeF (by simp[e1]))
 refine⟨g1++[.exc (5,none)]++[.lst [.str "other",.str noS]],QF rfl (Qf _ g s0 (Qf [some (.ref M),some (.tup [.int st,.ref a,.ref b]),some (.int steps),some (.int most),some (.str noS),none] (g1++[.exc (5,none)]++[.lst [.str "other",.str noS]]) ?_ rfl)),(k1.trans (.push _)).trans (.push _)⟩
 unfold mTry
 have e3:Qay [0,1,5,6] [6] (.ref g1.length) (g1++[.exc (5,none)]++[.lst [.str "other",.str noS]])=.ok (.bl false) (g1++[.exc (5,none)]++[.lst [.str "other",.str noS]]):=by simp[Qay]
 have e4:pIx (.ref (g1++[GO.exc (5,none)]).length) (.int 1) (g1++[.exc (5,none)]++[.lst [.str "other",.str noS]])=.ok (.str noS) (g1++[.exc (5,none)]++[.lst [.str "other",.str noS]]):=by
  unfold pIx
  dsimp only
  rw[Qq]
  rfl
 simp[e2,runH,QkJ,mNot,Res.bind,pInt,SZ,noS]at e3 e4 ⊢
 simp[e3,e4]
def Wid(g:G)(t a m:Nat):Prop:=∃x ls r,g[t]?=some (.lst (.ref x::ls))/\g[x]?=some (.lst r)/\r.length=m/\t≠a/\x≠a
theorem Wid.mono{g g1:G}{t a m:Nat}(h:Wid g t a m)(k:Keeps [a] g g1):Wid g1 t a m:=by
 obtain⟨x,ls,r,h1,h2,h3,h4,h5⟩:=h
 exact⟨x,ls,r,k.at' _ _ (by simpa using h4) h1,k.at' _ _ (by simpa using h5) h2,h3,h4,h5⟩
theorem Wid.len{g:G}{t a m:Nat}(h:Wid g t a m):∃x,pIx (.ref t) (.int 0) g=.ok (.ref x) g/\pLen (.ref x) g=.ok (.int m) g:=by
 obtain⟨x,ls,r,h1,h2,h3,_⟩:=h
 refine⟨x,?_,by rw[Yn h2,h3]⟩
 simp[pIx,h1,atD,ixD]
structure Mks(g:G)(d m:Nat)(lo hi:Int)(B:Nat):Prop where
 ex:∃ks f,g[d]?=some (.dct ks)/\DF ks f/\ks.length<=B/\∀x,0<=f x/\f x<m/\(f x≠0->lo<=x/\x<hi)
theorem Mks.up{g:G}{d m B C:Nat}{lo hi hi':Int}(h:Mks g d m lo hi B)(h1:hi<=hi')(h2:B<=C):Mks g d m lo hi' C:=by
 obtain⟨ks,f,a1,a2,a3,a4⟩:=h.ex
 exact⟨ks,f,a1,a2,by omega,λx=>⟨(a4 x).1,(a4 x).2.1,λz=>by have:=(a4 x).2.2 z;omega⟩⟩
noncomputable def sCe(ns:List Int)(a t d:Nat)(place spot:Int)(x6 x7 x8:Option D):S3:=[some (.fl (ns.map .int)),some (.ref a),some (.ref t),some (.int place),some (.ref d),some (.int spot),x6,x7,x8]
theorem Qkl{ns:List Int}{a t d m j B:Nat}{place spot v lo:Int}{x6:Option D}{g:G}(hw:Wid g t a m)(hm:0<m)(hm8:m<=8)(hda:d≠a)(h:Mks g d m lo (spot+j) B)(hlo:lo<=spot)(hB:B<=900)(hv:0<=v):
  ∃g',Y3 (sCe ns a t d place spot x6 (some (.int v)) (some (.int j))) g=.nx (sCe ns a t d place spot x6 (some (.int v)) (some (.int j))) g'/\Mks g' d m lo (spot+(j+1:Nat)) (B+1)/\Keeps [d] g g':=by
 obtain⟨x,e1,e2⟩:=hw.len
 obtain⟨ks,f,a1,a2,a3,a4⟩:=h.ex
 have s0:0<=v/5%m:=UB _ (by omega)
 have s1:v/5%m<m:=UE _ (by omega)
 have em:pMod (.int (v/5)) (.int m) g=.ok (.int (v/5%m)) g:=Qez (by omega)
 have ef:QN (.int v) (.int 5) g=.ok (.int (v/5)) g:=Q7 (by omega) (by omega)
 unfold Y3
 by_cases z:0<v/5%m
 ·refine⟨g.set d (.dct (dPut ks (.inl (spot+j)) (.int (v/5%m)))),ift g (by simp[sCe,e1,e2,ef,em,z]) (QiM (by simp[sCe,e1,e2,ef,em]) (by simp[sCe]) (by simp[sCe]) a1 (by omega)),⟨putC ks (spot+j) (v/5%m),updF f (spot+j) (v/5%m),by
   rw[QA a1]
   unfold putC
   rw[Ud (by omega)],a2.put,by have:=Qgl ks (spot+j) (v/5%m);omega,λy=>?_⟩,.set _ _⟩
  unfold updF
  split
  ·rename_i e
   exact⟨s0,s1,λ_=>by subst e;omega⟩
  ·exact⟨(a4 y).1,(a4 y).2.1,λq=>by have:=(a4 y).2.2 q;omega⟩
 ·exact⟨g,iff' g (by simp[sCe,e1,e2,ef,em,z]) rfl,h.up (by omega) (by omega),.refl⟩
theorem Qi2{ns:List Int}{a t d m B:Nat}{place spot k lo:Int}{x6 x7 x8:Option D}{g:G}(hw:Wid g t a m)(hm:0<m)(hm8:m<=8)(hda:d≠a)(h:Mks g d m lo spot B)(hlo:lo<=spot)(hB:B<=800)(hg:cnt g a k)(hk:0<=k)(hk2:k<1000000000):
  ∃y7 y8 spot' g',Y4 (sCe ns a t d place spot x6 x7 x8) g=.nx (sCe ns a t d place spot' x6 y7 y8) g'/\Mks g' d m lo spot' (B+4)/\spot<=spot'/\spot'<=spot+6/\cnt g' a (k+1)/\Keeps [a,d] g g':=by
 obtain⟨v,v1,v2,e⟩:=YR ns a k g hg hk hk2
 have c1:cnt (g.set a (.lst [.int (k+1)])) a (k+1):=QA hg
 have k1:Keeps [a] g (g.set a (.lst [.int (k+1)])):=.set _ _
 have h1:Mks (g.set a (.lst [.int (k+1)])) d m lo spot B:=by
  obtain⟨ks,f,a1,a2⟩:=h.ex
  exact⟨ks,f,k1.at' _ _ (by simpa using hda) a1,a2⟩
 have w1:=hw.mono k1
 generalize g.set a (.lst [.int (k+1)])=g1 at e c1 k1 h1 w1
 have q0:0<=v%5:=UB _ (by omega)
 have q1:v%5<5:=UE _ (by omega)
 obtain⟨n,hn⟩:∃n:Nat,v%5=n:=⟨(v%5).toNat,by omega⟩
 obtain⟨σ',g2,f2,h2,k2,c2,w2,y8,rfl⟩:=Z5 (t:=gSet 8) (body:=Y3) (lo:=0) (n:=n) (σ:=sCe ns a t d place spot x6 (some (.int v)) x8) (g:=g1)
  (λj σ g'=>Mks g' d m lo (spot+j) (B+j)/\Keeps [d] g1 g'/\cnt g' a (k+1)/\Wid g' t a m/\∃y8,σ=sCe ns a t d place spot x6 (some (.int v)) y8) ⟨by simpa using h1,.refl,c1,w1,_,rfl⟩ (λj σ g' hj ⟨p1,p2,p3,p4,y8,hσ⟩=>by
   subst hσ
   obtain⟨g'',z1,z2,z3⟩:=Qkl (ns:=ns) (place:=place) (x6:=x6) p4 hm hm8 hda p1 hlo (by omega) v1
   refine⟨sCe ns a t d place spot x6 (some (.int v)) (some (.int j)),_,g'',by simp[sCe,gSet],z1,z2,p2.trans z3,z3.at' _ _ (by simpa using hda.symm) p3,?_,_,rfl⟩
   obtain⟨x,ls,r,b1,b2,b3,b4,b5⟩:=p4
   obtain⟨ks,f,d1,_⟩:=p1.ex
   exact⟨x,ls,r,z3.at' _ _ (by simp;rintro rfl;rw[d1]at b1;cases b1) b1,z3.at' _ _ (by simp;rintro rfl;rw[d1]at b2;cases b2) b2,b3,b4,b5⟩)
 have r0:0<=v/50%3:=UB _ (by omega)
 have r1:v/50%3<3:=UE _ (by omega)
 refine⟨some (.int v),y8,spot+v%5+v/50%3,g2,?_,h2.up (by omega) (by omega),by omega,by omega,c2,?_⟩
 ·unfold Y4
  refine Qf (sCe ns a t d place spot x6 (some (.int v)) x8) g1 (Zq (by simp[sCe,e])) (Qf (sCe ns a t d place spot x6 (some (.int v)) y8) g2 ?_ ?_)
  ·have hrg:Qs (mOp2 pMod (mVar 7) (mLit (.int 5))) (sCe ns a t d place spot x6 (some (.int v)) x8) g1=.ok (QX 0 n) g1:=ZM (by simp[sCe,hn]) (QaB (by omega))
   rw[Z9 hrg]
   exact f2
  ·simp[sCe,Q7]
 ·exact(k1.mono (by simp)).trans (k2.mono (by simp))
theorem Keeps.over2{S T:List Nat}{g g1 g2:G}(a:Keeps S g g1)(b:Keeps T g1 g2)(h:∀n∈T,n∈S\/g.length<=n):Keeps S g g2 :=
 ⟨Uv a.len b.len,λn o q e=>b.at' n o (λz=>by have:=Q2 e;rcases h n z with w|w;exact q w;omega) (a.at' n o q e)⟩
theorem Qi3(ns:List Int){a t m:Nat}{place k:Int}{g:G}(hw:Wid g t a m)(hm:0<m)(hm8:m<=8)(hg:cnt g a k)(hk:0<=k)(hk2:k<900000000):
  ∃d k' g',Qcf [.fl (ns.map .int),.ref a,.ref t,.int place] g=.ok (.ref d) g'/\Mks g' d m (place-8) (place+40) 20/\cnt g' a k'/\k<=k'/\k'<=k+10/\Keeps [a] g g'/\g.length<=d:=by
 have k0:Keeps [a] g (g++[.dct []]):=.push _
 have w0:=hw.mono k0
 have c0:cnt (g++[.dct []]) a k:=Yo hg
 have d0:(g++[GO.dct []])[g.length]?=some (.dct []):=Qq _
 have had:g.length≠a:=by have:=Q2 hg;omega
 have s0:mAsg (gSet 4) QlM [some (.fl (ns.map .int)),some (.ref a),some (.ref t),some (.int place),none,none,none,none,none] g=.nx [some (.fl (ns.map .int)),some (.ref a),some (.ref t),some (.int place),some (.ref g.length),none,none,none,none] (g++[.dct []]):=rfl
 have hgl:g.length<=g.length:=Uh _
 generalize hd:g.length=d at d0 had s0 hgl
 generalize g++[GO.dct []]=g0 at k0 w0 c0 d0 s0
 obtain⟨v,v1,v2,e1⟩:=YR ns a k g0 c0 hk (by omega)
 have c1:cnt (g0.set a (.lst [.int (k+1)])) a (k+1):=QA c0
 have k1:Keeps [a] g0 (g0.set a (.lst [.int (k+1)])):=.set _ _
 have d1:=k1.at' _ _ (by simpa using had) d0
 have w1:=w0.mono k1
 generalize g0.set a (.lst [.int (k+1)])=g1 at e1 c1 k1 d1 w1
 obtain⟨u,u1,u2,e2⟩:=YR ns a (k+1) g1 c1 (by omega) (by omega)
 have c2:cnt (g1.set a (.lst [.int (k+1+1)])) a (k+1+1):=QA c1
 have k2:Keeps [a] g1 (g1.set a (.lst [.int (k+1+1)])):=.set _ _
 have d2:=k2.at' _ _ (by simpa using had) d1
 have w2:=w1.mono k2
 generalize g1.set a (.lst [.int (k+1+1)])=g2 at e2 c2 k2 d2 w2
 have q0:0<=v%9:=UB _ (by omega)
 have q1:v%9<9:=UE _ (by omega)
 have p0:0<=u%6:=UB _ (by omega)
 have p1:u%6<6:=UE _ (by omega)
 obtain⟨n,hn⟩:∃n:Nat,u%6=n:=⟨(u%6).toNat,by omega⟩
 obtain⟨σ',g3,f3,⟨spot,h3,h4,h5,y6,y7,y8,rfl⟩,c3,k3,w3⟩:=Z5 (t:=gSet 6) (body:=Y4) (lo:=0) (n:=n) (σ:=sCe ns a t d place (place-v%9) none none none) (g:=g2)
  (λi σ g'=>(∃spot,Mks g' d m (place-8) spot (4*i)/\place-8<=spot/\spot<=place+6*i/\∃y6 y7 y8,σ=sCe ns a t d place spot y6 y7 y8)/\cnt g' a (k+2+i)/\Keeps [a,d] g2 g'/\Wid g' t a m)
  ⟨⟨place-v%9,⟨[],λ_=>0,d2,df0,Uh _,λx=>⟨TW _,by show(0:Int)<m;omega,λz=>absurd rfl z⟩⟩,by omega,by omega,_,_,_,rfl⟩,by simpa[WF]using c2,.refl,w2⟩ (λi σ g' hi ⟨⟨spot,r1,r2,r3,y6,y7,y8,hσ⟩,r4,r5,r6⟩=>by
   subst hσ
   obtain⟨z7,z8,spot',g'',z1,z2,z3,z4,z5,z6⟩:=Qi2 (ns:=ns) (place:=place) (x6:=some (.int i)) (x7:=y7) (x8:=y8) r6 hm hm8 had r1 r2 (by omega) r4 (by omega) (by omega)
   refine⟨sCe ns a t d place spot (some (.int i)) y7 y8,_,g'',by simp[sCe,gSet],z1,⟨spot',z2.up (TW _) (by omega),by omega,by omega,_,_,_,rfl⟩,by rw[show k+2+((i+1:Nat):Int)=k+2+i+1 by omega];exact z5,r5.trans z6,?_⟩
   obtain⟨x,ls,r,b1,b2,b3,b4,b5⟩:=r6
   obtain⟨ks,f,e1,_⟩:=r1.ex
   exact⟨x,ls,r,z6.at' _ _ (by simp;refine⟨b4,?_⟩;rintro rfl;rw[e1]at b1;cases b1) b1,z6.at' _ _ (by simp;refine⟨b5,?_⟩;rintro rfl;rw[e1]at b2;cases b2) b2,b3,b4,b5⟩)
 refine⟨d,k+2+n,g3,QF rfl (?_:Qce [some (.fl (ns.map .int)),some (.ref a),some (.ref t),some (.int place),none,none,none,none,none] g=_),h3.up (by omega) (by omega),c3,by omega,by omega,((k0.trans k1).trans k2).over2 k3 (by simp;omega),hgl⟩
 unfold Qce
 refine Qf _ g0 s0 (Qf (sCe ns a t d place (place-v%9) none none none) g1 ?_ (Qf (sCe ns a t d place spot y6 y7 y8) g3 ?_ ?_))
 ·exact Zq (by simp[e1])
 ·have hrg:Qs (mOp2 pMod (Ql QI (Qb (mVar 0) (Qb (mVar 1) mNil))) (mLit (.int 6))) (sCe ns a t d place (place-v%9) none none none) g1=.ok (QX 0 n) g2:=ZM (by simp[sCe,e2,hn]) (QaB (by omega))
  rw[Z9 hrg]
  exact f3
 ·simp[sCe]
theorem Qkm(ns:List Int){a t n m:Nat}{place k:Int}{rows:List (List D)}{g:G}(T:Tb rows n m)(hw:Wid g t a m)(hl:pLen (.ref t) g=.ok (.int n) g)(hl':∀g1,Keeps [a] g g1->pLen (.ref t) g1=.ok (.int n) g1)(hg:cnt g a k)(hk:0<=k)(hk2:k<800000000):
  ∃x c k' g',Qcg [.fl (ns.map .int),.ref a,.ref t,.int place] g=.ok x g'/\SL g' c x 20/\CnOk n m c/\(∀y,c.f y≠0->c.pl-40<=y/\y<=c.pl+40)/\cnt g' a k'/\k<=k'/\k'<=k+20/\Keeps [a] g g':=by
 obtain⟨v,v1,v2,e1⟩:=YR ns a k g hg hk (by omega)
 have c1:cnt (g.set a (.lst [.int (k+1)])) a (k+1):=QA hg
 have k1:Keeps [a] g (g.set a (.lst [.int (k+1)])):=.set _ _
 have w1:=hw.mono k1
 have l1:=hl' _ k1
 generalize g.set a (.lst [.int (k+1)])=g1 at e1 c1 k1 w1 l1
 obtain⟨d,k',g2,e2,⟨ks,f,d2,df,hlen,hf⟩,c2,h1,h2,k2,h3⟩:=Qi3 ns (place:=place) w1 T.m0 T.m8 c1 (by omega) (by omega)
 have n0:=T.n0
 have q0:0<=v%n:=UB _ (by omega)
 have q1:v%n<n:=UE _ (by omega)
 have em:pMod (.int v) (.int n) g1=.ok (.int (v%n)) g1:=Qez (by omega)
 refine⟨shL ⟨(v%n).toNat,place,f⟩ d,⟨(v%n).toNat,place,f⟩,k',g2,QF rfl ?_,⟨d,ks,rfl,d2,df,hlen⟩,⟨by show(v%n).toNat<n;omega,λx=>⟨(hf x).1,(hf x).2.1⟩⟩,λy hy=>by have:=(hf y).2.2 hy;show place-40<=y/\y<=place+40;omega,c2,by omega,by omega,k1.trans k2⟩
 have e3:((v%n).toNat:Int)=v%n:=by omega
 simp[Qeo,e1,l1,em,e2,SZ,shL,e3]
theorem Qkn(p:Int×Int):eqI 2 (stD p) (stD p)=some true:=by
 show eqGs (eqI 1) [.int p.1,.int p.2] [.int p.1,.int p.2]=some true
 simp[eqGs,eqI]
theorem Qfr:∀s:Sts,eqGs (eqI 2) (stsD s) (stsD s)=some true
 |[]=>rfl
 |p::r=>by
  show(match eqI 2 (stD p) (stD p),eqGs (eqI 2) (stsD r) (stsD r) with|some a,some b=>some (a && b)|_,_=>none)=some true
  rw[Qkn,Qfr r];rfl
theorem QnW{st:Int}{a b c d:Nat}{L R:Sts}{g:G}(ha:g[a]?=some (.lst (stsD L)))(hb:g[b]?=some (.lst (stsD R)))(hc:g[c]?=some (.lst (stsD L)))(hd:g[d]?=some (.lst (stsD R))):
  pNe (.tup [.int st,.ref a,.ref b]) (.tup [.int st,.ref c,.ref d]) g=.ok (.bl false) g:=by
 have e1:eqR g (.ref a) (.ref c)=some true:=by unfold eqR;dsimp only;rw[ha,hc];dsimp only;rw[Uc rfl,Qfr]
 have e2:eqR g (.ref b) (.ref d)=some true:=by unfold eqR;dsimp only;rw[hb,hd];dsimp only;rw[Uc rfl,Qfr]
 have e0:eqR g (.int st) (.int st)=some true:=by show some (st == st)=_;simp
 unfold pNe neT
 simp[eqGs,e0,e1,e2]
theorem QeH{g:G}{st:Nat}{L R:Sts}{a b c d:Nat}{x y z:Int}(ha:g[a]?=some (.lst (stsD L)))(hb:g[b]?=some (.lst (stsD R)))(hc:g[c]?=some (.lst (stsD L)))(hd:g[d]?=some (.lst (stsD R)))(hL:L.length<=900)(hR:R.length<=900):
  ∃g',Z4 6 [.tup [.tup [.int st,.ref a,.ref b],.int x,.int y,.int z],.tup [.tup [.int st,.ref c,.ref d],.int x,.int y,.int z]] g=.ok (.bl true) g'/\Keeps [] g g':=by
 refine QiH (.seq 5 _ _ false [.tup [.int st,.ref a,.ref b],.int x,.int y,.int z] [.tup [.int st,.ref c,.ref d],.int x,.int y,.int z] rfl rfl rfl (by simp) (λi u v e1 e2=>?_)) g .refl
 match i,e1,e2 with
 |0,e1,e2=>cases e1;cases e2;exact Qkd (f:=1) ha hb hc hd (by omega) (by omega)
 |1,e1,e2=>cases e1;cases e2;exact .int _ _
 |2,e1,e2=>cases e1;cases e2;exact .int _ _
 |3,e1,e2=>cases e1;cases e2;exact .int _ _
 |i+4,e1,_=>simp at e1
theorem Qk1{xs:List D}{k:Nat}(h:k<=xs.length):cutD xs none (some (k:Int))=xs.take k:=by
 have e:sIxD xs.length xs.length (some (k:Int))=k:=by
  unfold sIxD
  dsimp only
  rw[Ud (by omega)]
  omega
 show(xs.drop 0).take (sIxD xs.length xs.length (some (k:Int)) - 0)=_
 rw[e]
 simp
theorem Qko{xs:List D}{k:Nat}(h:xs.length<=k):cutD xs none (some (k:Int))=xs:=by
 have e:sIxD xs.length xs.length (some (k:Int))=xs.length:=by
  unfold sIxD
  dsimp only
  rw[Ud (by omega)]
  omega
 show(xs.drop 0).take (sIxD xs.length xs.length (some (k:Int)) - 0)=_
 rw[e]
 simp
theorem Qg4{rows:List (List D)}{n m w:Nat}{S:RowN}{c:Cn}(T:Tb rows n m)(ho:OkN n m S)(h:RF S c):
  ∃q,(∀k:Nat,cutF rows w c none<=k->runN rows k S (w:Nat)=some q)/\(∀k:Nat,k<cutF rows w c none->runN rows k S (w:Nat)=none)/\OkN n m q.1/\RF q.1 (runF rows w c).1/\q.2.1=(runF rows w c).1.pl-c.pl/\q.2.2.1=(runF rows w c).2/\q.2.2.2=(cutF rows w c none:Nat):=by
 obtain⟨q,hq⟩:=Qda T w S w ho (by omega)
 have h1:=Qf9 T w w S c q ho h hq
 obtain⟨h2,h3,h4⟩:=Qaq T w w S c q ho h hq
 refine⟨q,λk hk=>(QdF T w S w q k ho hq).1 (by omega),λk hk=>(QdF T w S w q k ho hq).2 (by omega),(Qf8 T w S w q ho (by omega) hq).1,h2,h3,h4,h1⟩
theorem QcS{n i:Nat}{ds:List D}{x:D}{g:G}(h:g[n]?=some (.lst ds))(hx:ds[i]?=some x):pIx (.ref n) (.int i) g=.ok x g:=by
 obtain⟨h1,h2⟩:=Uj.mp hx
 simp[pIx,h,atD,ixD,h1,h2]
theorem Qfs{rows:List (List D)}{k w:Nat}{S:RowN}{steps:Int}(h:steps=(w:Int)\/(steps<0/\w=0)):runN rows k S steps=runN rows k S (w:Nat):=by
 rcases h with rfl|⟨h1,rfl⟩
 ·rfl
 ·rw[YV (by omega),YV (by omega)]
theorem Qkp{rows:List (List D)}{c:Cn}{B J w:Nat}{g:G}{ds:List D}(h:RunL rows c B g ds J)(hJ:J=(runF rows 40 c).2)(hw:w<=40):∃ds',cutD ds none (some (((1+w:Nat):Int)))=ds'/\RunL rows c B g ds' (runF rows w c).2/\(runF rows (runF rows w c).2 c).2=(runF rows w c).2/\(runF rows (runF rows w c).2 c).1=(runF rows w c).1:=by
 have h1:=(Qa4 (rows:=rows) 40 c w).1 hw
 rw[<-hJ]at h1
 have h2:(runF rows (runF rows w c).2 c).2=(runF rows w c).2:=(Qa4 (rows:=rows) w c (runF rows w c).2).2.1 (Uh _)
 have h3:(runF rows (runF rows w c).2 c).1=(runF rows w c).1:=(Qa4 (rows:=rows) w c (runF rows w c).2).2.2 (Uh _) (Qfl w c)
 by_cases z:w<=J
 ·refine⟨ds.take (1+w),Qk1 (by rw[h.1];omega),⟨by rw[TD,h.1];omega,λi hi=>?_⟩,h2,h3⟩
  obtain⟨x,e1,e2⟩:=h.2 i (by omega)
  exact⟨x,by rw[RP (by omega)];exact e1,e2⟩
 ·refine⟨ds,Qko (by rw[h.1];omega),?_,h2,h3⟩
  have:(runF rows w c).2=J:=by omega
  rw[this];exact h
theorem Qkq{rows:List (List D)}{n m M r B J w:Nat}{c:Cn}{S:RowN}{ds:List D}{g:G}{steps:Int}(T:Tb rows n m)(hM:g[M]?=some (JO rows))(hr:g[r]?=some (.lst ds))(hR:RunL rows c B g ds J)(hJ:J=(runF rows 40 c).2)(hB:B<=20)(hc:CnOk n m c)(ho:OkN n m S)(hS:RF S c)(zL:S.L.length<=100)(zR:S.R.length<=100)(hw:w<=40)(hs:steps=(w:Int)\/(steps<0/\w=0)):∃g',Qci [.ref M,.ref r,.int steps] g=.ok (.bl true) g'/\Keeps [] g g':=by
 obtain⟨q,m1,m2,m3,m4,m5,m6,m7⟩:=Qg4 (w:=w) T ho hS
 obtain⟨ds',t1,t2,t3,t4⟩:=Qkp hR hJ hw
 have hjw:=Qfl (rows:=rows) w c
 have hcut:=QeC (rows:=rows) w c none
 rw[<-t4]at m4 m5
 rw[hcut]at m1 m2 m7
 rw[<-t3]at m6
 -- A
 have eA:ZU (mVar 1) Zi (Jc (mOp2 pAdd (mLit (.int 1)) (mOp2 QgP (mLit (.int 0)) (mVar 2)))) [some (.ref M),some (.ref r),some (.int steps),none,none,none,none,none,none,none,none,none,none] g=.ok (.ref g.length) (g++[.lst ds']):=by
  have e0:QgP (.int 0) (.int steps) g=.ok (.int w) g:=by
   unfold QgP
   dsimp only
   rcases hs with rfl|⟨h1,rfl⟩
   ·by_cases z:(0:Int)<w
    ·rw[Uc z]
    ·rw[Ud z,show(w:Int)=0 from by omega]
   ·rw[Ud (by omega)];rfl
  have e1:(1:Int)+w=((1+w:Nat):Int):=by omega
  rw[Qke]
  simp only[QkX,QiK,Ql6,QnL,QnJ,e0,QnM,TC,Tf,e1,JW,hr,t1]
 have kA:Keeps [] g (g++[.lst ds']):=.push _
 have hs3:=Qq (g:=g) (.lst ds')
 have hr1:=kA.at' _ _ (by simp) hr
 have hM1:=kA.at' _ _ (by simp) hM
 have R1:=t2.mono kA (by simp)
 have R0:=hR.mono kA (by simp)
 generalize g.length=s3 at eA hs3
 generalize g++[.lst ds']=g1 at eA kA hs3 hr1 hM1 R1 R0
 generalize hj:(runF rows w c).2=j at *
 -- B,C
 have eB:=Qkg hs3 R1 t3 (by omega)
 generalize hlp:cutF rows j c none=lp at *
 obtain⟨xj,x1,x2⟩:=R1.2 j (Uh _)
 obtain⟨x0,y1,y2⟩:=R0.2 0 (Ts _)
 obtain⟨dj,kj,rfl,dj1,dj2,dj3⟩:=x2
 obtain⟨d0,k0,rfl,d01,d02,d03⟩:=y2
 have y0:(runF rows 0 c).1=c:=rfl
 rw[y0]at d02 y1
 have eC:=QcS hs3 x1
 have e0:=QcS hr1 y1
 have hl3:=Yn hs3
 rw[R1.1]at hl3
 have hcj:=QiP T j c hc
 -- D
 obtain⟨u,v,g2,eD,hu,hv,kD⟩:=Qfo dj1 dj2 (by omega) m3 m4 (λx=>hcj.f x)
 have e02:=QcS (kD.at' _ _ (by simp) hr1) y1
 have hl32:=Yn (kD.at' _ _ (by simp) hs3)
 rw[R1.1]at hl32
 have hM2:=kD.at' _ _ (by simp) hM1
 have d02':=kD.at' _ _ (by simp) d01
 -- E
 obtain⟨a0,b0,g3,eE,ha0,hb0,kE⟩:=Qfo d02' d02 (by omega) ho hS (λx=>hc.f x)
 -- F
 have kF:Keeps [] g3 (g3++[.lst (stsD S.L),.lst (stsD (putN S.R S.own 1))]):=⟨by simp,λk o _ e=>Yo e⟩
 have ha1:(g3++[GO.lst (stsD S.L),.lst (stsD (putN S.R S.own 1))])[g3.length]?=some (.lst (stsD S.L)):=gt0
 have hb1:(g3++[GO.lst (stsD S.L),.lst (stsD (putN S.R S.own 1))])[g3.length+1]?=some (.lst (stsD (putN S.R S.own 1))):=gt1
 have hpR:=Qag S.R S.own 1
 have eF:mOpA pTup (Qb (mVar 7) (Qb (mOp1 Qba (mVar 8)) (Qb (mOp1 Qba (mVar 9)) mNil))) [some (.ref M),some (.ref r),some (.int steps),some (.ref s3),some (.int lp),some (shL (runF rows j c).1 dj),some (.tup [.tup [.int q.1.st,.ref u,.ref v],.int ((runF rows j c).1.pl-c.pl),.int j,.int lp]),some (.int S.st),some (.ref a0),some (.ref b0),none,none,none] g3=.ok (rowD S g3.length (g3.length+1)) (g3++[.lst (stsD S.L),.lst (stsD (putN S.R S.own 1))]):=by
  have p1:Qba (.ref a0) g3=.ok (.ref g3.length) (g3++[.lst (stsD S.L)]):=by unfold Qba;dsimp only;rw[ha0]
  have p2:Qba (.ref b0) (g3++[.lst (stsD S.L)])=.ok (.ref (g3.length+1)) (g3++[.lst (stsD S.L),.lst (stsD (putN S.R S.own 1))]):=by
   unfold Qba
   dsimp only
   rw[Yo hb0]
   simp
  simp[p1,p2,SZ,rowD]
 have ha0':=kF.at' _ _ (by simp) ha0
 have hb0':=kF.at' _ _ (by simp) hb0
 have hu':=kF.at' _ _ (by simp) (kE.at' _ _ (by simp) hu)
 have hv':=kF.at' _ _ (by simp) (kE.at' _ _ (by simp) hv)
 have hM4:=kF.at' _ _ (by simp) (kE.at' _ _ (by simp) hM2)
 have n1:=Q2 ha0
 have n2:=Q2 hb0
 have n3:=Q2 (kE.at' _ _ (by simp) hu)
 have n4:=Q2 (kE.at' _ _ (by simp) hv)
 have n5:g3.length≠g3.length+1:=by omega
 have n6:=Q2 (kE.at' _ _ (by simp) hM2)
 have n7:∀x,x<g3.length->x≠g3.length/\x≠g3.length+1:=λx hx=>⟨by omega,by omega⟩
 have n8:=(kE.len)
 have kG3:Keeps [] g g3:=(kA.trans kD).trans kE
 have hlen3:=kG3.len
 have hlen4:(g3++[GO.lst (stsD S.L),.lst (stsD (putN S.R S.own 1))]).length=g3.length+2:=by simp
 generalize hA1:g3.length=a1 at *
 generalize hB1:a1+1=b1 at *
 generalize g3++[GO.lst (stsD S.L),.lst (stsD (putN S.R S.own 1))]=g4 at eF kF ha1 hb1 ha0' hb0' hu' hv' hM4 hlen4
 have hIn:Qi1 n m g4 S a1 b1:=⟨rfl,ha1,hb1,ho.L,YB ho.R ho.o0 ho.o1,ho.st⟩
 have hIn0:Qi1 n m g4 S a0 b0:=⟨rfl,ha0',hb0',ho.L,YB ho.R ho.o0 ho.o1,ho.st⟩
 -- G
 have hlw:lp<=40:=by have:=QiR (rows:=rows) j c none;omega
 obtain⟨g5,kG,yG⟩:=Qcx (k:=lp) (steps:=steps) (most:=lp) T hM4 ho hIn (by omega) (.inl rfl)
 rw[Qfs hs,m1 lp (Uh _)]at yG
 obtain⟨fa,fb,I5,eG,fa1,fb1,hq1⟩:=yG
 -- H
 have eH:pNe (rowD S a1 b1) (.tup [.int S.st,.ref a0,.ref b0]) g5=.ok (.bl false) g5:=QnW (kG.at' _ _ (by simp) ha1) (kG.at' _ _ (by simp) hb1) (kG.at' _ _ (by simp) ha0') (kG.at' _ _ (by simp) hb0')
 rw[m5,m6,m7,t3]at eG
 -- I
 have ha5:=kG.at' _ _ (by simp) ha1
 have hb5:=kG.at' _ _ (by simp) hb1
 have zS:(stsD S.L).length<SZ:=by unfold stsD;rw[Um];exact Qbt (by omega)
 have kI:Keeps [a1,b1] g5 ((g5.set a1 (.lst (stsD S.L++[.tup [.int 1,.int 3]]))).set b1 (.lst [])):=((Keeps.set a1 _).mono (by simp)).trans ((Keeps.set b1 _).mono (by simp))
 have eI1:∀σ:S3,σ[10]?=some (some (rowD S a1 b1))->Zh (Zv (mOp2 pIx (mVar 10) (mLit (.int 1))) (mOpA pTup (Qb (mLit (.int 1)) (Qb (mLit (.int 3)) mNil)))) σ g5=.nx σ (g5.set a1 (.lst (stsD S.L++[.tup [.int 1,.int 3]]))):=λσ h=>by
  simp[Zv,Res.bind,h,rowD,ha5,zS,show(2:Nat)<=SZ by decide]
 have hb6:(g5.set a1 (.lst (stsD S.L++[.tup [.int 1,.int 3]])))[b1]?=some (.lst (stsD (putN S.R S.own 1))):=by rw[Ug n5];exact hb5
 have eI2:∀σ:S3,σ[10]?=some (some (rowD S a1 b1))->Zh (mOp1 Qen (mOp2 pIx (mVar 10) (mLit (.int 2)))) σ (g5.set a1 (.lst (stsD S.L++[.tup [.int 1,.int 3]])))=.nx σ ((g5.set a1 (.lst (stsD S.L++[.tup [.int 1,.int 3]]))).set b1 (.lst [])):=λσ h=>by
  simp[h,rowD,Qen,hb6]
 generalize g5.set a1 (.lst (stsD S.L++[.tup [.int 1,.int 3]]))=g6 at kI eI1 eI2
 generalize g6.set b1 (.lst [])=g7 at kI eI2
 have old:∀{x:Nat}{o:GO},x<a1->g4[x]?=some o->g7[x]?=some o:=λ{x o} hx h=>kI.at' _ _ (by simp;exact n7 x hx) (kG.at' _ _ (by simp) h)
 -- J
 have i1:=kI.at' _ _ (show fa∉[a1,b1] by simp;omega) I5.a'
 have i2:=kI.at' _ _ (show fb∉[a1,b1] by simp;omega) I5.b'
 have hpq:=Qag q.1.R q.1.own 1
 obtain⟨g8,eJ,kJ⟩:=QeH (st:=q.1.st) (x:=(runF rows j c).1.pl-c.pl) (y:=j) (z:=lp) i1 i2 (old n3 hu') (old n4 hv') (by omega) (by omega)
 -- K
 have hM8:=kJ.at' _ _ (by simp) (old n6 hM4)
 have I8:Qi1 n m g8 S a0 b0:=⟨rfl,kJ.at' _ _ (by simp) (old n1 ha0'),kJ.at' _ _ (by simp) (old n2 hb0'),ho.L,YB ho.R ho.o0 ho.o1,ho.st⟩
 have hmod:0<=(lp:Int) % 3:=UB _ (by omega)
 obtain⟨g9,kK,yK⟩:=Qcx (k:=0) (steps:=steps) (most:=-1 - (lp:Int) % 3) T hM8 ho I8 (by omega) (.inr ⟨rfl,by omega⟩)
 rw[Qfs hs]at yK
 have kAll:Keeps [] g g9:=(((((kG3.trans kF).trans kG).over kI (by simp;omega)).trans kJ).trans kK)
 let dueD:D:=.tup [.tup [.int q.1.st,.ref u,.ref v],.int ((runF rows j c).1.pl-c.pl),.int j,.int lp]
 let sa:Option D->Option D->S3:=λx11 x12=>[some (.ref M),some (.ref r),some (.int steps),some (.ref s3),some (.int lp),some (shL (runF rows j c).1 dj),some dueD,some (.int S.st),some (.ref a0),some (.ref b0),some (rowD S a1 b1),x11,x12]
 have fin:∀(few:D)(R':Out),ZQ [.ref M,rowD S a0 b0,.int steps,.int (-1 - (lp:Int) % 3)] g8=.ok few g9->mSeq (mIf (Qk (mOp2 pEq (mVar 4) (mLit (.int 0)))) (mRet (Ql (Z4 6) (Qb (mVar 12) (Qb (mVar 6) mNil)))) QB) (mRet (mAnd (mOp2 pEq (mVar 12) (mLit (.str "too long"))) (mOp2 pEq (Ql ZQ (Qb (mVar 0) (Qb (mOpA pTup (Qb (mVar 7) (Qb (mVar 8) (Qb (mVar 9) mNil)))) (Qb (mVar 2) (Qb (mOp2 pSub (mVar 4) (mLit (.int 1))) mNil))))) (mLit (.str "too long"))))) (sa (some (Qcw q.1 fa fb ((runF rows j c).1.pl-c.pl) j lp)) (some few)) g9=R'->Qch [some (.ref M),some (.ref r),some (.int steps),none,none,none,none,none,none,none,none,none,none] g=R':=λfew R' hf hR=>by
  unfold Qch
  refine Qf [some (.ref M),some (.ref r),some (.int steps),some (.ref s3),none,none,none,none,none,none,none,none,none] g1 (Zq eA) ?_
  refine Qf [some (.ref M),some (.ref r),some (.int steps),some (.ref s3),some (.int lp),none,none,none,none,none,none,none,none] g1 (by simp[eB]) ?_
  refine Qf [some (.ref M),some (.ref r),some (.int steps),some (.ref s3),some (.int lp),some (shL (runF rows j c).1 dj),none,none,none,none,none,none,none] g1 (by simp[hl3,eC]) ?_
  refine Qf [some (.ref M),some (.ref r),some (.int steps),some (.ref s3),some (.int lp),some (shL (runF rows j c).1 dj),some dueD,none,none,none,none,none,none] g2 ?_ ?_
  ·refine Zq ?_
   have eD':JK [shL (runF rows j c).1 dj] g1=.ok (.tup [.int q.1.st,.ref u,.ref v]) g2:=eD
   have p1:∀h:G,pIx (shL (runF rows j c).1 dj) (.int 1) h=.ok (.int (runF rows j c).1.pl) h:=λh=>Qiy
   have p2:∀h:G,pIx (shL c d0) (.int 1) h=.ok (.int c.pl) h:=λh=>Qiy
   have e02':pIx (.ref r) (.int 0) g2=.ok (shL c d0) g2:=e02
   simp[eD',p1,p2,e02',hl32,SZ,dueD]
  refine Qf [some (.ref M),some (.ref r),some (.int steps),some (.ref s3),some (.int lp),some (shL (runF rows j c).1 dj),some dueD,some (.int S.st),some (.ref a0),some (.ref b0),none,none,none] g3 ?_ ?_
  ·have e5:Ql JK (Qb (mOp2 pIx (mVar 1) (mLit (.int 0))) mNil) [some (.ref M),some (.ref r),some (.int steps),some (.ref s3),some (.int lp),some (shL (runF rows j c).1 dj),some dueD,none,none,none,none,none,none] g2=.ok (.tup [.int S.st,.ref a0,.ref b0]) g3:=by
    have e02':pIx (.ref r) (.int 0) g2=.ok (shL c d0) g2:=e02
    simp[e02',eE]
   unfold mAsg
   rw[e5]
   rfl
  refine Qf (sa none none) g4 (Zq eF) ?_
  refine Qf (sa (some (Qcw q.1 fa fb ((runF rows j c).1.pl-c.pl) j lp)) none) g5 (Zq (by simp[sa,eG])) ?_
  refine Qf (sa (some (Qcw q.1 fa fb ((runF rows j c).1.pl-c.pl) j lp)) none) g5 (iff' g5 (by simp[sa,SZ,eH]) rfl) ?_
  refine Qf _ g6 (eI1 _ rfl) (Qf _ g7 (eI2 _ rfl) ?_)
  refine Qf (sa (some (Qcw q.1 fa fb ((runF rows j c).1.pl-c.pl) j lp)) none) g8 (iff' g8 ?_ rfl) ?_
  ·have e6:Ql (Z4 6) (Qb (mVar 11) (Qb (mVar 6) mNil)) (sa (some (Qcw q.1 fa fb ((runF rows j c).1.pl-c.pl) j lp)) none) g7=.ok (.bl true) g8:=by
    rw[JP (ds:=[Qcw q.1 fa fb ((runF rows j c).1.pl-c.pl) j lp,dueD]) (g':=g7) rfl]
    exact eJ
   rw[Qfe,Qix,e6]
   rfl
  refine Qf (sa (some (Qcw q.1 fa fb ((runF rows j c).1.pl-c.pl) j lp)) (some few)) g9 (Zq ?_) hR
  have hf':ZQ [.ref M,.tup [.int S.st,.ref a0,.ref b0],.int steps,.int (-1 - (lp:Int) % 3)] g8=.ok few g9:=hf
  simp[sa,SZ,hf']
 have i8:=old n3 hu'
 have i9:=old n4 hv'
 by_cases z:lp=0
 ·rw[m1 0 (by omega)]at yK
  obtain⟨ka,kb,I9,eK,_⟩:=yK
  rw[m5,m6,m7,t3]at eK
  obtain⟨g10,eL,kL⟩:=QeH (st:=q.1.st) (x:=(runF rows j c).1.pl-c.pl) (y:=j) (z:=lp) I9.a' I9.b' (kK.at' _ _ (by simp) (kJ.at' _ _ (by simp) i8)) (kK.at' _ _ (by simp) (kJ.at' _ _ (by simp) i9)) (by omega) (by omega)
  refine⟨g10,QF rfl (fin _ _ eK (Qae (ift g9 (by simp[sa,z]) (Qbs ?_)))),kAll.trans kL⟩
  rw[JP (ds:=[Qcw q.1 ka kb ((runF rows j c).1.pl-c.pl) j lp,dueD]) (g':=g9) rfl]
  exact eL
 ·rw[m2 0 (by omega)]at yK
  have I9:=StR.mono I8 kK
  obtain⟨g10,kL,yL⟩:=Qcx (k:=lp-1) (steps:=steps) (most:=(lp:Int) - 1) T (kK.at' _ _ (by simp) hM8) ho I9 (by omega) (.inl (by omega))
  rw[Qfs hs,m2 (lp-1) (by omega)]at yL
  refine⟨g10,QF rfl (fin _ _ yK (Qf (sa (some (Qcw q.1 fa fb ((runF rows j c).1.pl-c.pl) j lp)) (some (.str tooS))) g9 (iff' g9 (by simp[sa,z]) rfl) (Qbs ?_))),kAll.trans kL⟩
  have yL':ZQ [.ref M,.tup [.int S.st,.ref a0,.ref b0],.int steps,.int ((lp:Int) - 1)] g9=.ok (.str tooS) g10:=yL
  have es:∀h:G,pEq (.str tooS) (.str "too long") h=.ok (.bl true) h:=λh=>by
   show Res.ok (D.bl (tooS == tooS)) h=_
   simp
  simp[sa,es,yL',SZ]
theorem Jy{a b:Nat}{xs ys:List D}{g:G}(h1:g[a]?=some (.lst xs))(h2:g[b]?=some (.lst ys))(hz:xs.length+ys.length<=90000):pAdd (.ref a) (.ref b) g=.ok (.ref g.length) (g++[.lst (xs++ys)]):=by
 unfold pAdd
 dsimp only
 rw[h1,h2]
 dsimp only
 rw[Uc (Tn (Qbt (by omega)))]
def Qi4(g:G)(d:D)(g':G):Prop:=∃(st:Int)(a b:Nat)(L R:Sts),d=.tup [.int st,.ref a,.ref b]/\Keeps [] g g'/\g'[a]?=some (.lst (stsD L))/\g'[b]?=some (.lst (stsD R))/\L.length<=900/\R.length<=900/\¬(0<=st/\QaK L/\QaK R)
theorem Qi5{side:Sts}{c:Int}:¬QaK (side++[(0,c)]):=λh=>h.2.2 (0,c) (QbO _ _) rfl
theorem Qk2{u v:Sts}{p:Int×Int}(h:okSt p=false):¬QaK (u++[p]++v):=λz=>by
 have:=UI.mp z.1 p (by simp)
 rw[h]at this;cases this
theorem Qi6{u v:Sts}{sg c k:Int}:¬QaK (u++[(sg,c),(sg,k)]++v):=λz=>by
 refine z.2.1 u.length (sg,c) (sg,k) ?_ ?_ rfl
 ·simp
 ·simp
theorem QeI{q w c a b:Nat}{v:ME}{σ:S3}{st:Int}{g g0 g1:G}{L R S:Sts}(hw:w=0\/w=1)(h2:σ[2]?=some (some (.int st)))(h5:σ[5]?=some (some (.ref q)))(h6:σ[6]?=some (some (.int w)))(hv:v σ g0=.ok (.ref c) g1)(hq:g1[q]?=some (.lst [.ref a,.ref b]))(k1:Keeps [] g g1)(hq0:g.length<=q)(hc:g1[c]?=some (.lst (stsD S)))(ha:g[a]?=some (.lst (stsD L)))(hb:g[b]?=some (.lst (stsD R)))(hL:L.length<=900)(hR:R.length<=900)(hS:S.length<=900)(hn:¬QaK S)(hcq:c≠q):
  ∃d g',mSeq (Z1 (mVar 5) (mVar 6) v) (mRet (mOpA pTup (Qb (mVar 2) (Qb (mOp2 pIx (mVar 5) (mLit (.int 0))) (Qb (mOp2 pIx (mVar 5) (mLit (.int 1))) mNil))))) σ g0=.rt d g'/\Qi4 g d g':=by
 have hal:=Q2 ha
 have hbl:=Q2 hb
 have kq:∀o,Keeps [q] g1 (g1.set q o):=λo=>.set _ _
 have hl:=Q2 hq
 have kk:∀o,Keeps [] g (g1.set q o):=λo=>k1.over2 (kq o) (by simp;omega)
 have hc2:∀o,(g1.set q o)[c]?=some (.lst (stsD S)):=λo=>(kq o).at' _ _ (by simpa using hcq) hc
 have i0:∀x y:D,pIx (.ref q) (.int 0) (g1.set q (.lst [x,y]))=.ok x (g1.set q (.lst [x,y])):=λx y=>QcS (i:=0) (QA hq) rfl
 have i1:∀x y:D,pIx (.ref q) (.int 1) (g1.set q (.lst [x,y]))=.ok y (g1.set q (.lst [x,y])):=λx y=>QcS (i:=1) (QA hq) rfl
 rcases hw with rfl|rfl
 ·refine⟨.tup [.int st,.ref c,.ref b],g1.set q (.lst [.ref c,.ref b]),?_,st,c,b,S,R,rfl,kk _,hc2 _,(kk _).at' _ _ (by simp) hb,hS,hR,λz=>hn z.2.1⟩
  refine Qf σ (g1.set q (.lst [.ref c,.ref b])) ?_ ?_
  ·unfold Z1
   simp[hv,h5,h6,hq,ixD]
  ·simp[h2,h5,i0,i1,SZ]
 ·refine⟨.tup [.int st,.ref a,.ref c],g1.set q (.lst [.ref a,.ref c]),?_,st,a,c,L,S,rfl,kk _,(kk _).at' _ _ (by simp) ha,hc2 _,hL,hS,λz=>hn z.2.2⟩
  refine Qf σ (g1.set q (.lst [.ref a,.ref c])) ?_ ?_
  ·unfold Z1
   simp[hv,h5,h6,hq,ixD]
  ·simp[h2,h5,i0,i1,SZ]
noncomputable def midS(so:Nat)(sg ct x:Int):Sts:=match so with
 |0=>[(sg,-x)]
 |1=>[(sg,ct),(sg,1)]
 |_=>[(-1-x,ct)]
theorem Qmg{so:Nat}{sg ct x:Int}{u v:Sts}(h0:0<=x):¬QaK (u++midS so sg ct x++v):=by
 unfold midS
 split
 ·exact Qk2 (by unfold okSt;exact Ul (by dsimp only;omega))
 ·exact Qi6
 ·exact Qk2 (by unfold okSt;exact Ul (by dsimp only;omega))
theorem Qmh{σ:S3}{v sg ct:Int}{g:G}{so:Nat}(hso:so=0\/so=1\/so=4)(h0:σ[0]?=some (some (.int v)))(h10:σ[10]?=some (some (.int sg)))(h11:σ[11]?=some (some (.int ct))):
  ∃p k g',mOpA newL (Qb (mOpA newL (Qb (mOpA pTup (Qb (mVar 10) (Qb (mOp1 pNeg (mOp2 pMod (mOp2 QN (mVar 0) (mLit (.int 100))) (mLit (.int 3)))) mNil))) mNil)) (Qb (mOpA newL (Qb (mOpA pTup (Qb (mVar 10) (Qb (mVar 11) mNil))) (Qb (mOpA pTup (Qb (mVar 10) (Qb (mLit (.int 1)) mNil))) mNil))) (Qb (mOpA newL mNil) (Qb (mOpA newL mNil) (Qb (mOpA newL (Qb (mOpA pTup (Qb (mOp2 pSub (mOp1 pNeg (mLit (.int 1))) (mOp2 pMod (mOp2 QN (mVar 0) (mLit (.int 100))) (mLit (.int 3)))) (Qb (mVar 11) mNil))) mNil)) mNil))))) σ g=.ok (.ref p) g'/\Keeps [] g g'/\pIx (.ref p) (.int so) g'=.ok (.ref k) g'/\g'[k]?=some (.lst (stsD (midS so sg ct (v/100%3))))/\(∀h:G,Keeps [] g' h->pIx (.ref p) (.int so) h=.ok (.ref k) h):=by
 let ls:List GO:=[.lst [.tup [.int sg,.int (-(v/100%3))]],.lst [.tup [.int sg,.int ct],.tup [.int sg,.int 1]],.lst [],.lst [],.lst [.tup [.int (-1-v/100%3),.int ct]],.lst [.ref g.length,.ref (g.length+1),.ref (g.length+2),.ref (g.length+3),.ref (g.length+4)]]
 have e6:(g++ls)[g.length+5]?=some (.lst [.ref g.length,.ref (g.length+1),.ref (g.length+2),.ref (g.length+3),.ref (g.length+4)]):=by simp[ls]
 have kk:Keeps [] g (g++ls):=⟨by simp,λk o _ e=>Yo e⟩
 have hk:([D.ref g.length,.ref (g.length+1),.ref (g.length+2),.ref (g.length+3),.ref (g.length+4)]:List D)[so]?=some (.ref (g.length+so)):=by rcases hso with rfl|rfl|rfl <;> rfl
 refine⟨g.length+5,g.length+so,g++ls,?_,kk,QcS e6 hk,?_,λh kh=>QcS (kh.at' _ _ (by simp) e6) hk⟩
 ·simp[h0,h10,h11,Q7,SZ,ls]
 ·rcases hso with rfl|rfl|rfl <;> simp[ls,midS,stsD,stD]
theorem Qkr{xs:List D}{k:Nat}(h:k<=xs.length):cutD xs (some (k:Int)) none=xs.drop k:=by
 have e:sIxD xs.length 0 (some (k:Int))=k:=by
  unfold sIxD
  dsimp only
  rw[Ud (by omega)]
  omega
 show(xs.drop (sIxD xs.length 0 (some (k:Int)))).take (xs.length-sIxD xs.length 0 (some (k:Int)))=_
 rw[e]
 exact Rb (by simp)
theorem splice_eq{r p k n so:Nat}{row mid:Sts}{σ:S3}{g:G}(h7:σ[7]?=some (some (.ref r)))(h8:σ[8]?=some (some (.int so)))(h9:σ[9]?=some (some (.int n)))(h12:σ[12]?=some (some (.ref p)))(hr:g[r]?=some (.lst (stsD row)))(hp:∀h:G,Keeps [] g h->pIx (.ref p) (.int so) h=.ok (.ref k) h)(hk:g[k]?=some (.lst (stsD mid)))(hn:n<row.length)(hz:row.length<=600)(hm:mid.length<=2):
  ∃c g',mOp2 pAdd (mOp2 pAdd (ZU (mVar 7) Zi (Jc (mVar 9))) (mOp2 pIx (mVar 12) (mVar 8))) (ZU (mVar 7) (Jc (mOp2 pAdd (mVar 9) (mLit (.int 1)))) Zi) σ g=.ok (.ref c) g'/\Keeps [] g g'/\g.length<=c/\g'[c]?=some (.lst (stsD (row.take n++mid++row.drop (n+1)))):=by
 have hl:=Zw row
 have s1:JW (.ref r) none (some (n:Int)) g=.ok (.ref g.length) (g++[.lst (stsD (row.take n))]):=by
  unfold JW
  dsimp only
  rw[hr]
  dsimp only
  rw[Qk1 (by omega)]
  unfold stsD
  rw[List.map_take]
 have k1:Keeps [] g (g++[.lst (stsD (row.take n))]):=.push _
 have p1:=Qq (g:=g) (.lst (stsD (row.take n)))
 have q1:=hp _ k1
 generalize hg1:g++[.lst (stsD (row.take n))]=g1 at s1 k1 p1 q1
 have a1:=Jy p1 (k1.at' _ _ (by simp) hk) (by rw[Zw,Zw,TD];omega)
 rw[<-Qav]at a1
 have k2:Keeps [] g1 (g1++[.lst (stsD (row.take n++mid))]):=.push _
 have p2:=Qq (g:=g1) (.lst (stsD (row.take n++mid)))
 generalize hg2:g1++[.lst (stsD (row.take n++mid))]=g2 at a1 k2 p2
 have s2:JW (.ref r) (some ((n:Int)+1)) none g2=.ok (.ref g2.length) (g2++[.lst (stsD (row.drop (n+1)))]):=by
  unfold JW
  dsimp only
  rw[(k1.trans k2).at' _ _ (by simp) hr]
  dsimp only
  rw[show(n:Int)+1=((n+1:Nat):Int) by omega,Qkr (by omega)]
  unfold stsD
  rw[List.map_drop]
 have k3:Keeps [] g2 (g2++[.lst (stsD (row.drop (n+1)))]):=.push _
 have p3:=Qq (g:=g2) (.lst (stsD (row.drop (n+1))))
 generalize hg3:g2++[.lst (stsD (row.drop (n+1)))]=g3 at s2 k3 p3
 have a2:=Jy (k3.at' _ _ (by simp) p2) p3 (by rw[Zw,Zw,Ux,TD,TF];omega)
 rw[<-Qav]at a2
 refine⟨g3.length,_,?_,(k1.trans (k2.trans k3)).trans (.push _),(k1.trans (k2.trans k3)).len,Qq _⟩
 simp[h7,h8,h9,h12,s1,q1,a1,s2,a2]
theorem Qi7{v st:Int}{a b:Nat}{L R:Sts}{g:G}(hv:0<=v)(ha:g[a]?=some (.lst (stsD L)))(hb:g[b]?=some (.lst (stsD R)))(hL:L.length<=600)(hR:R.length<=600):
  ∃d g',Ju [.int v,.tup [.int st,.ref a,.ref b]] g=.ok d g'/\Qi4 g d g':=by
 obtain⟨w,ew,hw⟩:∃w:Nat,v%2=w/\(w=0\/w=1):=⟨(v%2).toNat,by omega,by omega⟩
 obtain⟨so,eso,hso⟩:∃so:Nat,v/2%5=so/\so<5:=⟨(v/2%5).toNat,by omega,by omega⟩
 have k1:Keeps [] g (g++[.lst [.ref a,.ref b]]):=.push _
 have hq:=Qq (g:=g) (.lst [.ref a,.ref b])
 obtain⟨r,row,hr,hix,hz⟩:∃(r:Nat)(row:Sts),(g++[GO.lst [.ref a,.ref b]])[r]?=some (.lst (stsD row))/\pIx (.ref g.length) (.int w) (g++[GO.lst [.ref a,.ref b]])=.ok (.ref r) (g++[GO.lst [.ref a,.ref b]])/\row.length<=600:=by
  rcases hw with rfl|rfl
  ·exact⟨a,L,k1.at' _ _ (by simp) ha,QcS (i:=0) hq rfl,hL⟩
  ·exact⟨b,R,k1.at' _ _ (by simp) hb,QcS (i:=1) hq rfl,hR⟩
 have e5:newL [.ref a,.ref b] g=.ok (.ref g.length) (g++[.lst [.ref a,.ref b]]):=by simp[SZ]
 generalize hqq:g.length=q at hq hix e5
 generalize g++[GO.lst [.ref a,.ref b]]=g1 at k1 hq hr hix e5
 let sp:Option D->Option D->Option D->Option D->S3:=λx9 x10 x11 x12=>[some (.int v),some (.tup [.int st,.ref a,.ref b]),some (.int st),some (.ref a),some (.ref b),some (.ref q),some (.int w),some (.ref r),some (.int so),x9,x10,x11,x12]
 have pre:∀(X:MS)(d:D)(g':G),X (sp none none none none) g1=.rt d g'->mSeq (mAsg (Yl [(gSet 2),(gSet 3),(gSet 4)]) (mVar 1)) (mSeq (mAsg (gSet 5) (mOpA newL (Qb (mVar 3) (Qb (mVar 4) mNil)))) (mSeq (mAsg (gSet 6) (mOp2 pMod (mVar 0) (mLit (.int 2)))) (mSeq (mAsg (gSet 7) (mOp2 pIx (mVar 5) (mVar 6))) (mSeq (mAsg (gSet 8) (mOp2 pMod (mOp2 QN (mVar 0) (mLit (.int 2))) (mLit (.int 5)))) X)))) [some (.int v),some (.tup [.int st,.ref a,.ref b]),none,none,none,none,none,none,none,none,none,none,none] g=.rt d g':=λX d g' hX=>by
  refine Qf [some (.int v),some (.tup [.int st,.ref a,.ref b]),some (.int st),some (.ref a),some (.ref b),none,none,none,none,none,none,none,none] g rfl ?_
  refine Qf [some (.int v),some (.tup [.int st,.ref a,.ref b]),some (.int st),some (.ref a),some (.ref b),some (.ref q),none,none,none,none,none,none,none] g1 (Zq (Qcv (by simp) e5)) ?_
  refine Qf [some (.int v),some (.tup [.int st,.ref a,.ref b]),some (.int st),some (.ref a),some (.ref b),some (.ref q),some (.int w),none,none,none,none,none,none] g1 (by simp[ew]) ?_
  refine Qf [some (.int v),some (.tup [.int st,.ref a,.ref b]),some (.int st),some (.ref a),some (.ref b),some (.ref q),some (.int w),some (.ref r),none,none,none,none,none] g1 (by simp[hix]) ?_
  exact Qf (sp none none none none) g1 (by simp[eso,Q7,sp]) hX
 by_cases h3:so=3
 ·subst h3
  refine⟨.tup [.int (-1-v/10%9),.ref a,.ref b],g1,QF rfl (pre _ _ _ (Qae (ift g1 (by simp[sp]) ?_))),_,a,b,L,R,rfl,k1,k1.at' _ _ (by simp) ha,k1.at' _ _ (by simp) hb,by omega,by omega,λz=>by have:=z.1;omega⟩
  simp[sp,Q7,SZ]
 ·have t3:Qk (mOp2 pEq (mVar 8) (mLit (.int 3))) (sp none none none none) g1=.ok false g1:=by simp[sp];omega
  have blank:∀g2,Keeps [] g1 g2->mOrT (Qk (mOp2 pEq (mVar 8) (mLit (.int 2)))) (Qk (mOp2 pEq (mVar 7) (mOpA newL mNil))) (sp none none none none) g1=.ok true g2->∃d g',Ju [.int v,.tup [.int st,.ref a,.ref b]] g=.ok d g'/\Qi4 g d g':=λg2 k2 t=>by
   have k3:Keeps [] g2 (g2++[.lst [.tup [.int 0,.int (1+v/10%5)]]]):=.push _
   have p3:=Qq (g:=g2) (.lst [.tup [.int 0,.int (1+v/10%5)]])
   have e3:newL [.tup [.int 0,.int (1+v/10%5)]] g2=.ok (.ref g2.length) (g2++[.lst [.tup [.int 0,.int (1+v/10%5)]]]):=by simp[SZ]
   generalize g2.length=n2 at p3 e3
   generalize g2++[.lst [.tup [.int 0,.int (1+v/10%5)]]]=g3 at k3 p3 e3
   have a1:=Jy ((k2.trans k3).at' _ _ (by simp) hr) p3 (by rw[Zw];simp;omega)
   have k4:Keeps [] g3 (g3++[.lst (stsD row++[.tup [.int 0,.int (1+v/10%5)]])]):=.push _
   have ev:mOp2 pAdd (mVar 7) (mOpA newL (Qb (mOpA pTup (Qb (mLit (.int 0)) (Qb (mOp2 pAdd (mLit (.int 1)) (mOp2 pMod (mOp2 QN (mVar 0) (mLit (.int 10))) (mLit (.int 5)))) mNil))) mNil)) (sp none none none none) g2=.ok (.ref g3.length) (g3++[.lst (stsD row++[.tup [.int 0,.int (1+v/10%5)]])]):=Yy (x:=.ref r) (y:=.ref n2) (g1:=g2) (g2:=g3) rfl (Qcv (xs:=[.tup [.int 0,.int (1+v/10%5)]]) (g1:=g2) (by simp[sp,Q7,SZ]) e3) a1
   have hq3:=Q2 ((k2.trans k3).at' _ _ (by simp) hq)
   obtain⟨d,g',s1,s2⟩:=QeI (g:=g) (L:=L) (R:=R) (S:=row++[(0,1+v/10%5)]) hw (σ:=sp none none none none) rfl rfl rfl ev ((k2.trans (k3.trans k4)).at' _ _ (by simp) hq) (k1.trans (k2.trans (k3.trans k4))) (by omega) (by rw[Qq,Qav];rfl) ha hb (by omega) (by omega) (by simp;omega) Qi5 (by omega)
   exact⟨d,g',QF rfl (pre _ _ _ (Qf _ g1 (iff' g1 t3 rfl) (Qae (ift g2 t s1)))),s2⟩
  by_cases h2:so=2
  ·exact blank g1 .refl (by simp[sp,h2])
  ·have k2:Keeps [] g1 (g1++[.lst []]):=.push _
   have hr2:=k2.at' _ _ (by simp) hr
   have p2:=Qq (g:=g1) (.lst [])
   have te:pEq (.ref r) (.ref g1.length) (g1++[.lst []])=.ok (.bl row.isEmpty) (g1++[.lst []]):=by
    unfold pEq eqT
    dsimp only
    rw[hr2,p2]
    cases row with
    |nil=>rfl
    |cons x y=>simp[stsD]
   have t:mOrT (Qk (mOp2 pEq (mVar 8) (mLit (.int 2)))) (Qk (mOp2 pEq (mVar 7) (mOpA newL mNil))) (sp none none none none) g1=.ok row.isEmpty (g1++[.lst []]):=by
    have z:((so:Int) == 2)=false:=Wj (by omega)
    simp[sp,z,te]
   by_cases he:row=[]
   ·exact blank (g1++[.lst []]) k2 (by rw[t,he];rfl)
   ·have hne:row.isEmpty=false:=by cases row with|nil=>exact absurd rfl he|cons _ _=>rfl
    rw[hne]at t
    have hpos:0<row.length:=by cases row with|nil=>exact absurd rfl he|cons _ _=>simp
    generalize g1++[GO.lst []]=g2 at k2 hr2 t
    obtain⟨n,en,hn⟩:∃n:Nat,v/10 % (row.length:Int)=n/\n<row.length:=by
     have:=UB (v/10) (show(row.length:Int)≠0 by omega)
     have:=UE (v/10) (show(0:Int)<row.length by omega)
     exact⟨(v/10 % (row.length:Int)).toNat,by omega,by omega⟩
    have hl2:=Yn hr2
    rw[Zw]at hl2
    have em:pMod (.int (v/10)) (.int row.length) g2=.ok (.int n) g2:=by rw[Qez (by omega),en]
    have ex:pIx (.ref r) (.int n) g2=.ok (stD row[n]) g2:=QcS hr2 (by unfold stsD;rw[Up,UC hn];rfl)
    have hso':so=0\/so=1\/so=4:=by omega
    obtain⟨p,k,g3,e3,k3,_,p3,q3⟩:=Qmh (σ:=sp (some (.int n)) (some (.int row[n].1)) (some (.int row[n].2)) none) (v:=v) (sg:=row[n].1) (ct:=row[n].2) (g:=g2) hso' rfl rfl rfl
    have hmid:(midS so row[n].1 row[n].2 (v/100%3)).length<=2:=by rcases hso' with rfl|rfl|rfl <;> simp[midS]
    obtain⟨c,g4,e4,k4,c4,p4⟩:=splice_eq (σ:=sp (some (.int n)) (some (.int row[n].1)) (some (.int row[n].2)) (some (.ref p))) rfl rfl rfl rfl (k3.at' _ _ (by simp) hr2) q3 p3 hn hz hmid
    have hq3:=Q2 (k3.at' _ _ (by simp) (k2.at' _ _ (by simp) hq))
    obtain⟨d,g',s1,s2⟩:=QeI (g:=g) (L:=L) (R:=R) hw (σ:=sp (some (.int n)) (some (.int row[n].1)) (some (.int row[n].2)) (some (.ref p))) rfl rfl rfl e4 ((k2.trans (k3.trans k4)).at' _ _ (by simp) hq) (k1.trans (k2.trans (k3.trans k4))) (by omega) p4 ha hb (by omega) (by omega) (by simp;omega) (Qmg (UB _ (by omega))) (by omega)
    refine⟨d,g',QF rfl (pre _ _ _ (Qf _ g1 (iff' g1 t3 rfl) (Qf _ g2 (iff' g2 t rfl) (Qf (sp (some (.int n)) none none none) g2 ?_ (Qf (sp (some (.int n)) (some (.int row[n].1)) (some (.int row[n].2)) none) g2 ?_ (Qf _ g3 (Zq e3) s1)))))),s2⟩
    ·simp[sp,hl2,Q7,em]
    ·have ex':mOp2 pIx (mVar 7) (mVar 9) (sp (some (.int n)) none none none) g2=.ok (stD row[n]) g2:=by simp[sp,ex]
     unfold mAsg
     rw[ex']
     rfl
def Odd(n m:Nat)(g:G)(d:D)(g':G):Prop:=∃(st:Int)(a b:Nat)(L R:Sts),d=.tup [.int st,.ref a,.ref b]/\Keeps [] g g'/\g'[a]?=some (.lst (stsD L))/\g'[b]?=some (.lst (stsD R))/\L.length<=900/\R.length<=900/\¬(0<=st/\st<n/\QU m L/\QU m R)
theorem Qgq{m:Nat}{u w:Sts}{s c:Int}(h:(m:Int)<=s):¬QU m (u++[(s,c)]++w):=λz=>by
 have:=(Qcs z (p:=(s,c)) (by simp)).2.1
 dsimp only at this
 omega
theorem Qg5{n m t at' M a b:Nat}{st:Int}{v:Int}{L R:Sts}{g:G}(hw:Wid g t at' m)(hl:pLen (.ref t) g=.ok (.int n) g)(hv:0<=v)(ha:g[a]?=some (.lst (stsD L)))(hb:g[b]?=some (.lst (stsD R)))(zL:L.length<=600)(zR:R.length<=600):
  ∃d g',QaI [.ref M,.ref t,.tup [.int st,.ref a,.ref b],.int v] g=.ok d g'/\Odd n m g d g':=by
 obtain⟨x,w1,w2⟩:=hw.len
 let sg:Option D->S3:=λx7=>[some (.ref M),some (.ref t),some (.tup [.int st,.ref a,.ref b]),some (.int v),some (.int st),some (.ref a),some (.ref b),x7]
 have s0:mAsg (Yl [(gSet 4),(gSet 5),(gSet 6)]) (mVar 2) [some (.ref M),some (.ref t),some (.tup [.int st,.ref a,.ref b]),some (.int v),none,none,none,none] g=.nx (sg none) g:=rfl
 have m0:0<=v/3%3:=UB _ (by omega)
 by_cases h0:v%3=0
 ·refine⟨.tup [.int (n+v/3%3),.ref a,.ref b],g,QF rfl (Qf _ g s0 (Qae (ift g (by simp[sg,h0]) ?_))),_,a,b,L,R,rfl,.refl,ha,hb,by omega,by omega,λz=>by have:=z.2.1;omega⟩
  simp[sg,hl,Q7,SZ]
 have t0:mIf (Qk (mOp2 pEq (mOp2 pMod (mVar 3) (mLit (.int 3))) (mLit (.int 0)))) (mRet (mOpA pTup (Qb (mOp2 pAdd (mOp1 pLen (mVar 1)) (mOp2 pMod (mOp2 QN (mVar 3) (mLit (.int 3))) (mLit (.int 3)))) (Qb (mVar 5) (Qb (mVar 6) mNil))))) QB (sg none) g=.nx (sg none) g:=iff' g (by simp[sg];omega) rfl
 by_cases h1:v%3=1
 ·obtain⟨d,g',e,st',a',b',L',R',e1,e2,e3,e4,e5,e6,e7⟩:=Qi7 (v:=v/3) (st:=st) (by omega) ha hb zL zR
  refine⟨d,g',QF rfl (Qf _ g s0 (Qf _ g t0 (Qae (ift g (by simp[sg,h1]) (Qbs ?_))))),st',a',b',L',R',e1,e2,e3,e4,e5,e6,λz=>e7 ⟨z.1,Qk0 z.2.2.1,Qk0 z.2.2.2⟩⟩
  simp[sg,Q7,e]
 have t1:mIf (Qk (mOp2 pEq (mOp2 pMod (mVar 3) (mLit (.int 3))) (mLit (.int 1)))) (mRet (Ql Ju (Qb (mOp2 QN (mVar 3) (mLit (.int 3))) (Qb (mVar 2) mNil)))) QB (sg none) g=.nx (sg none) g:=iff' g (by simp[sg];omega) rfl
 let p:Int×Int:=(m+v/3%3,1+v/9%4)
 have k1:Keeps [] g (g++[.lst (stsD [p])]):=.push _
 have q1:=Qq (g:=g) (.lst (stsD [p]))
 have e1:newL (stsD [p]) g=.ok (.ref g.length) (g++[.lst (stsD [p])]):=by simp[SZ,stsD]
 have s1:mAsg (gSet 7) (mOpA newL (Qb (mOpA pTup (Qb (mOp2 pAdd (mOp1 pLen (mOp2 pIx (mVar 1) (mLit (.int 0)))) (mOp2 pMod (mOp2 QN (mVar 3) (mLit (.int 3))) (mLit (.int 3)))) (Qb (mOp2 pAdd (mLit (.int 1)) (mOp2 pMod (mOp2 QN (mVar 3) (mLit (.int 9))) (mLit (.int 4)))) mNil))) mNil)) (sg none) g=.nx (sg (some (.ref g.length))) (g++[.lst (stsD [p])]):=Zq (Qcv (xs:=stsD [p]) (g1:=g) (by simp[sg,w1,w2,Q7,SZ,stsD,stD,p]) e1)
 have ha1:=k1.at' _ _ (by simp) ha
 have hb1:=k1.at' _ _ (by simp) hb
 generalize g.length=o at q1 s1
 generalize g++[.lst (stsD [p])]=g1 at k1 q1 s1 ha1 hb1
 by_cases h2:v/36%2=0
 ·have ad:=Jy q1 ha1 (by rw[Zw,Zw];simp;omega)
  rw[<-Qav]at ad
  refine⟨.tup [.int st,.ref g1.length,.ref b],g1++[.lst (stsD ([p]++L))],QF rfl (Qf _ g s0 (Qf _ g t0 (Qf _ g t1 (Qf _ g1 s1 (Qae (ift g1 (by simp[sg,h2,Q7]) ?_)))))),st,_,b,[p]++L,R,rfl,k1.trans (.push _),Qq _,Yo hb1,by simp;omega,by omega,λz=>Qgq (u:=[]) (s:=p.1) (c:=p.2) (by show(m:Int)<=m+v/3%3;omega) z.2.2.1⟩
  simp[sg,ad,SZ]
 ·have ad:=Jy hb1 q1 (by rw[Zw,Zw];simp;omega)
  rw[<-Qav]at ad
  refine⟨.tup [.int st,.ref a,.ref g1.length],g1++[.lst (stsD (R++[p]))],QF rfl (Qf _ g s0 (Qf _ g t0 (Qf _ g t1 (Qf _ g1 s1 (Qf (sg (some (.ref o))) g1 (iff' g1 (by simp[sg,h2,Q7]) rfl) ?_))))),st,a,_,L,R++[p],rfl,k1.trans (.push _),Yo ha1,Qq _,by omega,by simp;omega,λz=>Qgq (u:=R) (w:=[]) (s:=p.1) (c:=p.2) (by show(m:Int)<=m+v/3%3;omega) (by rw[UY];exact z.2.2.2)⟩
  simp[sg,ad,SZ]
theorem Qbh{g:G}{M a:Nat}{rows:List (List D)}{k:Int}(h:g[M]?=some (JO rows))(hc:cnt g a k):M≠a:=λe=>by
 subst e
 cases h.symm.trans hc
theorem QnX{rows:List (List D)}{n m N t:Nat}{g g0:G}{σ:S3}{e:MA}(T:Tb rows n m)(ht:tabOf N g t rows)(he:e σ g0=.ok [.ref t] g):∃g',Keeps [] g g'/\Qdj 11 Zt e σ g0=.ok (.ref g.length) g'/\g'[g.length]?=some (JO rows):=by
 have n0:=T.n0;have m0:=T.m0;have n12:=T.n12;have m8:=T.m8
 have hgood:=entOk.good T.n0 T.m0 T.len T.row T.ent
 obtain⟨g2,kp2,e2,hM2⟩:=QlW (.ref t) rows g ht.rows (λr hr=>by rw[T.row r hr];exact Tn (QgY (by omega))) (by rw[T.len];exact Tn (QgY (by omega))) (λr hr d hd=>(T.ent r hr d hd).thing) e σ g0 he
 rw[Uc hgood]at e2
 exact⟨g2,kp2,e2,hM2 hgood⟩
theorem tabOf.wid{rows:List (List D)}{n m N t a:Nat}{g:G}(T:Tb rows n m)(h:tabOf N g t rows)(ha:a<N):Wid g t a m/\pLen (.ref t) g=.ok (.int n) g:=by
 obtain⟨h1,ds,h2,h3,h4⟩:=h
 have hn:=T.n0
 have hl:=T.len
 refine⟨?_,by rw[Yn h2,h3,hl]⟩
 cases ds with
 |nil=>simp at h3;omega
 |cons x ls =>
  cases rows with
  |nil=>simp at h3
  |cons r rs =>
   obtain⟨y,e,q1,q2,q3⟩:=h4 0 x r rfl rfl
   subst e
   exact⟨y,ls,r,h2,q3,T.row r (Ur ..),by omega,by omega⟩
theorem Qi8(ns:List Int){a:Nat}{k:Int}{σ:S3}{g:G}(h0:σ[0]?=some (some (.fl (ns.map .int))))(h1:σ[1]?=some (some (.ref a)))(hg:cnt g a k)(hk:0<=k)(hk2:k<900000000):
  ∃ys g2,YH (Qs (mLit (.int 3))) 1 [0,1] (gSet 0) Yr (mOp2 pMod (Ql QI (Qb (mVar 1) (Qb (mVar 2) mNil))) (mLit (.int 41))) σ g=.ok (.ref g2.length) (g2++[.lst ys])/\ys.length=3/\(∀y∈ys,∃w:Nat,w<=40/\y=.int w)/\cnt g2 a (k+3)/\Keeps [a] g g2:=by
 have hc:capt 1 [0,1] σ=[none,some (.fl (ns.map .int)),some (.ref a)]:=by simp[capt,h0,h1]
 obtain⟨ys,σ',g2,c1,c2,c3,c4,c5,_⟩:=Z6 (src:=QX 0 3) (t:=gSet 0) (c:=Yr) (e:=mOp2 pMod (Ql QI (Qb (mVar 1) (Qb (mVar 2) mNil))) (mLit (.int 41))) (n:=3)
  (λi σ' g' acc=>acc.length=i/\(∀y∈acc,∃w:Nat,w<=40/\y=.int w)/\cnt g' a (k+i)/\Keeps [a] g g'/\∃u,σ'=[u,some (.fl (ns.map .int)),some (.ref a)]) (λi σ' g' acc hi ⟨q1,q2,q3,q4,u,q5⟩=>by
   subst q5
   obtain⟨v,v1,v2,e⟩:=YR ns a (k+i) g' q3 (by omega) (by omega)
   have r0:0<=v%41:=UB _ (by omega)
   have r1:v%41<41:=UE _ (by omega)
   refine⟨.int (0+i),[some (.int (0+i)),some (.fl (ns.map .int)),some (.ref a)],g',by simp[QX,hi],rfl,.inl ⟨.int (v%41),g'.set a (.lst [.int (k+i+1)]),rfl,by simp[e],by simp[q1],?_,?_,q4.trans (.set _ _),_,rfl⟩⟩
   ·intro y hy
    rcases UX.mp hy with hy|hy
    ·exact q2 y hy
    ·rw[Uu.mp hy]
     exact⟨(v%41).toNat,by omega,by congr;omega⟩
   ·rw[show k+((i+1:Nat):Int)=k+i+1 by omega]
    exact QA q3) (λσ g acc _=>by simp[QX]) 4 0 [none,some (.fl (ns.map .int)),some (.ref a)] g [] (by omega) (by omega) ⟨rfl,by simp,by simpa using hg,.refl,_,rfl⟩
 exact⟨ys,g2,Qco (ZM (n:=3) rfl (QaB (by omega))) (by decide) hc c1,c2,c3,c4,c5⟩
noncomputable def sRd(ns:List Int)(a:Nat)(l:List (Option D)):S3:=some (.fl (ns.map .int))::some (.ref a)::l
theorem Qks{ns:List Int}{a M t N n m B:Nat}{k:Int}{c:Cn}{S:RowN}{x:D}{rows:List (List D)}{x5 x6 x7 x8 x9:Option D}{g:G}(T:Tb rows n m)(ht:tabOf N g t rows)(haN:a<N)(hM:g[M]?=some (JO rows))(hx:SL g c x B)(hB:B<=60)(hc:CnOk n m c)(ho:OkN n m S)(hS:RF S c)(zL:S.L.length<=100)(zR:S.R.length<=100)(hg:cnt g a k)(hk:0<=k)(hk2:k<900000000):
  ∃y8 y9 g',Y5 (sRd ns a [some (.ref t),some (.ref M),some x,x5,x6,x7,x8,x9]) g=.nx (sRd ns a [some (.ref t),some (.ref M),some x,x5,x6,x7,y8,y9]) g'/\cnt g' a (k+1)/\Keeps [a] g g':=by
 obtain⟨v,v1,v2,e⟩:=YR ns a k g hg hk (by omega)
 have c1:cnt (g.set a (.lst [.int (k+1)])) a (k+1):=QA hg
 have k1:Keeps [a] g (g.set a (.lst [.int (k+1)])):=.set _ _
 have hM1:=k1.at' _ _ (by simpa using Qbh hM hg) hM
 have x1:=hx.mono k1 (by simp;exact⟨_,hg⟩)
 have t1:=ht.mono k1 (by simpa using haN)
 generalize g.set a (.lst [.int (k+1)])=g1 at e c1 k1 hM1 x1 t1
 obtain⟨d,ks,rfl,d1,d2,d3⟩:=x1
 obtain⟨u,w,g2,e2,hu,hw,k2⟩:=Qfo d1 d2 (by omega) ho hS (λx=>hc.f x)
 obtain⟨wd,wl⟩:=(t1.mono k2 (by simp)).wid T haN
 have hp:=Qag S.R S.own 1
 obtain⟨od,g3,e3,st,a',b',L',R',rfl,k3,h1,h2,h3,h4,h5⟩:=Qg5 (M:=M) (st:=S.st) wd wl v1 hu hw (by omega) (by omega)
 obtain⟨g4,e4,k4⟩:=Qkk (steps:=v/50%9) (most:=0) T ((k2.trans k3).at' _ _ (by simp) hM1) h1 h2 h3 h4 h5
 refine⟨some (.int v),some (.tup [.int st,.ref a',.ref b']),g4,?_,((k2.trans k3).trans k4).at' _ _ (by simp) c1,k1.trans ((k2.trans k3).trans k4).all⟩
 unfold Y5
 refine Qf (sRd ns a [some (.ref t),some (.ref M),some (shL c d),x5,x6,x7,some (.int v),x9]) g1 (by simp[sRd,e]) (Qf (sRd ns a [some (.ref t),some (.ref M),some (shL c d),x5,x6,x7,some (.int v),some (.tup [.int st,.ref a',.ref b'])]) g3 (by simp[sRd,e2,e3]) ?_)
 have en:∀h:G,pNe (.str noS) (.str "no stretches") h=.ok (.bl false) h:=λh=>by
  show Res.ok (D.bl (!(noS == noS))) h=_
  simp
 refine iff' g4 ?_ rfl
 simp[sRd,Q7,e4,en]
theorem Qkt(ns:List Int)(a:Nat)(k:Int)(g:G)(hg:cnt g a k)(hk:0<=k)(hk2:k<700000000):∃k' g',Qck [.fl (ns.map .int),.ref a] g=.ok (.bl true) g'/\cnt g' a k'/\k<=k'/\k'<=k+1000:=by
 obtain⟨N,n,m,t,rows,k1,g1,e1,t1,T,c1,h11,h12,kp1,haN⟩:=QoR ns a k g hg hk (by omega)
 obtain⟨g2,kp2,e2,hM⟩:=QnX (σ:=sRd ns a [some (.ref t),none,none,none,none,none,none,none]) (e:=Qb (mVar 2) mNil) (g0:=g1) T t1 rfl
 have c2:=kp2.at' _ _ (by simp) c1
 have t2:=t1.mono kp2 (by simp)
 generalize g1.length=M at e2 hM
 -- the start
 obtain⟨u,u1,u2,e3⟩:=YR ns a k1 g2 c2 (by omega) (by omega)
 have c3:cnt (g2.set a (.lst [.int (k1+1)])) a (k1+1):=QA c2
 have kp3:Keeps [a] g2 (g2.set a (.lst [.int (k1+1)])):=.set _ _
 have hM3:=kp3.at' _ _ (by simpa using Qbh hM c2) hM
 have t3:=t2.mono kp3 (by simpa using haN)
 generalize g2.set a (.lst [.int (k1+1)])=g3 at e3 c3 kp3 hM3 t3
 obtain⟨wd,wl⟩:=t3.wid T haN
 obtain⟨x,c,k4,g4,e4,sl,hc,hf,c4,h41,h42,kp4⟩:=Qkm ns (place:=u%41-20) T wd wl (λg1 kk=>((t3.mono kk (by simpa using haN)).wid T haN).2) c3 (by omega) (by omega)
 have hM4:=kp4.at' _ _ (by simpa using Qbh hM3 c3) hM3
 have t4:=t3.mono kp4 (by simpa using haN)
 obtain⟨S,ho,hS,zL,zR⟩:=QnU (B:=40) hc hf
 -- the run
 obtain⟨g5,ds,e5,r5,R5,kp5⟩:=Qkf (k:=40) T hc t4.b sl (by omega)
 have c5:=kp5.at' _ _ (by simp) c4
 have hM5:=kp5.at' _ _ (by simp) hM4
 have t5:=t4.mono kp5 (by simp)
 have sl5:=sl.mono kp5 (by simp)
 generalize g4.length=r at e5 r5
 -- the numbers of steps
 obtain⟨v,v1,v2,e6⟩:=YR ns a k4 g5 c5 (by omega) (by omega)
 have c6:cnt (g5.set a (.lst [.int (k4+1)])) a (k4+1):=QA c5
 have kp6:Keeps [a] g5 (g5.set a (.lst [.int (k4+1)])):=.set _ _
 have la:∀y∈[a],∃es,g5[y]?=some (.lst es):=by simp;exact⟨_,c5⟩
 have hra:r≠a:=λz=>by
  subst z
  have z:=r5.symm.trans c5
  cases z
  have z:=R5.2 0 (Ts _)
  obtain⟨x,z,d,ks,z',_⟩:=z
  subst z'
  cases z
 have hM6:=kp6.at' _ _ (by simpa using Qbh hM5 c5) hM5
 have r6:=kp6.at' _ _ (by simpa using hra) r5
 have R6:=R5.mono kp6 la
 have sl6:=sl5.mono kp6 la
 have t6:=t5.mono kp6 (by simpa using haN)
 generalize g5.set a (.lst [.int (k4+1)])=g6 at e6 c6 kp6 hM6 r6 R6 sl6 t6
 have kp7:Keeps [] g6 (g6++[.lst [.int 40,.int (-(v%7))]]):=.push _
 have l7:=Qq (g:=g6) (.lst [.int 40,.int (-(v%7))])
 have n7:newL [.int 40,.int (-(v%7))] g6=.ok (.ref g6.length) (g6++[.lst [.int 40,.int (-(v%7))]]):=by simp[SZ]
 have hz1:g6.length≠a:=by have:=Q2 c6;omega
 generalize g6.length=z1 at l7 n7 hz1
 generalize g6++[.lst [.int 40,.int (-(v%7))]]=g7 at kp7 l7 n7
 have c7:=kp7.at' _ _ (by simp) c6
 obtain⟨ys,g8,e8,y1,y2,c8,kp8⟩:=Qi8 ns (σ:=sRd ns a [some (.ref t),some (.ref M),some x,some (.ref r),none,none,none,none]) rfl rfl c7 (by omega) (by omega)
 have kp9:Keeps [] g8 (g8++[.lst ys]):=.push _
 have l9:=Qq (g:=g8) (.lst ys)
 generalize g8.length=z2 at e8 l9
 generalize g8++[.lst ys]=g9 at e8 kp9 l9
 have l9':=kp9.at' _ _ (by simp) (kp8.at' _ _ (by simpa using hz1) l7)
 have ad:=Jy l9' l9 (by simp[y1])
 have kpa:Keeps [] g9 (g9++[.lst ([.int 40,.int (-(v%7))]++ys)]):=.push _
 have la':=Qq (g:=g9) (.lst ([.int 40,.int (-(v%7))]++ys))
 have kq:Keeps [a] g6 (g9++[.lst ([.int 40,.int (-(v%7))]++ys)]):=((kp7.all.trans kp8).trans kp9.all).trans kpa.all
 have ca:=kpa.at' _ _ (by simp) (kp9.at' _ _ (by simp) c8)
 have la6:∀y∈[a],∃es,g6[y]?=some (.lst es):=by simp;exact⟨_,c6⟩
 have hMa:=kq.at' _ _ (by simpa using Qbh hM6 c6) hM6
 have ra:=kq.at' _ _ (by simpa using hra) r6
 have Ra:=R6.mono kq la6
 have sla:=sl6.mono kq la6
 have ta:=t6.mono kq (by simpa using haN)
 generalize g9.length=z at ad la'
 generalize g9++[.lst ([.int 40,.int (-(v%7))]++ys)]=ga at ad kpa la' kq ca hMa ra Ra sla ta
 have hit:∀y∈[D.int 40,.int (-(v%7))]++ys,∃(s:Int)(w:Nat),y=.int s/\w<=40/\(s=(w:Int)\/(s<0/\w=0)):=λy hy=>by
  rcases UX.mp hy with hy|hy
  ·simp at hy
   rcases hy with rfl|rfl
   ·exact⟨40,40,rfl,by omega,.inl rfl⟩
   ·have:=UB v (show(7:Int)≠0 by omega)
    exact⟨_,0,rfl,by omega,by omega⟩
  ·obtain⟨w,h1,rfl⟩:=y2 y hy
   exact⟨w,w,rfl,h1,.inl rfl⟩
 have hlen:([D.int 40,.int (-(v%7))]++ys).length=5:=by simp[y1]
 generalize [D.int 40,.int (-(v%7))]++ys=zs at la' hit hlen ad
 obtain⟨σ',gb,f1,kb,x6,rfl⟩:=Qfb (src:=srcL z 5) (t:=gSet 6) (body:=Qad) (n:=5) (σ:=sRd ns a [some (.ref t),some (.ref M),some x,some (.ref r),none,none,none,none]) (g:=ga) rfl
  (λ_ σ g'=>Keeps [] ga g'/\∃x6,σ=sRd ns a [some (.ref t),some (.ref M),some x,some (.ref r),x6,none,none,none]) ⟨.refl,_,rfl⟩ (λi σ g' hi ⟨q1,x6,hσ⟩=>by
   subst hσ
   obtain⟨s,w,hs,hw,hsw⟩:=hit (zs[i]'(by omega)) (UJ _)
   obtain⟨g'',z1,z2⟩:=Qkq T (q1.at' _ _ (by simp) hMa) (q1.at' _ _ (by simp) ra) (Ra.mono q1 (by simp)) rfl (by omega) hc ho hS (by omega) (by omega) hw hsw
   refine⟨.int s,sRd ns a [some (.ref t),some (.ref M),some x,some (.ref r),some (.int s),none,none,none],sRd ns a [some (.ref t),some (.ref M),some x,some (.ref r),some (.int s),none,none,none],g'',?_,rfl,?_,q1.trans z2,_,rfl⟩
   ·show(match g'[z]? with|some (.lst es)=>some es[i]? | _=>none)=_
    rw[q1.at' _ _ (by simp) la']
    dsimp only
    rw[UC (by omega),hs]
   ·unfold Qad
    exact iff' g'' (by simp[sRd,z1]) rfl) (λσ g' ⟨q1,_⟩=>by
   show(match g'[z]? with|some (.lst es)=>some es[5]? | _=>none)=_
   rw[q1.at' _ _ (by simp) la']
   dsimp only
   rw[UP (by omega)])
 obtain⟨σ',gc,f2,cc,kc,y7,y8,y9,rfl⟩:=Z5 (t:=gSet 7) (body:=Y5) (lo:=0) (n:=2) (σ:=sRd ns a [some (.ref t),some (.ref M),some x,some (.ref r),x6,none,none,none]) (g:=gb)
  (λi σ g'=>cnt g' a (k4+1+3+i)/\Keeps [a] gb g'/\∃y7 y8 y9,σ=sRd ns a [some (.ref t),some (.ref M),some x,some (.ref r),x6,y7,y8,y9]) ⟨by simpa using kb.at' _ _ (by simp) ca,.refl,_,_,_,rfl⟩ (λi σ g' hi ⟨q1,q2,y7,y8,y9,hσ⟩=>by
   subst hσ
   have kk:Keeps [a] ga g':=kb.all.trans q2
   obtain⟨z8,z9,g'',s1,s2,s3⟩:=Qks (ns:=ns) (x5:=some (.ref r)) (x6:=x6) (x7:=some (.int (0+i))) (x8:=y8) (x9:=y9) T (ta.mono kk (by simpa using haN)) haN (kk.at' _ _ (by simpa using Qbh hMa ca) hMa) (sla.mono kk (by simp;exact⟨_,ca⟩)) (by omega) hc ho hS (by omega) (by omega) q1 (by omega) (by omega)
   exact⟨sRd ns a [some (.ref t),some (.ref M),some x,some (.ref r),x6,some (.int (0+i)),y8,y9],_,g'',by simp[sRd,gSet],s1,by rw[show k4+1+3+((i+1:Nat):Int)=k4+1+3+i+1 by omega];exact s2,q2.trans s3,_,_,_,rfl⟩)
 refine⟨_,gc,QF rfl (?_:Qcj (sRd ns a [none,none,none,none,none,none,none,none]) g=_),cc,by omega,by omega⟩
 unfold Qcj
 refine Qf (sRd ns a [some (.ref t),none,none,none,none,none,none,none]) g1 (by simp[sRd,e1]) ?_
 refine Qf (sRd ns a [some (.ref t),some (.ref M),none,none,none,none,none,none]) g2 (Zq e2) ?_
 refine Qf (sRd ns a [some (.ref t),some (.ref M),some x,none,none,none,none,none]) g4 (by simp[sRd,e3,e4]) ?_
 have e5':Qdx [.ref t,x,.int 40] g4=.ok (.ref r) g5:=e5
 refine Qf (sRd ns a [some (.ref t),some (.ref M),some x,some (.ref r),none,none,none,none]) g5 (by simp[sRd,e5']) ?_
 refine Qf (sRd ns a [some (.ref t),some (.ref M),some x,some (.ref r),x6,none,none,none]) gb ?_ ?_
 ·have hi:QM (mOp2 pAdd (mOpA newL (Qb (mLit (.int 40)) (Qb (mOp1 pNeg (mOp2 pMod (Ql QI (Qb (mVar 0) (Qb (mVar 1) mNil))) (mLit (.int 7)))) mNil))) (YH (Qs (mLit (.int 3))) 1 [0,1] (gSet 0) Yr (mOp2 pMod (Ql QI (Qb (mVar 1) (Qb (mVar 2) mNil))) (mLit (.int 41))))) (sRd ns a [some (.ref t),some (.ref M),some x,some (.ref r),none,none,none,none]) g5=.ok (srcL z 5) ga:=by
   have q0:Qb (mLit (.int 40)) (Qb (mOp1 pNeg (mOp2 pMod (Ql QI (Qb (mVar 0) (Qb (mVar 1) mNil))) (mLit (.int 7)))) mNil) (sRd ns a [some (.ref t),some (.ref M),some x,some (.ref r),none,none,none,none]) g5=.ok [.int 40,.int (-(v%7))] g6:=by simp[sRd,e6]
   have q:=Yy (Qcv (f:=newL) q0 n7) e8 ad
   unfold QM
   rw[q,Res.bind_ok]
   unfold J0
   dsimp only
   rw[la']
   dsimp only
   rw[hlen]
   try rfl
  rw[Z9 hi]
  exact f1
 ·refine Qf (sRd ns a [some (.ref t),some (.ref M),some x,some (.ref r),x6,y7,y8,y9]) gc ?_ rfl
  rw[Z9 (ZM (n:=2) rfl (QaB (by omega)))]
  exact f2
theorem QoT{α:Type}(xs:List α):(cutD xs none (some 63)).length<=xs.length:=by unfold cutD;simp;omega
theorem law_true(ns:List Int)(h:ns.length<=63):∃g',Qj0 [.fl (ns.map .int)] []=.ok (.bl true) g':=by
 have hlen:=QoT (ns.map D.int)
 rw[Um]at hlen
 obtain⟨z,hz⟩:∃z:Nat,1+((cutD (ns.map D.int) none (some 63)).length:Int) / 32=(z:Int):=⟨(1+((cutD (ns.map D.int) none (some 63)).length:Int) / 32).toNat,by omega⟩
 have hz2:z<=2:=by omega
 have c0:cnt ([.lst [.int 0]]++[.lst (cutD (ns.map D.int) none (some 63))]) 0 0:=rfl
 generalize hg0:([.lst [.int 0]]++[.lst (cutD (ns.map D.int) none (some 63))]:G)=g0 at c0
 obtain⟨σ',g',f1,⟨k',_⟩,x2,rfl⟩:=Z5 (t:=gSet 2) (body:=Qf2) (lo:=0) (n:=z) (σ:=[some (.fl (ns.map .int)),some (.ref 0),none]) (g:=g0)
  (λi σ g'=>(∃k',cnt g' 0 k'/\0<=k'/\k'<=1000*i)/\∃x2,σ=[some (.fl (ns.map .int)),some (.ref 0),x2]) ⟨⟨0,c0,by omega,by omega⟩,none,rfl⟩ (λi σ g' hi ⟨⟨k',q1,q2,q3⟩,x2,hσ⟩=>by
   subst hσ
   obtain⟨k2,g2,e2,c2,h1,h2⟩:=Qkt ns 0 k' g' q1 q2 (by omega)
   refine⟨[some (.fl (ns.map .int)),some (.ref 0),some (.int (0+i))],[some (.fl (ns.map .int)),some (.ref 0),some (.int (0+i))],g2,rfl,iff' g2 (QnG (Yu ?_)) rfl,⟨k2,c2,by omega,by omega⟩,_,rfl⟩
   rw[JP (ds:=[.fl (ns.map .int),.ref 0]) (g':=g') rfl];exact e2)
 refine⟨g',QF rfl (Qf [some (.fl (ns.map .int)),some (.ref 0),none] [.lst [.int 0]] rfl (Qf [some (.fl (ns.map .int)),some (.ref 0),x2] g' ?_ rfl))⟩
 have hrg:Qs (mOp2 pAdd (mLit (.int 1)) (mOp2 QN (mOp1 pLen (ZU (mVar 0) Zi (Jc (mLit (.int 63))))) (mLit (.int 32)))) [some (.fl (ns.map .int)),some (.ref 0),none] [.lst [.int 0]]=.ok (QX 0 z) g0:=by
  refine ZM ?_ (QaB (by omega))
  have e1:JW (.fl (ns.map .int)) none (some 63) [.lst [.int 0]]=.ok (.ref 1) g0:=by rw[<-hg0];rfl
  have e2:pLen (.ref 1) g0=.ok (.int (cutD (ns.map D.int) none (some 63)).length) g0:=Yn (by rw[<-hg0];rfl)
  rw[<-hz]
  simp[e1,e2,Q7]
 rw[Z9 hrg]
 exact f1
end L3
namespace V
open PySem PySem.Spec PyProof.Rows L2 L3
theorem Zn{N P:List Str}{sc:Scope}(h1:sc.kind=.function:=by rfl)(h2:sc.isCoroutine=false:=by rfl)(h3:sc.isGenerator=false:=by rfl)(h4:N.Nodup:=by decide +kernel)(h5:N.take P.length=P:=by rfl)(h6:∀x∈P,sc.names.lookup x=some .local\/sc.names.lookup x=some .cell:=by decide +kernel)(h7:∀y∈sc.names,y.2≠.free:=by decide +kernel):FnScope N P sc:=⟨h1,h2,h3,h4,h5,h6,h7⟩
noncomputable def top(i:Nat):Stmt:=PySem.Challenge.pw_tapeproof_k21_leaps_cut.main.body.getD i (.Pass ⟨0,0,0,0⟩)
noncomputable abbrev Qbi:Stmt:=top 6
abbrev Qg6:List Str:=["value"]
theorem Qft:FnScope Qg6 ["value"] (Qg Qbi):=Zn
noncomputable abbrev Qbj:Stmt:=top 7
abbrev Qg7:List Str:=["value", "many"]
theorem Qfu:FnScope Qg7 ["value", "many"] (Qg Qbj):=Zn
noncomputable abbrev Yw:Stmt:=top 8
abbrev Qbz:List Str:=["value"]
theorem Qbk:FnScope Qbz ["value"] (Qg Yw):=Zn
noncomputable abbrev Qbl:Stmt:=top 13
abbrev Qg8:List Str:=["thing", "states", "signs"]
theorem Qfv:FnScope Qg8 ["thing", "states", "signs"] (Qg Qbl):=Zn
noncomputable abbrev Y9:Stmt:=top 14
abbrev Qbu:List Str:=["rows", "states", "signs", "row"]
theorem YC:FnScope Qbu ["rows"] (Qg Y9):=Zn
noncomputable abbrev Q8:Stmt:=QbY (top 15) 0
abbrev QaD:List Str:=["self", "table", "rows"]
theorem Qai:FnScope QaD ["self", "table"] (Qg Q8):=Zn
noncomputable abbrev QaL:Stmt:=top 16
abbrev Qfw:List Str:=["machine"]
theorem QeJ:FnScope Qfw ["machine"] (Qg QaL):=Zn
noncomputable abbrev Qbm:Stmt:=top 17
abbrev Qg9:List Str:=["machine"]
theorem Qfx:FnScope Qg9 ["machine"] (Qg Qbm):=Zn
noncomputable abbrev JT:Stmt:=top 19
abbrev QdN:List Str:=["side", "sign", "count"]
theorem QcT:FnScope QdN ["side", "sign", "count"] (Qg JT):=Zn
noncomputable abbrev Qaj:Stmt:=top 20
abbrev QeK:List Str:=["thing"]
theorem QdO:FnScope QeK ["thing"] (Qg Qaj):=Zn
noncomputable abbrev Ja:Stmt:=top 21
abbrev Qbv:List Str:=["side", "stretch", "following"]
theorem JU:FnScope Qbv ["side"] (Qg Ja):=Zn
noncomputable abbrev Yf:Stmt:=top 22
abbrev Qbn:List Str:=["stretches"]
theorem Qa5:FnScope Qbn ["stretches"] (Qg Yf):=Zn
noncomputable abbrev Qmi:Stmt:=top 24
abbrev QoU:List Str:=["side", "sign", "count"]
theorem QnY:FnScope QoU ["side", "sign", "count"] (Qg Qmi):=Zn
noncomputable abbrev Qi9:Stmt:=top 25
abbrev QnZ:List Str:=["side", "count", "nearest"]
theorem Qja:FnScope QnZ ["side", "count"] (Qg Qi9):=Zn
noncomputable abbrev Jj:Stmt:=top 26
abbrev QcU:List Str:=["side"]
theorem Qcy:FnScope QcU ["side"] (Qg Jj):=Zn
noncomputable abbrev Qfy:Stmt:=top 27
abbrev Qmj:List Str:=["side", "sign", "most"]
theorem Qku:FnScope Qmj ["side", "sign", "most"] (Qg Qfy):=Zn
noncomputable abbrev Ze:Stmt:=QbY (top 28) 0
abbrev Qcz:List Str:=["self", "machine", "stretches"]
theorem QbA:FnScope Qcz ["self", "machine", "stretches"] (Qg Ze):=Zn
noncomputable abbrev QY:Stmt:=QbY (top 28) 1
abbrev QbB:List Str:=["self"]
theorem Qbo:FnScope QbB ["self"] (Qg QY):=Zn
noncomputable abbrev Zf:Stmt:=QbY (top 28) 2
abbrev QcA:List Str:=["self", "asked", "entry", "rightwards", "ahead", "behind", "steps"]
theorem QZ:FnScope QcA ["self", "asked"] (Qg Zf):=Zn
noncomputable abbrev Zu:Stmt:=QbY (top 28) 3
abbrev QcV:List Str:=["self", "right"]
theorem Qak:FnScope QcV ["self"] (Qg Zu):=Zn
noncomputable abbrev Zx:Stmt:=top 29
abbrev Jb:List Str:=["machine", "stretches", "signs", "side"]
theorem ZT:FnScope Jb ["machine", "stretches"] (Qg Zx):=Zn
noncomputable abbrev QaM:Stmt:=top 30
abbrev Qfz:List Str:=["machine", "stretches", "steps", "most", "walk", "done", "leaps"]
theorem ZZ:FnScope Qfz ["machine", "stretches", "steps", "most"] (Qg QaM):=Zn
noncomputable abbrev QdP:Stmt:=top 32
abbrev Qkv:List Str:=["_law_script", "_law_at", "_law_cell", "_law_m"]
theorem QcB:FnScope Qkv ["_law_script", "_law_at"] (Qg QdP):=Zn
noncomputable abbrev QbP:Stmt:=top 33
abbrev Qgr:List Str:=["_law_found", "_law_due"]
theorem Qjb:FnScope Qgr ["_law_found", "_law_due"] (Qg QbP):=Zn
noncomputable abbrev QcC:Stmt:=top 34
abbrev Qjc:List Str:=["_law_script", "_law_at", "_law_states", "_law_signs", "_law_table_here", "_law_k", "_law_line", "_law_j", "_law_m", "_law_entry"]
theorem Z0:FnScope Qjc ["_law_script", "_law_at", "_law_states", "_law_signs"] (Qg QcC):=Zn
noncomputable abbrev QdQ:Stmt:=top 35
abbrev Qkw:List Str:=["_law_table_here", "_law_shot", "_law_state", "_law_place", "_law_cells_here", "_law_entry", "_law_made"]
theorem Jz:FnScope Qkw ["_law_table_here", "_law_shot"] (Qg QdQ):=Zn
noncomputable abbrev QfA:Stmt:=top 36
abbrev Qmk:List Str:=["_law_table_here", "_law_shot", "_law_steps", "_law_row"]
theorem QdR:FnScope Qmk ["_law_table_here", "_law_shot", "_law_steps"] (Qg QfA):=Zn
noncomputable abbrev Jk:Stmt:=top 37
abbrev QcW:List Str:=["_law_script", "_law_at", "_law_m", "_law_states", "_law_signs", "_law_table_here", "_law_k", "_law_j"]
theorem Qy:FnScope QcW ["_law_script", "_law_at"] (Qg Jk):=Zn
noncomputable abbrev QcD:Stmt:=top 38
abbrev Qjd:List Str:=["_law_script", "_law_at", "_law_table_here", "_law_place", "_law_cells_here", "_law_spot", "_law_k", "_law_m", "_law_j"]
theorem Yg:FnScope Qjd ["_law_script", "_law_at", "_law_table_here", "_law_place"] (Qg QcD):=Zn
noncomputable abbrev QcE:Stmt:=top 39
abbrev Qje:List Str:=["_law_script", "_law_at", "_law_table_here", "_law_place"]
theorem Qha:FnScope Qje ["_law_script", "_law_at", "_law_table_here", "_law_place"] (Qg QcE):=Zn
noncomputable abbrev QbQ:Stmt:=top 40
abbrev Qgs:List Str:=["_law_shot", "_law_state", "_law_place", "_law_cells_here", "_law_rows", "_law_which", "_law_way", "_law_spots", "_law_last", "_law_off", "_law_sign"]
theorem Zr:FnScope Qgs ["_law_shot"] (Qg QbQ):=Zn
noncomputable abbrev QdS:Stmt:=top 41
abbrev Qkx:List Str:=["_law_shot"]
theorem Qjf:FnScope Qkx ["_law_shot"] (Qg QdS):=Zn
noncomputable abbrev JV:Stmt:=top 42
abbrev QdT:List Str:=["_law_shots", "_law_leaps", "_law_k"]
theorem Yk:FnScope QdT ["_law_shots"] (Qg JV):=Zn
noncomputable abbrev QdU:Stmt:=top 43
abbrev Qky:List Str:=["_law_machine", "_law_stretches", "_law_steps", "_law_most", "_law_told_here", "e"]
theorem JA:FnScope Qky ["_law_machine", "_law_stretches", "_law_steps", "_law_most"] (Qg QdU):=Zn
noncomputable abbrev QcF:Stmt:=top 44
abbrev Qjg:List Str:=["_law_machine", "_law_shots", "_law_steps", "_law_seen_here", "_law_leaps", "_law_last", "_law_due", "_law_state", "_law_left", "_law_right", "_law_handed", "_law_found", "_law_few"]
theorem Zg:FnScope Qjg ["_law_machine", "_law_shots", "_law_steps"] (Qg QcF):=Zn
noncomputable abbrev Qbp:Stmt:=top 45
abbrev Qhb:List Str:=["_law_m", "_law_due", "_law_state", "_law_left", "_law_right", "_law_rows", "_law_which", "_law_row", "_law_sort", "_law_n", "_law_sign", "_law_count", "_law_some"]
theorem QL:FnScope Qhb ["_law_m", "_law_due"] (Qg Qbp):=Zn
noncomputable abbrev QaN:Stmt:=top 46
abbrev QfB:List Str:=["_law_machine", "_law_table_here", "_law_start_here", "_law_m", "_law_state", "_law_left", "_law_right", "_law_odd"]
theorem Yp:FnScope QfB ["_law_machine", "_law_table_here", "_law_start_here", "_law_m"] (Qg QaN):=Zn
noncomputable abbrev Qa6:Stmt:=top 47
abbrev QeL:List Str:=["_law_script", "_law_at", "_law_table_here", "_law_machine", "_law_start_here", "_law_shots", "_law_steps", "_law_k", "_law_m", "_law_odd"]
theorem ZG:FnScope QeL ["_law_script", "_law_at"] (Qg Qa6):=Zn
noncomputable abbrev Qkz:Stmt:=top 48
abbrev QoV:List Str:=["_law_script", "_law_at", "_law_k"]
theorem Qjh:FnScope QoV ["_law_script"] (Qg Qkz):=Zn
def UF(K:Frag)(mg:Str->Option Value)(x:Str)(st:Stmt):Prop:=∃f fd,Fun K x x st f fd/\mg x=some (.ref f)
theorem _root_.L2.Room.m{j k:Nat}{A:Around}(h:Room k A)(e:j<=k:=by omega):Room j A:=h.mono e
theorem ZO{P:Program}{w:World}{K:Frag}{mg:Str->Option Value}{base:Heap}{ca:Nat->Addr}{x:Str}{st:Stmt}{N ps:List Str}{k n j:Nat}{m:MS}(u:UF K mg x st)(S:FnScope N ps (Qg st))(h:∀(f:Addr) (cdv:Value) (A:Around) (outer:List Env) (s:Shared) (H:Hp) (E:XK),Room k (A.deeper (envOfC x (Qg st) s.heap.objs.size f cdv))->PSs3 ca (cxOf (CXW P w ca) P w K mg base N x (Qg st) f cdv A outer s H E) (ZR st) m)(hj:ps.length=j:=by rfl)(hn:N.length-ps.length=n:=by rfl)(hb:∀(kV doc pm:Value) (an:Option Addr) (cdv ct:Value) (us:List Value),us.length=ps.length->bindArgs (fnOf x x (Yq st) (ZR st) (Qg st) .none kV doc pm an cdv ct) ⟨us,[]⟩=pure (ps.zip us):=by intro _ _ _ _ _ _ us hl;first|(obtain⟨_,rfl⟩:=L3.len1 hl;rfl)|(obtain⟨_,_,rfl⟩:=L3.len2 hl;rfl)|(obtain⟨_,_,_,rfl⟩:=L3.len3 hl;rfl)|(obtain⟨_,_,_,_,rfl⟩:=L3.len4 hl;rfl)):FnH P w K mg base ca x (k+1) j (mDef j n m):=by
 obtain⟨f,fd,F,hm⟩:=u
 exact⟨⟨f,fd,ps,Qed F S hj hn (h f),hm,F.kp,F.binds hb⟩,QaG _ _ _⟩
structure Zk(K:Frag)(mg:Str->Option Value)(ca:Nat->Addr):Prop where
 z_all:mg "all" = none
 z_any:mg "any" = none
 z_bool:mg "bool" = none
 z_dict:mg "dict" = none
 z_int:mg "int" = none
 z_isinstance:mg "isinstance" = none
 z_len:mg "len" = none
 z_list:mg "list" = none
 z_max:mg "max" = none
 z_min:mg "min" = none
 z_range:mg "range" = none
 z_reversed:mg "reversed" = none
 z_sorted:mg "sorted" = none
 z_str:mg "str" = none
 z_tuple:mg "tuple" = none
 z_zip:mg "zip" = none
 g_BLANK:∃k,mg "BLANK" = some (.int 0 k)
 g_LEFT:∃k,mg "LEFT" = some (.str "l" k)
 g_RIGHT:∃k,mg "RIGHT" = some (.str "r" k)
 t_NoStretches:mg "NoStretches" = some (.ref (ca 5))/\CatX K ca (ca 5) [5] [0,1,6]
 t_TooLong:mg "TooLong" = some (.ref (ca 6))/\CatX K ca (ca 6) [6] [0,1,5]
 x_TooLong:mg "TooLong" = some (.ref (ca 6))/\IsX K ca (.ref (ca 6)) [0,1,5,6] [6]
 e_NoStretches:RaH K mg ca 5 "NoStretches"
 e_TooLong:RaH K mg ca 6 "TooLong"
 a_left:FldOk K ca [13] "left"
 a_moved:FldOk K ca [13] "moved"
 a_own:FldOk K ca [13] "own"
 a_right:FldOk K ca [13] "right"
 a_state:FldOk K ca [13] "state"
 a_table:FldOk K ca [11,13] "table"
 u0:UF K mg "is_whole" Qbi
 u1:UF K mg "is_below" Qbj
 u2:UF K mg "is_from_nought" Yw
 u3:UF K mg "is_entry" Qbl
 u4:UF K mg "check_rows" Y9
 u5:∃f fd,Fun K "__init__" "Machine.__init__" Q8 f fd/\Mk K (ca 11) f/\mg "Machine" = some (.ref (ca 11))
 u6:UF K mg "states_of" QaL
 u7:UF K mg "signs_of" Qbm
 u8:UF K mg "add_stretch" JT
 u9:UF K mg "is_stretch" Qaj
 u10:UF K mg "check_side" Ja
 u11:UF K mg "check_stretches" Yf
 u12:UF K mg "put" Qmi
 u13:UF K mg "drop" Qi9
 u14:UF K mg "nearest_sign" Jj
 u15:UF K mg "alike" Qfy
 u16:∃f fd,Fun K "__init__" "FastWalk.__init__" Ze f fd/\Mk K (ca 13) f/\mg "FastWalk" = some (.ref (ca 13))
 u17:∃f fd,Fun K "entry" "FastWalk.entry" QY f fd/\Meth K (ca 13) "entry" f/\Cls K (ca 13)
 u18:∃f fd,Fun K "leap" "FastWalk.leap" Zf f fd/\Meth K (ca 13) "leap" f/\Cls K (ca 13)
 u19:∃f fd,Fun K "row" "FastWalk.row" Zu f fd/\Meth K (ca 13) "row" f/\Cls K (ca 13)
 u20:UF K mg "check_of_machine" Zx
 u21:UF K mg "fast_from" QaM
 u22:UF K mg "_law_next" QdP
 u23:UF K mg "_law_same" QbP
 u24:UF K mg "_law_table" QcC
 u25:UF K mg "_law_step" QdQ
 u26:UF K mg "_law_run" QfA
 u27:UF K mg "_law_machine_by" Jk
 u28:UF K mg "_law_cells" QcD
 u29:UF K mg "_law_start" QcE
 u30:UF K mg "_law_seen" QbQ
 u31:UF K mg "_law_read" QdS
 u32:UF K mg "_law_cut_leaps" JV
 u33:UF K mg "_law_told" QdU
 u34:UF K mg "_law_asked" QcF
 u35:UF K mg "_law_spoilt" Qbp
 u36:UF K mg "_law_strange" QaN
 u37:UF K mg "_law_round" Qa6
 u38:UF K mg "law" Qkz
section
seal PE3 PT3 PW3 PA3 PS3 PSs3 PG3 PI3
variable{P:Program}{w:World}{K:Frag}{mg:Str->Option Value}{base:Heap}{ca:Nat->Addr}
theorem QcG(Z:Zk K mg ca):FnH P w K mg base ca "is_whole" 1 1 Jt:=ZO Z.u0 Qft λ_ _ _ _ _ _ _ hr=>(Qh (QJ (Qbw (YI .int Z.z_isinstance Z.z_int QkR (Qa 0)) (Qdl (Qlu (YI .bool Z.z_isinstance Z.z_bool Qih (Qa 0)))))))
theorem QcH(Z:Zk K mg ca):FnH P w K mg base ca "is_below" 2 2 ZV:=ZO Z.u1 Qfu λ_ _ _ _ _ _ _ hr=>(Qh (QJ (Qbw (Qo (QcG Z) hr.m (Qd (Qa 0) Qj)) (Qdl (Qnm Qe (Qa 0) (Qa 1))))))
theorem Yh(Z:Zk K mg ca):FnH P w K mg base ca "is_from_nought" 2 1 Qz:=ZO Z.u2 Qbk λ_ _ _ _ _ _ _ hr=>(Qh (QJ (Qbw (Qo (QcG Z) hr.m (Qd (Qa 0) Qj)) (Qdl (r_ge (Qa 0) Qe)))))
theorem QfC(Z:Zk K mg ca):FnH P w K mg base ca "is_entry" 3 3 YD:=ZO Z.u3 Qfv λ_ _ _ _ _ _ _ hr=>(Qc (r_if (Qh1 (Qa 0) Qb1) (Qh (QJ r_bl)) Qu)
 (Qc (r_if (r_w (Qdk (Qaz (Ym (YI .tuple Z.z_isinstance Z.z_tuple Qao (Qa 0)))) (QaS (Qb5 hr (ZS Z.z_len (Qa 0)) Qe)))) (Qh (QJ r_bl)) Qu)
 (Qh (QJ (Qbw (Qo (QcH Z) hr.m (Qd (Qi (Qa 0) Qe) (Qd (Qa 2) Qj))) (Qbw (r_in (Qi (Qa 0) Qe) (Zl (Qd (Qif Z.g_LEFT) (Qd (Qif Z.g_RIGHT) Qj)))) (Qdl (Qo (QcH Z) hr.m (Qd (Qi (Qa 0) Qe) (Qd (Qa 1) Qj))))))))))
theorem QdV(Z:Zk K mg ca):FnH P w K mg base ca "check_rows" 4 1 ZX:=ZO Z.u4 YC λ_ _ _ _ _ _ _ hr=>(Qc (r_if (YY hr (ZS Z.z_len (Qa 0)) Qe) (Qh Qdm) Qu)
 (Qc (Qw 1 YC.nd (ZS Z.z_len (Qa 0)))
 (Qc (Qw 2 YC.nd (ZS Z.z_len (Qi (Qa 0) Qe)))
 (Qc (r_if (YY hr (Qa 2) Qe) (Qh Qdm) Qu)
 (Qh (QaF rfl (Jd (Qa 0)) (Qv 3 YC.nd) (Qc (r_if (Qb5 hr (ZS Z.z_len (Qa 3)) (Qa 2)) (Qh Qdm) Qu)
 (Qh (r_if (Qaz (Ym (QlD rfl Z.z_all (Qc4 (YJ (Nb:=["thing", "states", "signs"]) (no:=1) (cap:=[1,2]) (N:=Qbu) (sc:=Qg Y9) rfl rfl (by decide +kernel)) rfl (Jd (Qa 3)) (λcl C s3 H3 ex=>⟨(Qv 0 (show List.Nodup (["thing", "states", "signs"]:List Str) by decide +kernel)),QgF,(Qo (QfC Z) hr.m (Qd (Qa 0) (Qd (Qa 1) (Qd (Qa 2) Qj))))⟩))))) (Qh Qdm) Qu)))))))))
theorem QcI(Z:Zk K mg ca):MkH P w K mg base ca 11 "Machine" 5 2 Zt:=by
 obtain⟨f,fd,F,hm⟩:=Z.u5
 exact⟨⟨f,fd,["self", "table"],Qed F Qai rfl rfl (λcdv A outer s H E hr=>(Qc (Qw 2 Qai.nd (Qh2 Z.z_tuple (Qc4 (YJ (Nb:=["row"]) (no:=1) (cap:=[]) (N:=QaD) (sc:=Qg Q8) rfl rfl (by decide +kernel)) rfl (Jd (Qa 1)) (λcl C s3 H3 ex=>⟨(Qv 0 (show List.Nodup (["row"]:List Str) by decide +kernel)),QgF,(Qh2 Z.z_tuple (Qa 0))⟩))))
 (Qc (ZI (Qo (QdV Z) hr.m (Qd (Qa 2) Qj)))
 (Qh (ZK (Qa 0) (Qa 2) Z.a_table))))),hm.1,hm.2,F.binds (ps:=["self", "table"]) (λ_ _ _ _ _ _ us hl=>by obtain⟨_,_,rfl⟩:=L3.len2 hl;rfl)⟩,QaG _ _ _⟩
theorem QeM(Z:Zk K mg ca):FnH P w K mg base ca "states_of" 1 1 JH:=ZO Z.u6 QeJ λ_ _ _ _ _ _ _ hr=>(Qh (QJ (ZS Z.z_len (ZJ (Qa 0) Z.a_table))))
theorem QfD(Z:Zk K mg ca):FnH P w K mg base ca "signs_of" 1 1 Qbf:=ZO Z.u7 Qfx λ_ _ _ _ _ _ _ hr=>(Qh (QJ (ZS Z.z_len (Qi (ZJ (Qa 0) Z.a_table) Qe))))
theorem QcX(Z:Zk K mg ca):FnH P w K mg base ca "add_stretch" 1 3 JI:=ZO Z.u8 QcT λ_ _ _ _ _ _ _ hr=>(Qc (r_if (Qnc (Qa 2) Qe) (Qh Qm6) Qu)
 (Qh (r_if (r_w (Qb2 (Qb4 (ZS Z.z_len (Qa 0)) Qe) (Qbb (YY hr (Qi (Qi (Qa 0) (Qaw Qe)) Qe) (Qa 1))))) (Qh (QaE (Qa 0) (Qaw Qe) (Zl (Qd (Qa 1) (Qd (ZL (Qi (Qi (Qa 0) (Qaw Qe)) Qe) (Qa 2)) Qj))))) (Qh (ZI (JF (Qa 0) (Zl (Qd (Qa 1) (Qd (Qa 2) Qj)))))))))
theorem QdW(Z:Zk K mg ca):FnH P w K mg base ca "is_stretch" 3 1 Q0:=ZO Z.u9 QdO λ_ _ _ _ _ _ _ hr=>(Qc (r_if (r_w (Qdk (Qaz (Ym (YI .tuple Z.z_isinstance Z.z_tuple Qao (Qa 0)))) (QaS (Qb5 hr (ZS Z.z_len (Qa 0)) Qe)))) (Qh (QJ r_bl)) Qu)
 (Qh (QJ (Qbw (Qo (Yh Z) hr.m (Qd (Qi (Qa 0) Qe) Qj)) (Qbw (Qo (Yh Z) hr.m (Qd (Qi (Qa 0) Qe) Qj)) (Qdl (r_gt (Qi (Qa 0) Qe) Qe)))))))
theorem Qa7(Z:Zk K mg ca):FnH P w K mg base ca "check_side" 4 1 ZY:=ZO Z.u10 JU λ_ _ _ _ _ _ _ hr=>(Qc (r_if (r_w (Qdk (Qaz (Ym (QlS Z.z_isinstance Z.z_list Z.z_tuple (Qa 0)))) (QaS (Qaz (Ym (QlD rfl Z.z_all (Qc4 (YJ (Nb:=["thing"]) (no:=1) (cap:=[]) (N:=Qbv) (sc:=Qg Ja) rfl rfl (by decide +kernel)) rfl (Jd (Qa 0)) (λcl C s3 H3 ex=>⟨(Qv 0 (show List.Nodup (["thing"]:List Str) by decide +kernel)),QgF,(Qo (QdW Z) hr.m (Qd (Qa 0) Qj))⟩)))))))) (Qh (Qab Z.e_NoStretches hr.hd (Qd J5 Qj))) Qu)
 (Qc (QaF rfl (Qnl Z.z_zip (Qa 0) (Qbe (Qa 0) (Qc6 Qe) Qan)) (J9 rfl (QH (Qv 1 JU.nd) (QH (Qv 2 JU.nd) J8))) (Qh (r_if (YY hr (Qi (Qa 1) Qe) (Qi (Qa 2) Qe)) (Qh (Qab Z.e_NoStretches hr.hd (Qd J5 Qj))) Qu)))
 (Qh (r_if (r_w (Qb2 (Qb4 (ZS Z.z_len (Qa 0)) Qe) (Qbb (YY hr (Qi (Qi (Qa 0) (Qaw Qe)) Qe) (Qig Z.g_BLANK))))) (Qh (Qab Z.e_NoStretches hr.hd (Qd J5 Qj))) Qu))))
theorem Qa8(Z:Zk K mg ca):FnH P w K mg base ca "check_stretches" 5 1 QS:=ZO Z.u11 Qa5 λ_ _ _ _ _ _ _ hr=>(Qc (r_if (r_w (Qdk (Qaz (Ym (YI .tuple Z.z_isinstance Z.z_tuple Qao (Qa 0)))) (QaS (Qb5 hr (ZS Z.z_len (Qa 0)) Qe)))) (Qh (Qab Z.e_NoStretches hr.hd (Qd J5 Qj))) Qu)
 (Qc (r_if (Qaz (Ym (Qo (Yh Z) hr.m (Qd (Qi (Qa 0) Qe) Qj)))) (Qh (Qab Z.e_NoStretches hr.hd (Qd J5 Qj))) Qu)
 (Qc (ZI (Qo (Qa7 Z) hr.m (Qd (Qi (Qa 0) Qe) Qj)))
 (Qh (ZI (Qo (Qa7 Z) hr.m (Qd (Qi (Qa 0) Qe) Qj)))))))
theorem Qji(Z:Zk K mg ca):FnH P w K mg base ca "put" 2 3 QgV:=ZO Z.u12 QnY λ_ _ _ _ _ _ _ hr=>(Qh (r_if (r_w (Qdk (Qb4 (ZS Z.z_len (Qa 0)) Qe) (QaS (Qb5 hr (Qa 1) (Qig Z.g_BLANK))))) (Qh (ZI (Qo (QcX Z) hr.m (Qd (Qa 0) (Qd (Qa 1) (Qd (Qa 2) Qj)))))) Qu))
theorem QfE(Z:Zk K mg ca):FnH P w K mg base ca "drop" 3 2 Qca:=ZO Z.u13 Qja λ_ _ _ _ _ _ _ hr=>(Qh (r_if (Qb4 (ZS Z.z_len (Qa 0)) Qe) (Qc (Qw 2 Qja.nd (Qou (Qa 0)))
 (Qh (ZI (Qo (Qji Z) hr.m (Qd (Qa 0) (Qd (Qi (Qa 2) Qe) (Qd (YX (Qi (Qa 2) Qe) (Qa 1)) Qj))))))) Qu))
theorem YW(Z:Zk K mg ca):FnH P w K mg base ca "nearest_sign" 1 1 Q6:=ZO Z.u14 Qcy λ_ _ _ _ _ _ _ hr=>(Qh (QJ (QeZ (Qb4 (ZS Z.z_len (Qa 0)) Qe) (Qi (Qi (Qa 0) (Qaw Qe)) Qe) (Qig Z.g_BLANK))))
theorem QkA(Z:Zk K mg ca):FnH P w K mg base ca "alike" 2 3 Qcb:=ZO Z.u15 Qku λ_ _ _ _ _ _ _ hr=>(Qc (r_if (Qb5 hr (Qo (YW Z) hr.m (Qd (Qa 0) Qj)) (Qa 1)) (Qh (QJ Qe)) Qu)
 (Qh (QJ (QeZ (Qb4 (ZS Z.z_len (Qa 0)) Qe) (QnA rfl Z.z_min (Qi (Qi (Qa 0) (Qaw Qe)) Qe) (Qa 2)) (Qa 2)))))
theorem QbC(Z:Zk K mg ca):MkH P w K mg base ca 13 "FastWalk" 4 3 Z3:=by
 obtain⟨f,fd,F,hm⟩:=Z.u16
 exact⟨⟨f,fd,["self", "machine", "stretches"],Qed F QbA rfl rfl (λcdv A outer s H E hr=>(Qc (ZK (Qa 0) (ZJ (Qa 1) Z.a_table) Z.a_table)
 (Qc (ZK (Qa 0) (Qi (Qa 2) Qe) Z.a_state)
 (Qc (ZK (Qa 0) (QaX rfl Z.z_list Z.z_reversed (Qi (Qa 2) Qe)) Z.a_left)
 (Qc (ZK (Qa 0) (QaX rfl Z.z_list Z.z_reversed (Qi (Qa 2) Qe)) Z.a_right)
 (Qc (ZK (Qa 0) (Qo (YW Z) hr.m (Qd (ZJ (Qa 0) Z.a_right) Qj)) Z.a_own)
 (Qc (ZI (Qo (QfE Z) hr.m (Qd (ZJ (Qa 0) Z.a_right) (Qd Qe Qj))))
 (Qh (ZK (Qa 0) Qe Z.a_moved))))))))),hm.1,hm.2,F.binds (ps:=["self", "machine", "stretches"]) (λ_ _ _ _ _ _ us hl=>by obtain⟨_,_,_,rfl⟩:=L3.len3 hl;rfl)⟩,QaG _ _ _⟩
theorem JB(Z:Zk K mg ca):MtH P w K mg base ca 13 "entry" 1 1 Zp:=by
 obtain⟨f,fd,F,hm⟩:=Z.u17
 exact⟨⟨f,fd,["self"],Qed F Qbo rfl rfl (λcdv A outer s H E hr=>(Qh (QJ (Qi (Qi (ZJ (Qa 0) Z.a_table) (ZJ (Qa 0) Z.a_state)) (ZJ (Qa 0) Z.a_own))))),hm.1,hm.2,F.binds (ps:=["self"]) (λ_ _ _ _ _ _ us hl=>by obtain⟨_,rfl⟩:=L3.len1 hl;rfl)⟩,QaG _ _ _⟩
theorem QbD(Z:Zk K mg ca):MtH P w K mg base ca 13 "leap" 4 2 YM:=by
 obtain⟨f,fd,F,hm⟩:=Z.u18
 exact⟨⟨f,fd,["self", "asked"],Qed F QZ rfl rfl (λcdv A outer s H E hr=>(Qc (Qw 2 QZ.nd (Qe2 (JB Z) hr.m (Qa 0)))
 (Qc (Qw 3 QZ.nd (r_eq hr (Qi (Qa 2) Qe) (Qif Z.g_RIGHT)))
 (Qc (Qw 4 QZ.nd (QeZ (Ym (Qa 3)) (ZJ (Qa 0) Z.a_right) (ZJ (Qa 0) Z.a_left)))
 (Qc (Qw 5 QZ.nd (QeZ (Ym (Qa 3)) (ZJ (Qa 0) Z.a_left) (ZJ (Qa 0) Z.a_right)))
 (Qc (Qw 6 QZ.nd (QeZ (YY hr (Qi (Qa 2) Qe) (ZJ (Qa 0) Z.a_state)) (ZL Qe (Qo (QkA Z) hr.m (Qd (Qa 4) (Qd (ZJ (Qa 0) Z.a_own) (Qd (YX (Qa 1) Qe) Qj))))) Qe))
 (Qc (ZI (Qo (Qji Z) hr.m (Qd (Qa 5) (Qd (Qi (Qa 2) Qe) (Qd (Qa 6) Qj)))))
 (Qc (ZI (Qo (QfE Z) hr.m (Qd (Qa 4) (Qd (YX (Qa 6) Qe) Qj))))
 (Qc (ZK (Qa 0) (Qo (YW Z) hr.m (Qd (Qa 4) Qj)) Z.a_own)
 (Qc (ZI (Qo (QfE Z) hr.m (Qd (Qa 4) (Qd Qe Qj))))
 (Qc (ZK (Qa 0) (Qi (Qa 2) Qe) Z.a_state)
 (Qc (ZK (Qa 0) (QeZ (Ym (Qa 3)) (ZL (ZJ (Qa 0) Z.a_moved) (Qa 6)) (YX (ZJ (Qa 0) Z.a_moved) (Qa 6))) Z.a_moved)
 (Qh (QJ (Qa 6))))))))))))))),hm.1,hm.2,F.binds (ps:=["self", "asked"]) (λ_ _ _ _ _ _ us hl=>by obtain⟨_,_,rfl⟩:=L3.len2 hl;rfl)⟩,QaG _ _ _⟩
theorem QcJ(Z:Zk K mg ca):MtH P w K mg base ca 13 "row" 3 1 Yj:=by
 obtain⟨f,fd,F,hm⟩:=Z.u19
 exact⟨⟨f,fd,["self"],Qed F Qak rfl rfl (λcdv A outer s H E hr=>(Qc (Qw 1 Qak.nd (Qh3 Z.z_list (ZJ (Qa 0) Z.a_right)))
 (Qc (ZI (Qo (Qji Z) hr.m (Qd (Qa 1) (Qd (ZJ (Qa 0) Z.a_own) (Qd Qe Qj)))))
 (Qh (QJ (Zl (Qd (ZJ (Qa 0) Z.a_state) (Qd (QaX rfl Z.z_list Z.z_reversed (ZJ (Qa 0) Z.a_left)) (Qd (QaX rfl Z.z_list Z.z_reversed (Qa 1)) Qj))))))))),hm.1,hm.2,F.binds (ps:=["self"]) (λ_ _ _ _ _ _ us hl=>by obtain⟨_,rfl⟩:=L3.len1 hl;rfl)⟩,QaG _ _ _⟩
theorem QaO(Z:Zk K mg ca):FnH P w K mg base ca "check_of_machine" 6 2 Q1:=ZO Z.u20 ZT λ_ _ _ _ _ _ _ hr=>(Qc (ZI (Qo (Qa8 Z) hr.m (Qd (Qa 1) Qj)))
 (Qc (r_if (Qnd (Qi (Qa 1) Qe) (Qo (QeM Z) hr.m (Qd (Qa 0) Qj))) (Qh (Qab Z.e_NoStretches hr.hd (Qd J5 Qj))) Qu)
 (Qc (Qw 2 ZT.nd (Qo (QfD Z) hr.m (Qd (Qa 0) Qj)))
 (Qh (QaF rfl (Jd (Qbe (Qa 1) (Qc6 Qe) Qan)) (Qv 3 ZT.nd) (Qh (r_if (Ym (QoC rfl Z.z_any (Qc4 (YJ (Nb:=["sign", "count", "signs"]) (no:=2) (cap:=[2]) (N:=Jb) (sc:=Qg Zx) rfl rfl (by decide +kernel)) rfl (Jd (Qa 3)) (λcl C s3 H3 ex=>⟨(J9 rfl (QH (Qv 0 (show List.Nodup (["sign", "count", "signs"]:List Str) by decide +kernel)) (QH (Qv 1 (show List.Nodup (["sign", "count", "signs"]:List Str) by decide +kernel)) J8))),QgF,(r_ge (Qa 0) (Qa 2))⟩)))) (Qh (Qab Z.e_NoStretches hr.hd (Qd J5 Qj))) Qu)))))))
theorem QeN(Z:Zk K mg ca):FnH P w K mg base ca "fast_from" 7 4 YO:=ZO Z.u21 ZZ λ_ _ _ _ _ _ _ hr=>(Qc (ZI (Qo (QaO Z) hr.m (Qd (Qa 0) (Qd (Qa 1) Qj))))
 (Qc (Qw 4 ZZ.nd (QkN (QbC Z) hr.m (Qd (Qa 0) (Qd (Qa 1) Qj))))
 (Qc (Qw 5 ZZ.nd Qe)
 (Qc (Qw 6 ZZ.nd Qe)
 (Qc (QhM (r_w (Qb2 (Qnc (Qa 5) (Qa 2)) (Qbb (QfT (Qe2 (JB Z) hr.m (Qa 4)) Qb1)))) (Qc (r_if (Qnd (Qa 6) (Qa 3)) (Qh (Qab Z.e_TooLong hr.hd (Qd J5 Qj))) Qu)
 (Qc (Qw 5 ZZ.nd (ZL (Qa 5) (Qm8 (QbD Z) hr.m (Qa 4) (Qd (YX (Qa 2) (Qa 5)) Qj))))
 (Qh (Qw 6 ZZ.nd (ZL (Qa 6) Qe))))))
 (Qh (QJ (Zl (Qd (Qe2 (QcJ Z) hr.m (Qa 4)) (Qd (ZJ (Qa 4) Z.a_moved) (Qd (Qa 5) (Qd (Qa 6) Qj))))))))))))
theorem ZD(Z:Zk K mg ca):FnH P w K mg base ca "_law_next" 1 2 QI:=ZO Z.u22 QcB λ_ _ _ _ _ _ _ hr=>(Qc (QaE (Qa 1) Qe (ZL (Qi (Qa 1) Qe) Qe))
 (Qc (Qw 2 QcB.nd (QeZ (Qb4 (ZS Z.z_len (Qa 0)) Qe) (Qi (Qa 0) (Q9 (Qi (Qa 1) Qe) (ZS Z.z_len (Qa 0)))) Qe))
 (Qc (Qw 3 QcB.nd (Q9 (QgG (ZL (ZL (Q9 (Qa 2) Qe) (QgG (QgG (Qi (Qa 1) Qe) (Qi (Qa 1) Qe)) Qe)) Qe) Qe) Qe))
 (Qh (QJ (Q9 (QgG (Qa 3) (Qa 3)) Qe))))))
theorem QcK(Z:Zk K mg ca):∀n:Nat,FnH P w K mg base ca "_law_same" (1+n) 2 (Z4 n)
 |0=>by
  obtain⟨f,fd,F,hm⟩:=Z.u23
  exact⟨⟨f,fd,["_law_found", "_law_due"],QlK rfl,hm,F.kp,F.binds (ps:=["_law_found", "_law_due"]) (λ_ _ _ _ _ _ us hl=>by obtain⟨_,_,rfl⟩:=L3.len2 hl;rfl)⟩,λ_ _ _=>rfl⟩
 |n+1=>by
  have ih:=QcK Z n
  obtain⟨f,fd,F,hm⟩:=Z.u23
  exact⟨⟨f,fd,["_law_found", "_law_due"],Qed F Qjb rfl rfl (λcdv A outer s H E hr=>(Qc (r_if (r_w (Qdk (Ym (YI .list Z.z_isinstance Z.z_list Qe4 (Qa 1))) (QaS (Ym (YI .tuple Z.z_isinstance Z.z_tuple Qao (Qa 1)))))) (Qc (r_if (r_w (Qdk (Qb5 hr (YI .list Z.z_isinstance Z.z_list Qe4 (Qa 0)) (YI .list Z.z_isinstance Z.z_list Qe4 (Qa 1))) (QaS (Qb5 hr (YI .tuple Z.z_isinstance Z.z_tuple Qao (Qa 0)) (YI .tuple Z.z_isinstance Z.z_tuple Qao (Qa 1)))))) (Qh (QJ r_bl)) Qu)
 (Qh (QJ (Qbw (r_eq hr (ZS Z.z_len (Qa 0)) (ZS Z.z_len (Qa 1))) (Qdl (QlD rfl Z.z_all (Qc4 (YJ (Nb:=["_law_a", "_law_b"]) (no:=2) (cap:=[]) (N:=Qgr) (sc:=Qg QbP) rfl rfl (by decide +kernel)) rfl (Qnl Z.z_zip (Qa 0) (Qa 1)) (λcl C s3 H3 ex=>⟨(J9 rfl (QH (Qv 0 (show List.Nodup (["_law_a", "_law_b"]:List Str) by decide +kernel)) (QH (Qv 1 (show List.Nodup (["_law_a", "_law_b"]:List Str) by decide +kernel)) J8))),QgF,(Qo ih hr (Qd (Qa 0) (Qd (Qa 1) Qj)))⟩)))))))) Qu)
 (Qc (r_if (Qh1 (Qa 1) Qb1) (Qh (QJ (r_is (Qa 0) Qb1))) Qu)
 (Qc (r_if (Ym (YI .str Z.z_isinstance Z.z_str QkS (Qa 1))) (Qh (QJ (Qbw (YI .str Z.z_isinstance Z.z_str QkS (Qa 0)) (Qdl (r_eq hr (Qa 0) (Qa 1)))))) Qu)
 (Qh (QJ (Qbw (YI .int Z.z_isinstance Z.z_int QkR (Qa 0)) (Qbw (Qlu (YI .bool Z.z_isinstance Z.z_bool Qih (Qa 0))) (Qdl (r_eq hr (Qa 0) (Qa 1))))))))))),hm,F.kp,F.binds (ps:=["_law_found", "_law_due"]) (λ_ _ _ _ _ _ us hl=>by obtain⟨_,_,rfl⟩:=L3.len2 hl;rfl)⟩,QaG _ _ _⟩
theorem Qhc(Z:Zk K mg ca):FnH P w K mg base ca "_law_table" 2 4 Qcd:=ZO Z.u24 Z0 λ_ _ _ _ _ _ _ hr=>(Qc (Qw 4 Z0.nd (Jq Qj))
 (Qc (QaF rfl (Yi Z.z_range (Qa 2)) (Qv 5 Z0.nd) (Qc (Qw 6 Z0.nd (Jq Qj))
 (Qc (QaF rfl (Yi Z.z_range (Qa 3)) (Qv 7 Z0.nd) (Qc (Qw 8 Z0.nd (Qo (ZD Z) hr.m (Qd (Qa 0) (Qd (Qa 1) Qj))))
 (Qc (Qw 9 Z0.nd (Zl (Qd (Q9 (Zo (Qa 8) Qe) (Qa 3)) (Qd (Qi J5 (Q9 (Zo (Qa 8) Qe) Qe)) (Qd (Q9 (Zo (Qa 8) Qe) (Qa 2)) Qj)))))
 (Qc (r_if (YY hr (Q9 (Qa 8) Qe) Qe) (Qh (Qw 9 Z0.nd Qb1)) Qu)
 (Qh (ZI (JF (Qa 6) (Qa 9))))))))
 (Qh (ZI (JF (Qa 4) (Qa 6)))))))
 (Qh (QJ (Qa 4)))))
theorem Qjj(Z:Zk K mg ca):FnH P w K mg base ca "_law_step" 1 2 QbL:=ZO Z.u25 Jz λ_ _ _ _ _ _ _ hr=>(Qc (Qe1 (Qa 1) (J9 rfl (QH (Qv 2 Jz.nd) (QH (Qv 3 Jz.nd) (QH (Qv 4 Jz.nd) J8)))))
 (Qc (Qw 5 Jz.nd (Qi (Qi (Qa 0) (Qa 2)) (Qio (Qa 4) (Qa 3) Qe)))
 (Qc (r_if (Qh1 (Qa 5) Qb1) (Qh (QJ Qb1)) Qu)
 (Qc (Qw 6 Jz.nd (Qnx Z.z_dict (Qa 4)))
 (Qc (QkV (Qa 6) (Qa 3) (Qi (Qa 5) Qe))
 (Qc (r_if (YY hr (Qi (Qa 5) Qe) Qe) (Qh (ZI (Qny (Qa 6) (Qa 3)))) Qu)
 (Qc (r_if (YY hr (Qi (Qa 5) Qe) J5) (Qh (QJ (Zl (Qd (Qi (Qa 5) Qe) (Qd (ZL (Qa 3) Qe) (Qd (Qa 6) Qj)))))) Qu)
 (Qh (QJ (Zl (Qd (Qi (Qa 5) Qe) (Qd (YX (Qa 3) Qe) (Qd (Qa 6) Qj)))))))))))))
theorem QkB(Z:Zk K mg ca):FnH P w K mg base ca "_law_run" 2 3 Qdx:=ZO Z.u26 QdR λ_ _ _ _ _ _ _ hr=>(Qc (Qw 3 QdR.nd (Jq (Qd (Qa 1) Qj)))
 (Qc (QhM (Qot (ZS Z.z_len (Qa 3)) (Qa 2)) (Qc (Qw 1 QdR.nd (Qo (Qjj Z) hr.m (Qd (Qa 0) (Qd (Qa 1) Qj))))
 (Qc (r_if (Qh1 (Qa 1) Qb1) (Qh (QJ (Qa 3))) Qu)
 (Qh (ZI (JF (Qa 3) (Qa 1)))))))
 (Qh (QJ (Qa 3)))))
theorem QcL(Z:Zk K mg ca):FnH P w K mg base ca "_law_machine_by" 3 2 Ji:=ZO Z.u27 Qy λ_ _ _ _ _ _ _ hr=>(Qc (Qw 2 Qy.nd (Qo (ZD Z) hr.m (Qd (Qa 0) (Qd (Qa 1) Qj))))
 (Qc (Qw 3 Qy.nd (Qi (Jq (Qd Qe (Qd Qe (Qd Qe (Qd Qe (Qd Qe (Qd Qe Qj))))))) (Q9 (Qa 2) Qe)))
 (Qc (Qw 4 Qy.nd (Qi (Jq (Qd Qe (Qd Qe (Qd Qe (Qd Qe (Qd Qe (Qd Qe Qj))))))) (Q9 (Zo (Qa 2) Qe) Qe)))
 (Qc (r_if (YY hr (Q9 (Zo (Qa 2) Qe) Qe) Qe) (Qh (Qe1 (Zl (Qd Qe (Qd Qe Qj))) (J9 rfl (QH (Qv 3 Qy.nd) (QH (Qv 4 Qy.nd) J8))))) Qu)
 (Qc (Qw 5 Qy.nd (Qo (Qhc Z) hr.m (Qd (Qa 0) (Qd (Qa 1) (Qd (Qa 3) (Qd (Qa 4) Qj))))))
 (Qc (QaF rfl (Yi Z.z_range (Qa 3)) (Qv 6 Qy.nd) (Qh (QaF rfl (Yi Z.z_range (Qa 4)) (Qv 7 Qy.nd) (Qc (Qw 2 Qy.nd (Qo (ZD Z) hr.m (Qd (Qa 0) (Qd (Qa 1) Qj))))
 (Qc (r_if (r_w (Qb2 (YY hr (Q9 (Qa 2) Qe) Qe) (Qbb (QfT (Qi (Qi (Qa 5) (Qa 6)) (Qa 7)) Qb1)))) (Qh (QaE (Qi (Qa 5) (Qa 6)) (Qa 7) (Zl (Qd (Qi (Qi (Qi (Qa 5) (Qa 6)) (Qa 7)) Qe) (Qd (Qi (Qi (Qi (Qa 5) (Qa 6)) (Qa 7)) Qe) (Qd (Qa 6) Qj)))))) Qu)
 (Qh (r_if (r_w (Qb2 (Qb4 (Q9 (Zo (Qa 2) Qe) Qe) Qe) (Qbb (Qh1 (Qi (Qi (Qa 5) (Qa 6)) (Qa 7)) Qb1)))) (Qh (QaE (Qi (Qa 5) (Qa 6)) (Qa 7) (Zl (Qd (Q9 (Zo (Qa 2) Qe) (Qa 4)) (Qd (Qi J5 (Q9 (Zo (Qa 2) Qe) Qe)) (Qd (Q9 (Zo (Qa 2) Qe) (Qa 3)) Qj)))))) Qu)))))))
 (Qh (QJ (Qa 5)))))))))
theorem Qhd(Z:Zk K mg ca):FnH P w K mg base ca "_law_cells" 2 4 Qcf:=ZO Z.u28 Yg λ_ _ _ _ _ _ _ hr=>(Qc (Qw 4 Yg.nd Qnw)
 (Qc (Qw 5 Yg.nd (YX (Qa 3) (Q9 (Qo (ZD Z) hr.m (Qd (Qa 0) (Qd (Qa 1) Qj))) Qe)))
 (Qc (QaF rfl (Yi Z.z_range (Q9 (Qo (ZD Z) hr.m (Qd (Qa 0) (Qd (Qa 1) Qj))) Qe)) (Qv 6 Yg.nd) (Qc (Qw 7 Yg.nd (Qo (ZD Z) hr.m (Qd (Qa 0) (Qd (Qa 1) Qj))))
 (Qc (QaF rfl (Yi Z.z_range (Q9 (Qa 7) Qe)) (Qv 8 Yg.nd) (Qh (r_if (Qb4 (Q9 (Zo (Qa 7) Qe) (ZS Z.z_len (Qi (Qa 2) Qe))) Qe) (Qh (QkV (Qa 4) (ZL (Qa 5) (Qa 8)) (Q9 (Zo (Qa 7) Qe) (ZS Z.z_len (Qi (Qa 2) Qe))))) Qu)))
 (Qh (Qw 5 Yg.nd (ZL (ZL (Qa 5) (Q9 (Qa 7) Qe)) (Q9 (Zo (Qa 7) Qe) Qe)))))))
 (Qh (QJ (Qa 4))))))
theorem Qhe(Z:Zk K mg ca):FnH P w K mg base ca "_law_start" 3 4 Qcg:=ZO Z.u29 Qha λ_ _ _ _ _ _ _ hr=>(Qh (QJ (Zl (Qd (Q9 (Qo (ZD Z) hr.m (Qd (Qa 0) (Qd (Qa 1) Qj))) (ZS Z.z_len (Qa 2))) (Qd (Qa 3) (Qd (Qo (Qhd Z) hr.m (Qd (Qa 0) (Qd (Qa 1) (Qd (Qa 2) (Qd (Qa 3) Qj))))) Qj))))))
theorem QcM(Z:Zk K mg ca):FnH P w K mg base ca "_law_seen" 1 1 JK:=ZO Z.u30 Zr λ_ _ _ _ _ _ _ hr=>(Qc (Qe1 (Qa 0) (J9 rfl (QH (Qv 1 Zr.nd) (QH (Qv 2 Zr.nd) (QH (Qv 3 Zr.nd) J8)))))
 (Qc (Qw 4 Zr.nd (Zl (Qd (Jq Qj) (Qd (Jq Qj) Qj))))
 (Qc (QaF rfl (Jd (Zl (Qd (Zl (Qd Qe (Qd (Qaw Qe) Qj))) (Qd (Zl (Qd Qe (Qd Qe Qj))) Qj)))) (J9 rfl (QH (Qv 5 Zr.nd) (QH (Qv 6 Zr.nd) J8))) (Qc (QhS 7 Zr.nd (YJ (Nb:=["_law_spot", "_law_which", "_law_way", "_law_place"]) (no:=1) (cap:=[5,6,2]) (N:=Qgs) (sc:=Qg QbQ) rfl rfl (by decide +kernel)) rfl (Jd (QfX Z.z_sorted (Qnz rfl Z.z_list (Qa 3)))) (λcl C s3 H3 ex=>⟨(Qv 0 (show List.Nodup (["_law_spot", "_law_which", "_law_way", "_law_place"]:List Str) by decide +kernel)),(Qos (YY hr (r_lt (Qa 0) (Qa 3)) (r_eq hr (Qa 1) Qe))),(ZL (YX (QgG (YX (Qa 0) (Qa 3)) (Qa 2)) Qe) (Qa 1))⟩))
 (Qc (Qw 8 Zr.nd (Qaw Qe))
 (Qh (QaF rfl (Jd (QfX Z.z_sorted (Qa 7))) (Qv 9 Zr.nd) (Qc (Qw 10 Zr.nd (QoB (Qa 3) (ZL (Qa 2) (QgG (Qa 6) (YX (ZL (Qa 9) Qe) (Qa 5))))))
 (Qc (r_if (Qb4 (Qa 9) (ZL (Qa 8) Qe)) (Qh (ZI (JF (Qi (Qa 4) (Qa 5)) (Zl (Qd Qe (Qd (YX (YX (Qa 9) (Qa 8)) Qe) Qj)))))) Qu)
 (Qc (r_if (r_w (Qb2 (YY hr (Qa 9) (ZL (Qa 8) Qe)) (Qb2 (Qb4 (ZS Z.z_len (Qi (Qa 4) (Qa 5))) Qe) (Qbb (YY hr (Qi (Qi (Qi (Qa 4) (Qa 5)) (Qaw Qe)) Qe) (Qa 10)))))) (Qh (QaE (Qi (Qa 4) (Qa 5)) (Qaw Qe) (Zl (Qd (Qa 10) (Qd (ZL (Qi (Qi (Qi (Qa 4) (Qa 5)) (Qaw Qe)) Qe) Qe) Qj))))) (Qh (ZI (JF (Qi (Qa 4) (Qa 5)) (Zl (Qd (Qa 10) (Qd Qe Qj)))))))
 (Qh (Qw 8 Zr.nd (Qa 9)))))))))))
 (Qh (QJ (Zl (Qd (Qa 1) (Qd (Qi (Qa 4) Qe) (Qd (Qi (Qa 4) Qe) Qj)))))))))
theorem QeO(Z:Zk K mg ca):FnH P w K mg base ca "_law_read" 1 1 JL:=ZO Z.u31 Qjf λ_ _ _ _ _ _ _ hr=>(Qh (QJ (Zl (Qd (Qi (Qa 0) Qe) (Qd (Qio (Qi (Qa 0) Qe) (Qi (Qa 0) Qe) Qe) Qj)))))
theorem QcY(Z:Zk K mg ca):FnH P w K mg base ca "_law_cut_leaps" 2 1 JN:=ZO Z.u32 Yk λ_ _ _ _ _ _ _ hr=>(Qc (Qw 1 Yk.nd Qe)
 (Qc (QaF rfl (Yi Z.z_range (YX (ZS Z.z_len (Qa 0)) Qe)) (Qv 2 Yk.nd) (Qh (r_if (r_w (Qdk (YY hr (Qa 2) Qe) (QaS (Qb5 hr (Qo (QeO Z) hr.m (Qd (Qi (Qa 0) (Qa 2)) Qj)) (Qo (QeO Z) hr.m (Qd (Qi (Qa 0) (YX (Qa 2) Qe)) Qj)))))) (Qh (Qw 1 Yk.nd (ZL (Qa 1) Qe))) Qu)))
 (Qh (QJ (Qa 1)))))
theorem Qa9(Z:Zk K mg ca):FnH P w K mg base ca "_law_told" 8 4 ZQ:=ZO Z.u33 JA λ_ _ _ _ _ _ _ hr=>(Qc (Qw 4 JA.nd Qb1)
 (Qc (Qox (Qh (Qw 4 JA.nd (Qo (QeN Z) hr.m (Qd (Qa 0) (Qd (Qa 1) (Qd (Qa 2) (Qd (Qa 3) Qj))))))) (Qnq Z.t_TooLong (λa=>(Qh (Qw 4 JA.nd J5))) (Qoy 5 JA.nd Z.t_NoStretches (λa=>(Qh (Qw 4 JA.nd (Qi (Jq (Qd J5 (Qd J5 Qj))) (Qlz Z.z_int (Qlu (QlH Z.z_isinstance Z.x_TooLong (Qa 5)))))))) Qnp)))
 (Qh (QJ (Qa 4)))))
theorem Qhf(Z:Zk K mg ca):FnH P w K mg base ca "_law_asked" 9 3 Qci:=ZO Z.u34 Zg λ_ _ _ _ _ _ _ hr=>(Qc (Qw 3 Zg.nd (Qbe (Qa 1) Qan (Qc6 (ZL Qe (QnB rfl Z.z_max Qe (Qa 2))))))
 (Qc (Qw 4 Zg.nd (Qo (QcY Z) hr.m (Qd (Qa 3) Qj)))
 (Qc (Qw 5 Zg.nd (Qi (Qa 3) (YX (ZS Z.z_len (Qa 3)) Qe)))
 (Qc (Qw 6 Zg.nd (Zl (Qd (Qo (QcM Z) hr.m (Qd (Qa 5) Qj)) (Qd (YX (Qi (Qa 5) Qe) (Qi (Qi (Qa 1) Qe) Qe)) (Qd (YX (ZS Z.z_len (Qa 3)) Qe) (Qd (Qa 4) Qj))))))
 (Qc (Qe1 (Qo (QcM Z) hr.m (Qd (Qi (Qa 1) Qe) Qj)) (J9 rfl (QH (Qv 7 Zg.nd) (QH (Qv 8 Zg.nd) (QH (Qv 9 Zg.nd) J8)))))
 (Qc (Qw 10 Zg.nd (Zl (Qd (Qa 7) (Qd (Qh3 Z.z_list (Qa 8)) (Qd (Qh3 Z.z_list (Qa 9)) Qj)))))
 (Qc (Qw 11 Zg.nd (Qo (Qa9 Z) hr.m (Qd (Qa 0) (Qd (Qa 10) (Qd (Qa 2) (Qd (Qa 4) Qj))))))
 (Qc (r_if (Qb5 hr (Qa 10) (Zl (Qd (Qa 7) (Qd (Qa 8) (Qd (Qa 9) Qj))))) (Qh (QJ r_bl)) Qu)
 (Qc (ZI (JF (Qi (Qa 10) Qe) (Zl (Qd Qe (Qd Qe Qj)))))
 (Qc (ZI (QlQ (Qi (Qa 10) Qe)))
 (Qc (r_if (Qaz (Ym (Qo (QcK Z 6) hr.m (Qd (Qa 11) (Qd (Qa 6) Qj))))) (Qh (QJ r_bl)) Qu)
 (Qc (Qw 12 Zg.nd (Qo (Qa9 Z) hr.m (Qd (Qa 0) (Qd (Zl (Qd (Qa 7) (Qd (Qa 8) (Qd (Qa 9) Qj)))) (Qd (Qa 2) (Qd (YX (Qaw Qe) (Q9 (Qa 4) Qe)) Qj))))))
 (Qc (r_if (YY hr (Qa 4) Qe) (Qh (QJ (Qo (QcK Z 6) hr.m (Qd (Qa 12) (Qd (Qa 6) Qj))))) Qu)
 (Qh (QJ (Qbw (r_eq hr (Qa 12) J5) (Qdl (r_eq hr (Qo (Qa9 Z) hr.m (Qd (Qa 0) (Qd (Zl (Qd (Qa 7) (Qd (Qa 8) (Qd (Qa 9) Qj)))) (Qd (Qa 2) (Qd (YX (Qa 4) Qe) Qj))))) J5))))))))))))))))))
theorem QfF(Z:Zk K mg ca):FnH P w K mg base ca "_law_spoilt" 1 2 Ju:=ZO Z.u35 QL λ_ _ _ _ _ _ _ hr=>(Qc (Qe1 (Qa 1) (J9 rfl (QH (Qv 2 QL.nd) (QH (Qv 3 QL.nd) (QH (Qv 4 QL.nd) J8)))))
 (Qc (Qw 5 QL.nd (Jq (Qd (Qa 3) (Qd (Qa 4) Qj))))
 (Qc (Qw 6 QL.nd (Q9 (Qa 0) Qe))
 (Qc (Qw 7 QL.nd (Qi (Qa 5) (Qa 6)))
 (Qc (Qw 8 QL.nd (Q9 (Zo (Qa 0) Qe) Qe))
 (Qc (r_if (YY hr (Qa 8) Qe) (Qh (QJ (Zl (Qd (YX (Qaw Qe) (Q9 (Zo (Qa 0) Qe) Qe)) (Qd (Qa 3) (Qd (Qa 4) Qj)))))) Qu)
 (Qc (r_if (r_w (Qdk (YY hr (Qa 8) Qe) (QaS (YY hr (Qa 7) (Jq Qj))))) (Qc (QaE (Qa 5) (Qa 6) (ZL (Qa 7) (Jq (Qd (Zl (Qd Qe (Qd (ZL Qe (Q9 (Zo (Qa 0) Qe) Qe)) Qj))) Qj))))
 (Qh (QJ (Zl (Qd (Qa 2) (Qd (Qi (Qa 5) Qe) (Qd (Qi (Qa 5) Qe) Qj))))))) Qu)
 (Qc (Qw 9 QL.nd (Q9 (Zo (Qa 0) Qe) (ZS Z.z_len (Qa 7))))
 (Qc (Qe1 (Qi (Qa 7) (Qa 9)) (J9 rfl (QH (Qv 10 QL.nd) (QH (Qv 11 QL.nd) J8))))
 (Qc (Qw 12 QL.nd (Jq (Qd (Jq (Qd (Zl (Qd (Qa 10) (Qd (Qaw (Q9 (Zo (Qa 0) Qe) Qe)) Qj))) Qj)) (Qd (Jq (Qd (Zl (Qd (Qa 10) (Qd (Qa 11) Qj))) (Qd (Zl (Qd (Qa 10) (Qd Qe Qj))) Qj))) (Qd (Jq Qj) (Qd (Jq Qj) (Qd (Jq (Qd (Zl (Qd (YX (Qaw Qe) (Q9 (Zo (Qa 0) Qe) Qe)) (Qd (Qa 11) Qj))) Qj)) Qj)))))))
 (Qc (QaE (Qa 5) (Qa 6) (ZL (ZL (Qbe (Qa 7) Qan (Qc6 (Qa 9))) (Qi (Qa 12) (Qa 8))) (Qbe (Qa 7) (Qc6 (ZL (Qa 9) Qe)) Qan)))
 (Qh (QJ (Zl (Qd (Qa 2) (Qd (Qi (Qa 5) Qe) (Qd (Qi (Qa 5) Qe) Qj)))))))))))))))))
theorem QeP(Z:Zk K mg ca):FnH P w K mg base ca "_law_strange" 2 4 QaI:=ZO Z.u36 Yp λ_ _ _ _ _ _ _ hr=>(Qc (Qe1 (Qa 2) (J9 rfl (QH (Qv 4 Yp.nd) (QH (Qv 5 Yp.nd) (QH (Qv 6 Yp.nd) J8)))))
 (Qc (r_if (YY hr (Q9 (Qa 3) Qe) Qe) (Qh (QJ (Zl (Qd (ZL (ZS Z.z_len (Qa 1)) (Q9 (Zo (Qa 3) Qe) Qe)) (Qd (Qa 5) (Qd (Qa 6) Qj)))))) Qu)
 (Qc (r_if (YY hr (Q9 (Qa 3) Qe) Qe) (Qh (QJ (Qo (QfF Z) hr.m (Qd (Zo (Qa 3) Qe) (Qd (Qa 2) Qj))))) Qu)
 (Qc (Qw 7 Yp.nd (Jq (Qd (Zl (Qd (ZL (ZS Z.z_len (Qi (Qa 1) Qe)) (Q9 (Zo (Qa 3) Qe) Qe)) (Qd (ZL Qe (Q9 (Zo (Qa 3) Qe) Qe)) Qj))) Qj)))
 (Qc (r_if (YY hr (Q9 (Zo (Qa 3) Qe) Qe) Qe) (Qh (QJ (Zl (Qd (Qa 4) (Qd (ZL (Qa 7) (Qa 5)) (Qd (Qa 6) Qj)))))) Qu)
 (Qh (QJ (Zl (Qd (Qa 4) (Qd (Qa 5) (Qd (ZL (Qa 6) (Qa 7)) Qj)))))))))))
theorem Qhg(Z:Zk K mg ca):FnH P w K mg base ca "_law_round" 10 2 Qck:=ZO Z.u37 ZG λ_ _ _ _ _ _ _ hr=>(Qc (Qw 2 ZG.nd (Qo (QcL Z) hr.m (Qd (Qa 0) (Qd (Qa 1) Qj))))
 (Qc (Qw 3 ZG.nd (QkN (QcI Z) hr.m (Qd (Qa 2) Qj)))
 (Qc (Qw 4 ZG.nd (Qo (Qhe Z) hr.m (Qd (Qa 0) (Qd (Qa 1) (Qd (Qa 2) (Qd (YX (Q9 (Qo (ZD Z) hr.m (Qd (Qa 0) (Qd (Qa 1) Qj))) Qe) Qe) Qj))))))
 (Qc (Qw 5 ZG.nd (Qo (QkB Z) hr.m (Qd (Qa 2) (Qd (Qa 4) (Qd Qe Qj)))))
 (Qc (QaF rfl (Jd (ZL (Jq (Qd Qe (Qd (Qaw (Q9 (Qo (ZD Z) hr.m (Qd (Qa 0) (Qd (Qa 1) Qj))) Qe)) Qj))) (Qc4 (YJ (Nb:=["_law_k", "_law_script", "_law_at"]) (no:=1) (cap:=[0,1]) (N:=QeL) (sc:=Qg Qa6) rfl rfl (by decide +kernel)) rfl (Yi Z.z_range Qe) (λcl C s3 H3 ex=>⟨(Qv 0 (show List.Nodup (["_law_k", "_law_script", "_law_at"]:List Str) by decide +kernel)),QgF,(Q9 (Qo (ZD Z) hr.m (Qd (Qa 1) (Qd (Qa 2) Qj))) Qe)⟩)))) (Qv 6 ZG.nd) (Qh (r_if (Qaz (Ym (Qo (Qhf Z) hr.m (Qd (Qa 3) (Qd (Qa 5) (Qd (Qa 6) Qj)))))) (Qh (QJ r_bl)) Qu)))
 (Qc (QaF rfl (Yi Z.z_range Qe) (Qv 7 ZG.nd) (Qc (Qw 8 ZG.nd (Qo (ZD Z) hr.m (Qd (Qa 0) (Qd (Qa 1) Qj))))
 (Qc (Qw 9 ZG.nd (Qo (QeP Z) hr.m (Qd (Qa 3) (Qd (Qa 2) (Qd (Qo (QcM Z) hr.m (Qd (Qa 4) Qj)) (Qd (Qa 8) Qj))))))
 (Qh (r_if (Qb5 hr (Qo (Qa9 Z) hr.m (Qd (Qa 3) (Qd (Qa 9) (Qd (Q9 (Zo (Qa 8) Qe) Qe) (Qd Qe Qj))))) J5) (Qh (QJ r_bl)) Qu)))))
 (Qh (QJ r_bl))))))))
theorem Qn0(Z:Zk K mg ca){f:Addr}{fd:FuncData}(F:Fun K "law" "law" Qkz f fd):FnOk P w K mg base (CXW P w ca) 11 f fd ["_law_script"] (spM K ca 1 Qj0) :=
 Qed F Qjh rfl rfl (λcdv A outer s H E hr=>(Qc (Qw 1 Qjh.nd (Jq (Qd Qe Qj)))
 (Qc (QaF rfl (Yi Z.z_range (ZL Qe (Zo (ZS Z.z_len (Qbe (Qa 0) Qan (Qc6 Qe))) Qe))) (Qv 2 Qjh.nd) (Qh (r_if (Qaz (Ym (Qo (Qhg Z) hr.m (Qd (Qa 0) (Qd (Qa 1) Qj))))) (Qh (QJ r_bl)) Qu)))
 (Qh (QJ r_bl)))))
end
noncomputable def caOf(l:List Nat)(n:Nat):Addr:=l.getD n 0
def FA(K:Frag)(x:Str)(st:Stmt):Prop:=∃(f:Addr)(oc kV dc pm cd ct:Value)(od an:Option Addr)(sl:Array (Option Value)),nsIn K mainGlobals x=some (some (.ref f))/\K.lookup f=some ⟨oc,od,.func (fnOf x x (Yq st) (ZR st) (Qg st) .none kV dc pm an cd ct),sl⟩/\codeIn K cd x=true/\keepIn K (.ref f)=true
theorem fa_mk{K:Frag}{x:Str}{st:Stmt}{f:Addr}{oc kV dc pm cd ct:Value}{od an:Option Addr}{sl:Array (Option Value)}(a:nsIn K mainGlobals x=some (some (.ref f)))(l:K.lookup f=some ⟨oc,od,.func (fnOf x x (Yq st) (ZR st) (Qg st) .none kV dc pm an cd ct),sl⟩)(d:codeIn K cd x=true)(k:keepIn K (.ref f)=true):FA K x st:=⟨f,oc,kV,dc,pm,cd,ct,od,an,sl,a,l,d,k⟩
theorem FA.u{K:Frag}{h:Heap}{mg:Str->Option Value}{x:Str}{st:Stmt}(a:FA K x st)(X:K.In h)(G:h.Ns mainGlobals mg):UF K mg x st:=by
 obtain⟨f,oc,kV,dc,pm,cd,ct,od,an,sl,a,l,d,k⟩:=a
 exact⟨f,_,Qc1 l d k,U8 X G a⟩
theorem z_mk{K:Frag}{h:Heap}{mg:Str->Option Value}(X:K.In h)(G:h.Ns mainGlobals mg){C0 C1 C5 C6 C11 C13:Addr}{oc35 kV35 dc35 pm35 cd35 ct35:Value}{od35 an35:Option Addr}{sl35:Array (Option Value)}{f35:Addr}{oc36 kV36 dc36 pm36 cd36 ct36:Value}{od36 an36:Option Addr}{sl36:Array (Option Value)}{f36:Addr}{oc37 kV37 dc37 pm37 cd37 ct37:Value}{od37 an37:Option Addr}{sl37:Array (Option Value)}{f37:Addr}{oc38 kV38 dc38 pm38 cd38 ct38:Value}{od38 an38:Option Addr}{sl38:Array (Option Value)}{f38:Addr}{oc39 kV39 dc39 pm39 cd39 ct39:Value}{od39 an39:Option Addr}{sl39:Array (Option Value)}{f39:Addr}{og_BLANK:_}{og_LEFT:_}{og_RIGHT:_}(c0:nsIn K mainGlobals "TapeError" = some (some (.ref C0)))(c1:nsIn K mainGlobals "NoMachine" = some (some (.ref C1)))(c5:nsIn K mainGlobals "NoStretches" = some (some (.ref C5)))(c6:nsIn K mainGlobals "TooLong" = some (some (.ref C6)))(c11:nsIn K mainGlobals "Machine" = some (some (.ref C11)))(c13:nsIn K mainGlobals "FastWalk" = some (some (.ref C13)))(a1:FA K "is_whole" Qbi)(a2:FA K "is_below" Qbj)(a3:FA K "is_from_nought" Yw)(a4:FA K "is_entry" Qbl)(a5:FA K "check_rows" Y9)(a6:FA K "states_of" QaL)(a7:FA K "signs_of" Qbm)(a8:FA K "add_stretch" JT)(a9:FA K "is_stretch" Qaj)(a10:FA K "check_side" Ja)(a11:FA K "check_stretches" Yf)(a12:FA K "put" Qmi)(a13:FA K "drop" Qi9)(a14:FA K "nearest_sign" Jj)(a15:FA K "alike" Qfy)(a16:FA K "check_of_machine" Zx)(a17:FA K "fast_from" QaM)(a18:FA K "_law_next" QdP)(a19:FA K "_law_same" QbP)(a20:FA K "_law_table" QcC)(a21:FA K "_law_step" QdQ)(a22:FA K "_law_run" QfA)(a23:FA K "_law_machine_by" Jk)(a24:FA K "_law_cells" QcD)(a25:FA K "_law_start" QcE)(a26:FA K "_law_seen" QbQ)(a27:FA K "_law_read" QdS)(a28:FA K "_law_cut_leaps" JV)(a29:FA K "_law_told" QdU)(a30:FA K "_law_asked" QcF)(a31:FA K "_law_spoilt" Qbp)(a32:FA K "_law_strange" QaN)(a33:FA K "_law_round" Qa6)(a34:FA K "law" Qkz)(a35:findIn K (.ref C11) "__init__" = some (some (.ref f35)))(l35:K.lookup f35=some ⟨oc35,od35,.func (fnOf "__init__" "Machine.__init__" (Yq Q8) (ZR Q8) (Qg Q8) .none kV35 dc35 pm35 an35 cd35 ct35),sl35⟩)(d35:codeIn K cd35 "Machine.__init__" = true)(k35:keepIn K (.ref f35)=true)(i35:isFn K (.ref f35)=true)(m35:makesIn K C11=true)(q35:keepIn K (.ref C11)=true)(a36:findIn K (.ref C13) "__init__" = some (some (.ref f36)))(l36:K.lookup f36=some ⟨oc36,od36,.func (fnOf "__init__" "FastWalk.__init__" (Yq Ze) (ZR Ze) (Qg Ze) .none kV36 dc36 pm36 an36 cd36 ct36),sl36⟩)(d36:codeIn K cd36 "FastWalk.__init__" = true)(k36:keepIn K (.ref f36)=true)(i36:isFn K (.ref f36)=true)(m36:makesIn K C13=true)(q36:keepIn K (.ref C13)=true)(a37:findIn K (.ref C13) "entry" = some (some (.ref f37)))(l37:K.lookup f37=some ⟨oc37,od37,.func (fnOf "entry" "FastWalk.entry" (Yq QY) (ZR QY) (Qg QY) .none kV37 dc37 pm37 an37 cd37 ct37),sl37⟩)(d37:codeIn K cd37 "FastWalk.entry" = true)(k37:keepIn K (.ref f37)=true)(i37:isFn K (.ref f37)=true)(w37:clsB K C13=true)(a38:findIn K (.ref C13) "leap" = some (some (.ref f38)))(l38:K.lookup f38=some ⟨oc38,od38,.func (fnOf "leap" "FastWalk.leap" (Yq Zf) (ZR Zf) (Qg Zf) .none kV38 dc38 pm38 an38 cd38 ct38),sl38⟩)(d38:codeIn K cd38 "FastWalk.leap" = true)(k38:keepIn K (.ref f38)=true)(i38:isFn K (.ref f38)=true)(w38:clsB K C13=true)(a39:findIn K (.ref C13) "row" = some (some (.ref f39)))(l39:K.lookup f39=some ⟨oc39,od39,.func (fnOf "row" "FastWalk.row" (Yq Zu) (ZR Zu) (Qg Zu) .none kV39 dc39 pm39 an39 cd39 ct39),sl39⟩)(d39:codeIn K cd39 "FastWalk.row" = true)(k39:keepIn K (.ref f39)=true)(i39:isFn K (.ref f39)=true)(w39:clsB K C13=true)(nz_all:nsIn K mainGlobals "all" = some none)(nz_any:nsIn K mainGlobals "any" = some none)(nz_bool:nsIn K mainGlobals "bool" = some none)(nz_dict:nsIn K mainGlobals "dict" = some none)(nz_int:nsIn K mainGlobals "int" = some none)(nz_isinstance:nsIn K mainGlobals "isinstance" = some none)(nz_len:nsIn K mainGlobals "len" = some none)(nz_list:nsIn K mainGlobals "list" = some none)(nz_max:nsIn K mainGlobals "max" = some none)(nz_min:nsIn K mainGlobals "min" = some none)(nz_range:nsIn K mainGlobals "range" = some none)(nz_reversed:nsIn K mainGlobals "reversed" = some none)(nz_sorted:nsIn K mainGlobals "sorted" = some none)(nz_str:nsIn K mainGlobals "str" = some none)(nz_tuple:nsIn K mainGlobals "tuple" = some none)(nz_zip:nsIn K mainGlobals "zip" = some none)(ng_BLANK:nsIn K mainGlobals "BLANK" = some (some (.int 0 og_BLANK)))(ng_LEFT:nsIn K mainGlobals "LEFT" = some (some (.str "l" og_LEFT)))(ng_RIGHT:nsIn K mainGlobals "RIGHT" = some (some (.str "r" og_RIGHT)))(nt_NoStretches:catB K (caOf [C0,C1,0,0,0,C5,C6,0,0,0,0,C11,0,C13]) C5 [5] [0,1,6]=true)(nt_TooLong:catB K (caOf [C0,C1,0,0,0,C5,C6,0,0,0,0,C11,0,C13]) C6 [6] [0,1,5]=true)(nx_TooLong:isxB K (caOf [C0,C1,0,0,0,C5,C6,0,0,0,0,C11,0,C13]) (.ref C6) [0,1,5,6] [6]=true)(ne_NoStretches:excIn K C5 bmV "ValueError.__new__" = true)(ne_TooLong:excIn K C6 bmV "ValueError.__new__" = true)(na_left:fldB K (caOf [C0,C1,0,0,0,C5,C6,0,0,0,0,C11,0,C13]) [13] "left" = true)(na_moved:fldB K (caOf [C0,C1,0,0,0,C5,C6,0,0,0,0,C11,0,C13]) [13] "moved" = true)(na_own:fldB K (caOf [C0,C1,0,0,0,C5,C6,0,0,0,0,C11,0,C13]) [13] "own" = true)(na_right:fldB K (caOf [C0,C1,0,0,0,C5,C6,0,0,0,0,C11,0,C13]) [13] "right" = true)(na_state:fldB K (caOf [C0,C1,0,0,0,C5,C6,0,0,0,0,C11,0,C13]) [13] "state" = true)(na_table:fldB K (caOf [C0,C1,0,0,0,C5,C6,0,0,0,0,C11,0,C13]) [11,13] "table" = true):Zk K mg (caOf [C0,C1,0,0,0,C5,C6,0,0,0,0,C11,0,C13]) :=
  ⟨Uy X G nz_all,
   Uy X G nz_any,
   Uy X G nz_bool,
   Uy X G nz_dict,
   Uy X G nz_int,
   Uy X G nz_isinstance,
   Uy X G nz_len,
   Uy X G nz_list,
   Uy X G nz_max,
   Uy X G nz_min,
   Uy X G nz_range,
   Uy X G nz_reversed,
   Uy X G nz_sorted,
   Uy X G nz_str,
   Uy X G nz_tuple,
   Uy X G nz_zip,
   ⟨_,U8 X G ng_BLANK⟩,
   ⟨_,U8 X G ng_LEFT⟩,
   ⟨_,U8 X G ng_RIGHT⟩,
   ⟨U8 X G c5,QkQ nt_NoStretches⟩,
   ⟨U8 X G c6,QkQ nt_TooLong⟩,
   ⟨U8 X G c6,Qns nx_TooLong⟩,
   ⟨U8 X G c5,ne_NoStretches⟩,
   ⟨U8 X G c6,ne_TooLong⟩,
   Qc7 na_left,
   Qc7 na_moved,
   Qc7 na_own,
   Qc7 na_right,
   Qc7 na_state,
   Qc7 na_table,
   a1.u X G,
   a2.u X G,
   a3.u X G,
   a4.u X G,
   a5.u X G,
   ⟨f35,_,Qc1 (st:=Q8) l35 d35 k35,⟨m35,a35,i35,q35⟩,U8 X G c11⟩,
   a6.u X G,
   a7.u X G,
   a8.u X G,
   a9.u X G,
   a10.u X G,
   a11.u X G,
   a12.u X G,
   a13.u X G,
   a14.u X G,
   a15.u X G,
   ⟨f36,_,Qc1 (st:=Ze) l36 d36 k36,⟨m36,a36,i36,q36⟩,U8 X G c13⟩,
   ⟨f37,_,Qc1 (st:=QY) l37 d37 k37,⟨a37,i37,k37⟩,QfW w37⟩,
   ⟨f38,_,Qc1 (st:=Zf) l38 d38 k38,⟨a38,i38,k38⟩,QfW w38⟩,
   ⟨f39,_,Qc1 (st:=Zu) l39 d39 k39,⟨a39,i39,k39⟩,QfW w39⟩,
   a16.u X G,
   a17.u X G,
   a18.u X G,
   a19.u X G,
   a20.u X G,
   a21.u X G,
   a22.u X G,
   a23.u X G,
   a24.u X G,
   a25.u X G,
   a26.u X G,
   a27.u X G,
   a28.u X G,
   a29.u X G,
   a30.u X G,
   a31.u X G,
   a32.u X G,
   a33.u X G,
   a34.u X G⟩
theorem walk{l:PySem.W.OpenLaw}{p:Program}{loose:List Str}{XP:(Str->Option Value)->Heap->Prop}{YP:World->Heap->Prop}{d:DefRec}{K:Params->Frag}(C:List Nat)(hn:l.most=some 63)(hdf:d.params.defaults=[])(hd:d.name = "law")(hY:∀(w:World) (h:Heap),YP w h->(K w.params).In h)(F:∀(w:World) (mg:Str->Option Value) (h:Heap),(K w.params).In h->h.Ns mainGlobals mg->Zk (K w.params) mg (caOf C))(M:∀ns:List Int,ns.length<=63->∃g',Qj0 [.fl (ns.map D.int)] []=.ok (.bl true) g'):PySem.W.WalkO p loose XP YP l.row.toRowW d [] (λf vs=>PySem.call f vs):=by
 refine L2.walk_of (n:=63) (k:=11) (x:="_law_script") (CX:=λw=>CXW l.prog w (caOf C)) (sp:=λw=>spM (K w.params) (caOf C) 1 Qj0) hn (by decide) hdf ⟨rfl,by decide,by decide⟩ hY (λw mg fa h KX G hmg=>?_) (λw H a ns hl hO hS=>Qnt hO hS (M ns hl)) (λw H s e s' z=>?_)
 ·have Z:=F w mg h KX G
  obtain⟨f,fd,Fu,hm⟩:=Z.u38
  rw[hd]at hmg
  have e:=hmg.symm.trans hm
  cases e
  refine⟨fd,λs u=>?_,λbase _ _=>Qn0 Z Fu⟩
  obtain⟨oc,od,kV,doc,pm,an,cdv,ct,osl,rfl,lk,hcd⟩:=Fu.ex
  exact .of_eq rfl
 ·obtain⟨_,_,_,_,_,_,_,_,_,_,z⟩:=z
  exact z
end V
namespace V
open PySem PySem.W PySem.W.X PySem.Spec PyProof.Rows
theorem walkX_of{as:List Addr}{K:Params->Frag}{n t:Nat}{q:Program}{loose:List Str}{XP:(Str->Option Value)->Heap->Prop}{r:RowW}{d:DefRec}{kwd:List (Str×PySem.Expr)}{run:Value->List Value->Sem Value}(e:∀P,as=(K P).map (·.1))(h:WalkO q loose XP (InK K) r d kwd run):WalkX q loose XP (obsZ as) (valZ K n t) r d kwd run :=
 λw s₀ s₁ mg mb G y a o pm cd doc dV kV h1 h2 h3 h4 h5 h6 args vals as' L p1 p2 p3 p4 p5 =>
  h w s₀ s₁ mg mb G (InK.keeps w _ _ (z_facts e y).2.1 L.keeps) a o pm cd doc dV kV h1 h2 h3 h4 h5 h6 args vals as' p1 p2 p3 p4 p5
end V
noncomputable def PySem.W.Fast.tw17067832909977938394 : PySem.Program := PySem.Challenge.pw_tapeproof_k21_leaps_cut
theorem PySem.W.Fast.te17067832909977938394 : PySem.Challenge.pw_tapeproof_k21_leaps_cut = PySem.W.Fast.tw17067832909977938394 := rfl
def PySem.W.Fast.tw16656290745795636233 : Unit := ()
def PySem.W.Fast.tw13275889379898774292 : Unit := ()
def PySem.W.Fast.tw6100447416872873714 : Unit := ()
def PySem.W.Fast.tw14568456587134250186 : Unit := ()
def PySem.W.Fast.tw17015291067449145478 : Unit := ()
def PySem.W.Fast.tw13877792852586398054 : Unit := ()
def PySem.W.Fast.tw535964257248338784 : Unit := ()
def PySem.W.Fast.tw12963826255752776897 : Unit := ()
def PySem.W.Fast.tw11188860770188023675 : Unit := ()
def PySem.W.Fast.tw11675199015342204123 : Unit := ()
def PySem.W.Fast.tw5313144975984323471 : Unit := ()
def PySem.W.Fast.tw6649766019695284583 : Unit := ()
def PySem.W.Fast.tw12360481427047489680 : Unit := ()
def PySem.W.Fast.tw415495973889147870 : Unit := ()
def PySem.W.Fast.tw9756607936202645531 : Unit := ()
def PySem.W.Fast.tw16924658314617981313 : Unit := ()
def PySem.W.Fast.tw6978126659611413004 : Unit := ()
def PySem.W.Fast.tw575506208273294677 : Unit := ()
def PySem.W.Fast.tw10334320381566061630 : Unit := ()
def PySem.W.Fast.tw8245660701481168908 : Unit := ()
def PySem.W.Fast.tw862838193768310630 : Unit := ()
def PySem.W.Fast.tw17975958898869676336 : Unit := ()
def PySem.W.Fast.tw1932162748120962488 : Unit := ()
def PySem.W.Fast.tw14848247737239825209 : Unit := ()
def PySem.W.Fast.tw15097028313061385510 : Unit := ()
def PySem.W.Fast.tw13008179188726538902 : Unit := ()
def PySem.W.Fast.tw16048084745403888601 : Unit := ()
def PySem.W.Fast.tw14459892640201607967 : Unit := ()
def PySem.W.Fast.tw1163730810828242647 : Unit := ()
def PySem.W.Fast.tw13802139364799898953 : Unit := ()
def PySem.W.Fast.tw6558731907709510058 : Unit := ()
def PySem.W.Fast.tw17565571935137240513 : Unit := ()
def PySem.W.Fast.tw13395472505788826776 : Unit := ()
def PySem.W.Fast.tw15315713385641402505 : Unit := ()
def PySem.W.Fast.tw18045536783461705114 : Unit := ()
def PySem.W.Fast.tw2201527964478824563 : Unit := ()
def PySem.W.Fast.tw5709395443046168181 : Unit := ()
def PySem.W.Fast.tw1569098920480483527 : Unit := ()
def PySem.W.Fast.tw15444220336013318453 : Unit := ()
def PySem.W.Fast.tw1453769935643196915 : Unit := ()
def PySem.W.Fast.tw3865614293862440064 : Unit := ()
def PySem.W.Fast.tw1256268584537267043 : Unit := ()
def PySem.W.Fast.tw5636977242458500488 : Unit := ()
def PySem.W.Fast.tw12496198280222360638 : Unit := ()
def PySem.W.Fast.tw16664049445976825426 : Unit := ()
def PySem.W.Fast.tw9485013395787378764 : Unit := ()
def PySem.W.Fast.tw6484459202994266298 : Unit := ()
def PySem.W.Fast.tw14367666272597201151 : Unit := ()
def PySem.W.Fast.tw1035445526181997682 : Unit := ()
def PySem.W.Fast.tw6089677591700990224 : Unit := ()
def PySem.W.Fast.tw5795213826998834972 : Unit := ()
def PySem.W.Fast.tw9006560762345932290 : Unit := ()
def PySem.W.Fast.tw18443942094606628553 : Unit := ()
def PySem.W.Fast.tw12074485617850604751 : Unit := ()
def PySem.W.Fast.tw12021433367191470498 : Unit := ()
def PySem.W.Fast.tw13329172295328310207 : Unit := ()
def PySem.W.Fast.tw3654629446221851811 : Unit := ()
open PySem PySem.W PyProof.Rows
set_option maxRecDepth 100000 in
set_option maxHeartbeats 0 in
theorem PySem.Challenge.cw_tapeproof_k21_leaps_cut_holds : PySem.Challenge.rw_tapeproof_k21_leaps_cut.Holds := by
  w_on; o_law; z_head; (case hw=>w_witness2)
  k_fill
  refine V.walkX_of (fun P=>?E) (V.walk (l:=PySem.Challenge.rw_tapeproof_k21_leaps_cut) [24,37,0,0,0,49,61,0,0,0,0,111,0,221] rfl rfl rfl (fun w h Y=>Y) ?F L3.law_true)
  case E=>kernel_rfl
  case F =>
    intro w mg h KX G
    refine' V.z_mk KX G ?_ ?_ ?_ ?_ ?_ ?_ ?_ ?_ ?_ ?_ ?_ ?_ ?_ ?_ ?_ ?_ ?_ ?_ ?_ ?_ ?_ ?_ ?_ ?_ ?_ ?_ ?_ ?_ ?_ ?_ ?_ ?_ ?_ ?_ ?_ ?_ ?_ ?_ ?_ ?_ ?_ ?_ ?_ ?_ ?_ ?_ ?_ ?_ ?_ ?_ ?_ ?_ ?_ ?_ ?_ ?_ ?_ ?_ ?_ ?_ ?_ ?_ ?_ ?_ ?_ ?_ ?_ ?_ ?_ ?_ ?_ ?_ ?_ ?_ ?_ ?_ ?_ ?_ ?_ ?_ ?_ ?_ ?_ ?_ ?_ ?_ ?_ ?_ ?_ ?_ ?_ ?_ ?_ ?_ ?_ ?_ ?_ ?_ ?_ ?_ ?_ ?_
    rotate_right 102
    iterate 6 (focus k_is)
    iterate 34 (focus (refine' V.fa_mk ?_ ?_ ?_ ?_; rotate_right 4; iterate 4 focus k_is))
    iterate 19 (focus k_is)
    iterate 1 (focus kernel_rfl)
    iterate 5 (focus k_is)
    iterate 1 (focus kernel_rfl)
    iterate 5 (focus k_is)
    iterate 1 (focus kernel_rfl)
    iterate 19 (focus k_is)
    iterate 3 (focus kernel_rfl)
    iterate 2 (focus k_exc)
    iterate 6 (focus kernel_rfl)
