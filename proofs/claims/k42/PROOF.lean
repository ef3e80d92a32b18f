import PyProof.Rows.All
import Wide.All
import OpenK.AllK
import Wide.FinOn
import Lean
import PyProof.EqAt
import PyProof.EqKinds
import PyProof.TupleCall
import PySem.Challenge.RW_tapeproof_k42_moves_walked
local macro_rules | `(tactic| omega) => `(tactic| lia)
set_option Elab.async false
set_option linter.all false
set_option maxRecDepth 100000
abbrev Ua:=@PySem.wpAny_bind
abbrev Ub:=@PySem.Heap.get?_push_of_some
abbrev Uc:=@List.length_map
abbrev Ud:=@List.getElem?_eq_some_iff
abbrev Ue:=@if_pos
abbrev Uf:=@Bool.false_ne_true
abbrev Ug:=@List.size_toArray
abbrev Uh:=@if_neg
abbrev Ui:=@Nat.le_refl
abbrev Uj:=@PySem.wpAny_pure
abbrev Uk:=@PySem.Heap.lt_size
abbrev Ul:=@decide_eq_false
abbrev Um:=@List.length_append
abbrev Uo:=@List.getElem?_set_ne
abbrev Up:=@List.mem_singleton
abbrev Uq:=@List.getElem?_eq_getElem
abbrev Ur:=@Nat.le_trans
abbrev Us:=@PySem.Heap.get?_push_size
abbrev Ut:=@List.getElem?_append_left
abbrev Uu:=@List.mem_cons
abbrev Uv:=@List.mem_cons_of_mem
abbrev Uw:=@List.replicate_succ
abbrev Ux:=@List.getElem?_append_right
abbrev Uy:=@List.getElem?_map
abbrev Uz:=@decide_eq_true
abbrev UA:=@List.mem_append_right
abbrev UB:=@List.mem_append
abbrev UC:=@Nat.lt_of_lt_of_le
abbrev UD:=@Bool.and_eq_true
abbrev UE:=@List.all_eq_true
abbrev UG:=@List.mem_cons_self
abbrev UH:=@List.append_assoc
abbrev UI:=@List.length_cons
abbrev UJ:=@List.map_cons
abbrev UK:=@List.flatten_cons
abbrev UL:=@Int.emod_lt_of_pos
abbrev UM:=@PySem.W.mg_none_of
abbrev UN:=@List.length_set
abbrev UO:=@List.find?_cons
abbrev UP:=@Nat.ne_of_lt
abbrev UQ:=@PySem.wpAny_field
abbrev UR:=@List.take_succ_eq_append_getElem
abbrev US:=@List.map_append
abbrev UT:=@Int.emod_nonneg
abbrev UU:=@PyProof.Rows.slot_tuple_getitem
abbrev UV:=@PySem.W.kia_one
abbrev UW:=@List.append_nil
abbrev UX:=@List.getElem_mem
abbrev UY:=@Nat.le_of_lt
abbrev UZ:=@PySem.W.mg_of
abbrev U0:=@List.getElem?_set_self
abbrev U1:=@List.length_replicate
abbrev U2:=@List.eq_nil_or_concat
abbrev U3:=@PySem.wpAny_mono
abbrev U4:=@List.mem_of_getElem?
abbrev U5:=@Bool.false_eq_true
abbrev U6:=@PySem.Heap.get?_update_other
abbrev U7:=@List.length_pos_iff
abbrev U8:=@List.getElem?_eq_none
abbrev U9:=@PySem.wpAny_callSpecial?_slot
abbrev Ta:=@List.mem_append_left
abbrev Tc:=@List.mem_of_mem_take
abbrev Td:=@Nat.lt_succ_self
abbrev Te:=@Array.getElem?_eq_some_iff
abbrev Tf:=@PySem.wpAny_newObj_type
abbrev Tg:=@beq_eq_false_iff_ne
abbrev Th:=@List.length_reverse
abbrev Ti:=@PySem.Heap.size_push
abbrev Tj:=@List.getElem?_eq_none_iff
abbrev Tl:=@List.any_cons
abbrev Tn:=@List.mem_map
abbrev To:=@PySem.W.kia_tup
abbrev Tq:=@List.filterMap_cons
abbrev Tr:=@Array.length_toList
abbrev Ts:=@PySem.mem_of_lookup
abbrev Tt:=@beq_iff_eq
abbrev Tu:=@Nat.lt_irrefl
abbrev Tv:=@List.length_take
abbrev Tw:=@List.filter_cons
abbrev Tx:=@PySem.F.slot_tuple_iterator_next
abbrev Tz:=@PySem.wpAny_setField_rec
abbrev TB:=@PySem.wpAny_seqItems
abbrev TC:=@PySem.wpAny_passesOwn
abbrev TD:=@List.mem_of_mem_drop
abbrev TF:=@PySem.wpAny_truthy_bool
abbrev TH:=@Int.toNat_natCast
abbrev TJ:=@decide_eq_true_eq
abbrev TK:=@of_decide_eq_true
abbrev TL:=@if_false
abbrev TM:=@List.getElem?_replicate
abbrev TN:=@List.length_drop
abbrev TQ:=@PySem.wpAny_call_entry
abbrev TR:=@Nat.le_of_not_lt
abbrev TU:=@List.take_length
abbrev TV:=@Option.map_eq_some_iff
abbrev TW:=@List.take_of_length_le
abbrev TX:=@if_true
abbrev TY:=@List.dropLast_eq_take
abbrev TZ:=@List.concat_eq_append
abbrev T0:=@PyProof.Rows.callWith_type1
abbrev T1:=@List.map_take
abbrev T3:=@List.map_drop
abbrev T4:=@PySem.W.kitx_list
abbrev T5:=@PySem.F.slot_tuple_mul
abbrev T6:=@Option.getD_some
abbrev T7:=@List.drop_eq_getElem_cons
abbrev T8:=@PySem.F.args_tuple_add_2
abbrev T9:=@List.nodup_cons
abbrev Ra:=@PySem.wpAny_Call_Name_kw
abbrev Rb:=@PySem.Obj.data_mapFields
abbrev Rc:=@PySem.F.entry_tuple_add
abbrev Re:=@List.getElem?_cons_succ
abbrev Rf:=@List.getElem?_cons_zero
abbrev Rh:=@PySem.call_meets
abbrev Ri:=@PySem.sizeLine_eq
abbrev Rj:=@PySem.F.slot_tuple_add
abbrev Rk:=@PySem.wpAny_setField
abbrev Rl:=@Nat.mul_le_mul
abbrev Rm:=@PySem.Heap.get?_update_self
abbrev Rn:=@congrArg
abbrev Ro:=@PySem.AutoSeq1.idx_int
abbrev Rq:=@beq_self_eq_true
abbrev Rr:=@PySem.wpAny_holding
abbrev Rs:=@List.all_cons
abbrev Rt:=@PySem.wpAny_updateSeq_pair
abbrev Ru:=@PySem.F.args_tuple_iterator_next_1
abbrev Rv:=@Int.le_refl
abbrev Rw:=@PySem.wpAny_execs_nil
abbrev Rx:=@PySem.SeqAt.EqAt.same
abbrev Ry:=@List.forIn_cons
abbrev Rz:=@PySem.F.slot_zip_next
abbrev RA:=@Bool.or_eq_true_iff
abbrev RB:=@List.reverse_append
abbrev RC:=@PySem.F.entry_tuple_iterator_next
abbrev RD:=@Nat.ne_of_gt
abbrev RE:=@Int.zero_add
abbrev RF:=@PySem.Calls.Name_function_global
abbrev RG:=@PySem.F.excBase_ValueError
abbrev RH:=@PySem.SeqAt.EqAt.int_str
abbrev RI:=@PySem.SeqAt.EqAt.str_int
abbrev RJ:=@Array.append_assoc
abbrev RK:=@List.mem_filterMap
abbrev RL:=@PySem.W.kitx_tuple
abbrev RM:=@PySem.F.args_tuple_mul_2
abbrev RN:=@PySem.wpAny_pyIter_tuple
abbrev RO:=@List.mem_range
abbrev RP:=@List.forIn_nil
abbrev RQ:=@Int.mul_nonneg
abbrev RS:=@PySem.W.kitx_dict
abbrev RT:=@PySem.F.entry_tuple_mul
abbrev RU:=@PySem.wpAny_pyIter_list
abbrev RV:=@Function.comp_def
abbrev RW:=@Option.isSome_iff_exists
abbrev RY:=@Nat.zero_le
abbrev RZ:=@Bool.or_false
abbrev Wa:=@PySem.wpAny_onRaise
abbrev Wb:=@PySem.F.plainAttrs_list
abbrev Wc:=@PySem.F.plainAttrs_dict
abbrev We:=@Nat.add_sub_cancel_left
abbrev Wf:=@List.getElem_inj
abbrev Wg:=@PySem.noFill_tuple_add
abbrev Wh:=@Nat.min_eq_right
abbrev Wi:=@PySem.W.cellsFrom_some
abbrev Wm:=@List.length_pos_of_mem
abbrev Wn:=@List.drop_eq_nil_of_le
abbrev Wo:=@Nat.succ_mul
abbrev Wp:=@Nat.add_comm
abbrev Wq:=@PySem.codeAny_mono
abbrev Wr:=@List.set_set
abbrev Ws:=@List.of_mem_zip
abbrev Wt:=@PySem.wpAny_ite_false
abbrev Wu:=@Nat.min_eq_left
abbrev Wv:=@List.length_singleton
abbrev Wx:=@List.length_filter_le
abbrev Wy:=@PySem.F.slot_dict_pop
abbrev Wz:=@PySem.F.slot_dict_get
abbrev WA:=@List.take_append_drop
abbrev WI:=@Bool.and_eq_true_iff
abbrev WJ:=@List.replicate_succ'
abbrev WK:=@List.dropLast_concat
abbrev W2:=@LawfulBEq.eq_of_beq
abbrev Bf:=@PySem.wpAny_rule
abbrev BO:=@Int.add_mul
open PySem.W (Frag InitBack Looks any_some bind_fn callWith_K cellsFrom_some clsIn codeIn codeRec_of emptyDict excIn findIn findObj_own fnOf get_value handedIn hasDictIn hideAll hideAll_get hideAll_none hideAll_size instObj isFn isNs_of_in keepIn ki_setAt ki_setBack kia_one kia_tup kitAny kitOne kitx_bool kitx_dict kitx_float kitx_int kitx_list kitx_none kitx_own kitx_str kitx_tuple lookIn looks_clsIn looks_findIn looks_subIn looks_typeIn make_core makesIn makes_of methodObj mg_none_of mg_of mroIn nsIn nsMap_none_of_in of_hideAll osa_open plainGet plainGet_of plainOver set_plain specialIn subIn tail_of_in takerIn takesIn typeIn)
namespace L2
open PySem PySem.Spec PyProof.Rows
section
noncomputable abbrev Key:=Sum Int Str
noncomputable def Qe2:Key->Value->Bool
 |.inl k,v=>Value.isInt k v
 |.inr x,v=>Value.isStrOf x v
noncomputable def keyH(w:World):Key->Int
 |.inl k=>hashInt k
 |.inr x=>hashStr w x
theorem Zg:∀{k:Key}{v:Value},Qe2 k v=true->(∃i t,k=Sum.inl i/\v=Value.int i t)\/(∃x t,k=Sum.inr x/\v=Value.str x t)
 |.inl i,v,h=>by
  obtain⟨t,e⟩:=Value.isInt_shape (k:=i) (v:=v) h
  exact .inl ⟨i,t,rfl,e⟩
 |.inr x,v,h=>by
  obtain⟨t,e⟩:=Value.isStrOf_shape (x:=x) (v:=v) h
  exact .inr ⟨x,t,rfl,e⟩
theorem Qhd(i:Int)(t:Tok):Qe2 (.inl i) (.int i t)=true:=by simp[Qe2,Value.isInt]
theorem Qhe(x:Str)(t:Tok):Qe2 (.inr x) (.str x t)=true:=by simp[Qe2,Value.isStrOf]
theorem Ql4(a b:Int):decide ((Sum.inl a:Key)=Sum.inl b)=(a == b):=by
 by_cases e:a=b
 ·subst e;simp
 ·have h:¬(Sum.inl a:Key)=Sum.inl b:=λq=>e (Sum.inl.inj q)
  rw[Ul h]
  exact(Tg.mpr e).symm
theorem Ql5(a b:Str):decide ((Sum.inr a:Key)=Sum.inr b)=decide (a=b):=by
 by_cases e:a=b
 ·subst e;simp
 ·have h:¬(Sum.inr a:Key)=Sum.inr b:=λq=>e (Sum.inr.inj q)
  rw[Ul h,Ul e]
theorem Ql6(a:Int)(b:Str):decide ((Sum.inl a:Key)=Sum.inr b)=false:=Ul (λq=>nomatch q)
theorem Ql7(a:Str)(b:Int):decide ((Sum.inr a:Key)=Sum.inl b)=false:=Ul (λq=>nomatch q)
noncomputable def Yu(prog:Program)(w:World):PySem.KeyKind prog w Key where
 is:=Qe2
 hash:=keyH w
 inj:=λv a b ha hb=>by
  rcases Zg ha with⟨i,t,rfl,rfl⟩|⟨x,t,rfl,rfl⟩
  ·rcases Zg hb with⟨j,u,rfl,e⟩|⟨y,u,rfl,e⟩
   ·injection e with e1 _;rw[e1]
   ·exact nomatch e
  ·rcases Zg hb with⟨j,u,rfl,e⟩|⟨y,u,rfl,e⟩
   ·exact nomatch e
   ·injection e with e1 _;rw[e1]
 byValue:=λk v h=>by
  rcases Zg h with⟨i,t,rfl,rfl⟩|⟨x,t,rfl,rfl⟩ <;> rfl
 pyHash:=λhv h=>by
  rcases Zg hv with⟨i,t,rfl,rfl⟩|⟨x,t,rfl,rfl⟩
  ·exact wpAny_pyHash_int h
  ·exact wpAny_pyHash_str h
 eqBool:=λhu hv h=>by
  rcases Zg hu with⟨i,t,rfl,rfl⟩|⟨x,t,rfl,rfl⟩
  ·rcases Zg hv with⟨j,u,rfl,rfl⟩|⟨y,u,rfl,rfl⟩
   ·rw[Ql4]at h;exact wpAny_eqBool_int h
   ·rw[Ql6]at h;exact RH i t y u _ _ _ _ h
  ·rcases Zg hv with⟨j,u,rfl,rfl⟩|⟨y,u,rfl,rfl⟩
   ·rw[Ql7]at h;exact RI x t j u _ _ _ _ h
   ·rw[Ql5]at h;exact wpAny_eqBool_str h
 «strs»:=λk x t v h=>by
  rcases Zg h with⟨i,u,rfl,e⟩|⟨y,u,rfl,e⟩
  ·exact nomatch e
  ·injection e with e1 _
   subst e1
   cases v <;> rfl
theorem Qe3(prog:Program)(w:World)(i:Int)(t:Tok):(Yu prog w).is (.inl i) (.int i t)=true:=Qhd i t
theorem Qe4(prog:Program)(w:World)(x:Str)(t:Tok):(Yu prog w).is (.inr x) (.str x t)=true:=Qhe x t
end
section
inductive V where
 |non|bl (b:Bool)|int (i:Int)|str (x:Str)|byt (b:Array UInt8)|flt (b:UInt64)|ref (a:Addr)|ty (n:String)
 deriving DecidableEq
noncomputable def RelV:V->Value->Prop
 |.non,u=>u=Value.none
 |.bl b,u=>u=Value.bool b
 |.int i,u=>∃t,u=Value.int i t
 |.str x,u=>∃t,u=Value.str x t
 |.byt b,u=>∃t,u=Value.bytes b t
 |.flt b,u=>∃t,u=Value.float b t
 |.ref a,u=>u=Value.ref a
 |.ty n,u=>u=Value.type n
noncomputable abbrev Vals:List V->List Value->Prop:=Paired RelV
theorem Vals.length{xs:List V}{us:List Value}(r:Vals xs us):xs.length=us.length:=Paired.length r
theorem Vals.get:∀{xs:List V}{us:List Value}{i:Nat}{x:V},Vals xs us->xs[i]?=some x->∃u,us[i]?=some u/\RelV x u
 |_,_,_,_,.nil,e=>by simp at e
 |_,_,0,_,.cons r _,e=>by simp at e;subst e;exact⟨_,rfl,r⟩
 |_,_,i+1,x,.cons _ t,e=>by
  obtain⟨u,h1,h2⟩:=Vals.get (i:=i) (x:=x) t (by simpa using e)
  exact⟨u,by simpa using h1,h2⟩
theorem Vals.set{x:V}{u:Value}(r:RelV x u):∀{xs:List V}{us:List Value}(i:Nat),Vals xs us->Vals (xs.set i x) (us.set i u)
 |_,_,_,.nil=>.nil
 |_,_,0,.cons _ t=>.cons r t
 |_,_,i+1,.cons q t=>.cons q (Vals.set r i t)
theorem Vals.append:∀{xs ys:List V}{us ws:List Value},Vals xs us->Vals ys ws->Vals (xs++ys) (us++ws)
 |_,_,_,_,.nil,s=>s
 |_,_,_,_,.cons r t,s=>.cons r (Vals.append t s)
theorem Vals.take:∀{xs:List V}{us:List Value}(n:Nat),Vals xs us->Vals (xs.take n) (us.take n)
 |_,_,0,_=>.nil
 |_,_,_+1,.nil=>.nil
 |_,_,n+1,.cons r t=>.cons r (Vals.take n t)
theorem Vals.drop:∀{xs:List V}{us:List Value}(n:Nat),Vals xs us->Vals (xs.drop n) (us.drop n)
 |_,_,0,r=>r
 |_,_,_+1,.nil=>.nil
 |_,_,n+1,.cons _ t=>Vals.drop n t
noncomputable def RelO:Option V->Option Value->Prop
 |some v,some u=>RelV v u
 |none,none=>True
 |_,_=>False
noncomputable def KV{κ:Type}:List (κ×V)->List (κ×Value)->Prop:=Paired λ(p:κ×V)(q:κ×Value)=>p.1=q.1/\RelV p.2 q.2
noncomputable def kV:Key->V
 |.inl i=>.int i
 |.inr x=>.str x
inductive HO where
 /-- a list -/
 |lst (xs:List V)
 /-- a tuple (never changes) -/
 |tup (xs:List V)
 /-- a dict whose keys are ints and texts;one whose keys are tuples of ints and texts (the empty one is both) -/
 |dK (kvs:List (Key×V))|dT (kvs:List (List Key×V))
 /-- a set of ints: its members,its size -/
 |set (S:Int->Bool) (n:Nat)
 /-- an instance of the class at C,its dict at dx,its attributes -/
 |ins (C dx:Addr) (fs:List (Str×V))
 /-- the dict of the instance at x -/
 |own (x:Addr)
 /-- the dict of an exception -/
 |xd (fs:List (Str×V))
 /-- a bound method,f of x -/
 |met (f x:Addr)
 /-- a range object lo,lo+1,.. below hi -/
 |rng (lo hi:Int)
 /-- a thing that is known to the object (the script;a dict while a loop walks it): read,never written while it is so -/
 |frz (o:Obj) (u:HO)
 /-- a code object's table -/
 |tbl (ps:Array Value)
 /-- any other thing,by what is true of its one object (a def of one's own: SetO a S n:=HO.ext λh=>..) -/
 |ext (φ:Heap->Prop)
noncomputable abbrev Hp:=Addr->Option HO
noncomputable def upd(H:Hp)(a:Addr)(o:HO):Hp:=λb=>if b=a then some o else H b
theorem Qr{H:Hp}{a:Addr}{o:HO}:upd H a o a=some o:=by unfold upd;rw[Ue rfl]
theorem QF{H:Hp}{a b:Addr}{o:HO}(h:b≠a):upd H a o b=H b:=by unfold upd;rw[Uh h]
theorem Qjo{H:Hp}{a b:Addr}{o u:HO}(h:H a=some o)(h':H b=some u)(d:o≠u):a≠b:=by
 intro e;subst e;rw[h]at h';exact d (Option.some.inj h')
theorem Q3{H:Hp}{a b:Addr}{o:HO}(h:H a=some o)(h':H b=none):a≠b:=by
 intro e;subst e;rw[h]at h';cases h'
section
variable(P:Program)(w:World)
noncomputable def ObjOk(H:Hp)(h:Heap)(a:Addr):HO->Prop
 |.lst xs=>xs.length<=sizeLine/\∃(its:List Value)(n:Nat),Vals xs its/\h.get? a=some {cls:=.type "list",data:=.seq its.toArray n}
 |.tup xs=>xs.length<=sizeLine/\∃its:List Value,Vals xs its/\IsTup h a its.toArray
 |.dK kvs=>kvs.length<=sizeLine/\(a == sysModules)=false/\∃vs,KV kvs vs/\h.DictOf (Yu P w) a vs
 |.dT kvs=>kvs.length<=sizeLine/\(a == sysModules)=false/\∃xs:List (List Key×Addr×Value),
   Paired (λ(p:List Key×V)(q:List Key×Addr×Value)=>p.1=q.1/\H q.2.1=some (.tup (p.1.map kV))/\RelV p.2 q.2.2) kvs xs /\
   ∃o es ep,h.get? a=some o/\o.ExactDict/\o.data=.dict es ep/\es.toList=xs.map (entryOfKey (tupleKind (Yu P w)))/\(xs.map (·.1)).Nodup
 |.set S n=>h.SetOf (intKind P w) a S n
 |.ins C dx fs=>H dx=some (.own a)/\fs.length<=1000/\dx≠a/\h.get? a=some (instObj C dx) /\
   ∃mA,h.Ns1 dx mA/\(∀f,RelO (fs.lookup f) (mA f))/\PySem.Within mA (fs.map (·.1))
 |.own _=>∃o,h.get? a=some o
 |.xd fs=>∃mA,h.Ns1 a mA/\∀f,RelO (fs.lookup f) (mA f)
 |.rng lo hi=>∃t u v,h.get? a=some {cls:=.type "range",data:=.fields #[.int lo t,.int hi u,.int 1 v]}
 |.frz o u=>h.get? a=some o/\ObjOk H h a u
 |.tbl ps=>h.get? a=some {cls:=.none,data:=.fields ps}
 |.met f x=>h.get? a=some (methodObj (.ref f) (.ref x))
 |.ext φ=>φ h/\(∃o,h.get? a=some o)/\∀h1 h2:Heap,φ h1->(∀o,h1.get? a=some o->h2.get? a=some o)->φ h2
def HOk(H:Hp)(h:Heap):Prop:=∀a o,H a=some o->ObjOk P w H h a o
end
section
variable{P:Program}{w:World}{H H':Hp}{h h':Heap}{a:Addr}{o:HO}
theorem ObjOk.lt(x:ObjOk P w H h a o):a<h.objs.size:=by
 cases o with
 |lst xs=>obtain⟨_,_,_,_,e⟩:=x;exact Uk e
 |tup xs=>obtain⟨_,_,_,p⟩:=x;exact p.lt
 |dK kvs=>obtain⟨_,_,_,_,o,_,_,e,_⟩:=x;exact Uk e
 |dT kvs=>obtain⟨_,_,_,_,o,_,_,e,_⟩:=x;exact Uk e
 |set S n=>obtain⟨o,_,_,_,e,_⟩:=x;exact Uk e
 |ins C dx fs=>obtain⟨_,_,_,e,_⟩:=x;exact Uk e
 |own y=>obtain⟨_,e⟩:=x;exact Uk e
 |xd fs=>obtain⟨_,⟨_,_,_,e,_⟩,_⟩:=x;exact Uk e
 |rng lo hi=>obtain⟨_,_,_,e⟩:=x;exact Uk e
 |frz ob u=>obtain⟨e,_⟩:=x;exact Uk e
 |tbl ps=>exact Uk (show h.get? a=some _ from x)
 |met f y=>exact Uk (show h.get? a=some _ from x)
 |ext φ=>obtain⟨_,⟨_,e⟩,_⟩:=x;exact Uk e
theorem Paired.mapP{α β:Type}{F G:α->β->Prop}:∀{l₁:List α}{l₂:List β},Paired F l₁ l₂->(∀a b,F a b->G a b)->Paired G l₁ l₂
 |_,_,.nil,_=>.nil
 |_,_,.cons r t,f=>.cons (f _ _ r) (Paired.mapP t f)
theorem Paired.imp'{α β:Type}{F G:α->β->Prop}(f:∀a b,F a b->G a b){l₁:List α}{l₂:List β}(r:Paired F l₁ l₂):Paired G l₁ l₂:=Paired.mapP r f
theorem ObjOk.stay(x:ObjOk P w H h a o)(k:∀b u,(b=a\/H b=some (.own a))->h.get? b=some u->h'.get? b=some u)(ho:∀b,H b=some (.own a)->H' b=some (.own a))(ht:∀b xs,H b=some (.tup xs)->H' b=some (.tup xs)):ObjOk P w H' h' a o:=by
 induction o with
 |lst xs=>obtain⟨z,its,n,r,e⟩:=x;exact⟨z,its,n,r,k _ _ (.inl rfl) e⟩
 |tup xs=>obtain⟨z,its,r,ob,e,c⟩:=x;exact⟨z,its,r,ob,k _ _ (.inl rfl) e,c⟩
 |dK kvs=>obtain⟨z,y,vs,r,ob,es,ep,e,c⟩:=x;exact⟨z,y,vs,r,ob,es,ep,k _ _ (.inl rfl) e,c⟩
 |dT kvs =>
  obtain⟨z,y,xs,r,ob,es,ep,e,c⟩:=x
  exact⟨z,y,xs,Paired.mapP r λp q z=>⟨z.1,ht _ _ z.2.1,z.2.2⟩,ob,es,ep,k _ _ (.inl rfl) e,c⟩
 |set S n=>obtain⟨ob,es,ep,t,e,c⟩:=x;exact⟨ob,es,ep,t,k _ _ (.inl rfl) e,c⟩
 |ins C dx fs =>
  obtain⟨d,z,ne,e,mA,⟨od,es,ep,e2,c⟩,r⟩:=x
  exact⟨ho _ d,z,ne,k _ _ (.inl rfl) e,mA,⟨od,es,ep,k _ _ (.inr d) e2,c⟩,r⟩
 |own y=>obtain⟨ob,e⟩:=x;exact⟨ob,k _ _ (.inl rfl) e⟩
 |xd fs=>obtain⟨mA,⟨od,es,ep,e,c⟩,r⟩:=x;exact⟨mA,⟨od,es,ep,k _ _ (.inl rfl) e,c⟩,r⟩
 |rng lo hi=>obtain⟨t,u,v,e⟩:=x;exact⟨t,u,v,k _ _ (.inl rfl) e⟩
 |frz ob u ih=>obtain⟨e,q⟩:=x;exact⟨k _ _ (.inl rfl) e,ih q⟩
 |tbl ps =>
  have e:h.get? a=some {cls:=.none,data:=.fields ps}:=x
  show h'.get? a=some {cls:=.none,data:=.fields ps}
  exact k a _ (.inl rfl) e
 |met f y =>
  have e:h.get? a=some (methodObj (.ref f) (.ref y)):=x
  show h'.get? a=some (methodObj (.ref f) (.ref y))
  exact k a _ (.inl rfl) e
 |ext φ=>obtain⟨p,⟨o,e⟩,st⟩:=x;exact⟨st _ _ p λo q=>k _ _ (.inl rfl) q,⟨o,k _ _ (.inl rfl) e⟩,st⟩
theorem HOk.lt(x:HOk P w H h)(e:H a=some o):a<h.objs.size:=(x a o e).lt
theorem HOk.fresh(x:HOk P w H h)(e:h.objs.size<=a):H a=none:=by
 cases q:H a with
 |none=>rfl
 |some u=>exact absurd (UC (x.lt q) e) (Tu _)
theorem HOk.kept(x:HOk P w H h)(k:∀b u,h.get? b=some u->h'.get? b=some u):HOk P w H h':=λa o e =>
 (x a o e).stay (λb u _ q=>k b u q) (λ_ q=>q) λ_ _ q=>q
theorem HOk.laid(x:HOk P w H h)(k:∀b u,h.get? b=some u->h'.get? b=some u)(hp:h.objs.size<=a)(new:ObjOk P w (upd H a o) h' a o):HOk P w (upd H a o) h':=λb u e=>by
 have hn:=x.fresh hp
 by_cases hb:b=a
 ·subst hb;rw[Qr]at e;cases e;exact new
 ·rw[QF hb]at e
  exact(x b u e).stay (λc v _ q=>k c v q) (λc q=>by rw[QF (Q3 q hn)];exact q) λc xs q=>by rw[QF (Q3 q hn)];exact q
end
def Rd(H:Hp)(a:Addr)(u:HO):Prop:=H a=some u\/∃o,H a=some (.frz o u)
theorem Rd.of{H:Hp}{a:Addr}{u:HO}(h:H a=some u):Rd H a u:=.inl h
theorem Rd.ok{P:Program}{w:World}{H:Hp}{h:Heap}{a:Addr}{u:HO}(r:Rd H a u)(x:HOk P w H h):ObjOk P w H h a u:=by
 rcases r with r|⟨o,r⟩
 ·exact x a u r
 ·obtain⟨_,q⟩:=x a _ r
  exact q
noncomputable def Mut:Option HO->Prop
 |some (.lst _)=>True
 |some (.dK _)=>True
 |some (.dT _)=>True
 |some (.set _ _)=>True
 |some (.ins _ _ _)=>True
 |some (.ext _)=>True
 |_=>False
section
variable{P:Program}{w:World}{H:Hp}{h h':Heap}{x e:Addr}{o':HO}
theorem HOk.write(ok:HOk P w H h)(mu:Mut (H x))(he:e=x\/H e=some (.own x))(k:∀b u,b≠e->h.get? b=some u->h'.get? b=some u)(heo:∃u,h'.get? e=some u)(new:ObjOk P w (upd H x o') h' x o'):HOk P w (upd H x o') h':=λb u q=>by
 have nown:∀c y,H c=some (.own y)->c≠x:=λc y r z=>by subst z;rw[r]at mu;exact mu
 have ntup:∀c xs,H c=some (.tup xs)->c≠x:=λc xs r z=>by subst z;rw[r]at mu;exact mu
 by_cases hb:b=x
 ·subst hb;rw[Qr]at q;cases q;exact new
 ·rw[QF hb]at q
  by_cases hbe:b=e
  ·have q':H b=some (.own x):=by
    rcases he with z|z
    ·exact absurd (hbe.trans z) hb
    ·rw[hbe];exact z
   rw[q]at q';cases q'
   obtain⟨v,hv⟩:=heo
   exact⟨v,by rw[hbe];exact hv⟩
  ·refine(ok b u q).stay (λc v hc r=>k c v ?_ r) (λc r=>by rw[QF (nown c b r)];exact r) λc xs r=>by rw[QF (ntup c xs r)];exact r
   rcases hc with rfl|hc
   ·exact hbe
   ·rintro rfl
    rcases he with z|z
    ·exact nown c b hc z
    ·rw[hc]at z;cases z;exact hb rfl
end
structure Un(fs ex:List Addr)(H H':Hp)(h h':Heap):Prop where
 keep:∀b o,h.get? b=some o->H b=none->b∉fs->b∉ex->h'.get? b=some o
 slot:∀b o,h.get? b=some o->H b=none->b∈fs->b∉ex->∃sl,h'.get? b=some {o with slots:=sl}
 free:∀b o,h.get? b=some o->H b=none->b∉ex->H' b=none
 there:∀b o,h.get? b=some o->b∉ex->∃o',h'.get? b=some o'
 tups:∀b xs,H b=some (.tup xs)->H' b=some (.tup xs)
 frzs:∀b o u,H b=some (.frz o u)->H' b=some (.frz o u)
 tbls:∀b ps,H b=some (.tbl ps)->∃more,H' b=some (.tbl (ps++more))
section
variable{fs fs' ex ex':List Addr}{H H1 H2:Hp}{h h1 h2 h':Heap}{a x e:Addr}{o:HO}
theorem Un.any(u:Un fs ex H H1 h h1){b:Addr}{ob:Obj}(q:h.get? b=some ob)(n:H b=none)(hx:b∉ex):∃sl,h1.get? b=some {ob with slots:=sl}:=by
 by_cases hb:b∈fs
 ·exact u.slot b ob q n hb hx
 ·exact⟨ob.slots,u.keep b ob q n hb hx⟩
theorem Un.trans(a:Un fs ex H H1 h h1)(b:Un fs ex H1 H2 h1 h2):Un fs ex H H2 h h2 where
 keep:=λc ob q n hc hx=>b.keep c ob (a.keep c ob q n hc hx) (a.free c ob q n hx) hc hx
 slot:=λc ob q n hc hx=>by
  obtain⟨sl,e1⟩:=a.slot c ob q n hc hx
  obtain⟨sl',e2⟩:=b.slot c _ e1 (a.free c ob q n hx) hc hx
  exact⟨sl',e2⟩
 free:=λc ob q n hx=>by
  obtain⟨o',e1⟩:=a.there c ob q hx
  exact b.free c o' e1 (a.free c ob q n hx) hx
 there:=λc ob q hx=>by
  obtain⟨o',e1⟩:=a.there c ob q hx
  exact b.there c o' e1 hx
 tups:=λc xs q=>b.tups c xs (a.tups c xs q)
 frzs:=λc ob xs q=>b.frzs c ob xs (a.frzs c ob xs q)
 tbls:=λc ps q=>by
  obtain⟨m1,e1⟩:=a.tbls c ps q
  obtain⟨m2,e2⟩:=b.tbls c _ e1
  exact⟨m1++m2,by rw[e2,RJ]⟩
theorem Un.kept(k:∀b u,h.get? b=some u->h'.get? b=some u):Un fs ex H H h h' :=
 ⟨λb ob q _ _ _=>k b ob q,λb ob q _ _ _=>⟨ob.slots,k b ob q⟩,λ_ _ _ n _=>n,λb ob q _=>⟨ob,k b ob q⟩,λ_ _ q=>q,λ_ _ _ q=>q,λ_ ps q=>⟨#[],by rw[q];simp⟩⟩
theorem Un.refl:Un fs ex H H h h:=Un.kept λ_ _ q=>q
theorem Un.laid(k:∀b u,h.get? b=some u->h'.get? b=some u)(hp:h.objs.size<=a)(hn:H a=none):Un fs ex H (upd H a o) h h' where
 keep:=λb u q _ _ _=>k b u q
 slot:=λb u q _ _ _=>⟨u.slots,k b u q⟩
 free:=λb u q n _=>by rw[QF (UP (UC (Uk q) hp))];exact n
 there:=λb u q _=>⟨u,k b u q⟩
 tups:=λb xs q=>by rw[QF (Q3 q hn)];exact q
 frzs:=λb u xs q=>by rw[QF (Q3 q hn)];exact q
 tbls:=λb ps q=>⟨#[],by rw[QF (Q3 q hn),q];simp⟩
theorem Un.write(mu:Mut (H x))(he:e=x\/H e=some (.own x))(k:∀b u,b≠e->h.get? b=some u->h'.get? b=some u)(heo:∃u,h'.get? e=some u):Un fs ex H (upd H x o) h h':=by
 have hx:∀b,H b=none->b≠x:=λb n z=>by subst z;rw[n]at mu;exact mu
 have hb:∀b,H b=none->b≠e:=λb n z=>by
  subst z
  rcases he with r|r
  ·exact hx b n r
  ·rw[n]at r;cases r
 have hm:∀b u,H b=some u->¬Mut (some u)->b≠x:=λb u q nm z=>by subst z;rw[q]at mu;exact nm mu
 refine⟨λb u q n _ _=>k b u (hb b n) q,λb u q n _ _=>⟨u.slots,k b u (hb b n) q⟩,λb u q n _=>by rw[QF (hx b n)];exact n,λb u q _=>?_,
  λb xs q=>by rw[QF (hm b _ q λz=>z)];exact q,λb u xs q=>by rw[QF (hm b _ q λz=>z)];exact q,λb ps q=>⟨#[],by rw[QF (hm b _ q λz=>z),q];simp⟩⟩
 by_cases hbe:b=e
 ·subst hbe;exact heo
 ·exact⟨u,k b u hbe q⟩
theorem Un.mono(u:Un fs ex H H1 h h1)(hs:∀b∈fs,b∈fs')(hx:∀b∈ex,b∈ex'):Un fs' ex' H H1 h h1 :=
 ⟨λb ob q n hb he=>u.keep b ob q n (λz=>hb (hs b z)) λz=>he (hx b z),λ_ _ q n _ he=>u.any q n λz=>he (hx _ z),λb ob q n he=>u.free b ob q n λz=>he (hx b z),λb ob q he=>u.there b ob q λz=>he (hx b z),u.tups,u.frzs,u.tbls⟩
end
noncomputable def trk(h:Heap)(H:Hp):List Addr:=(List.range h.objs.size).filter λa=>(H a).isSome
noncomputable def hidT(h:Heap)(H:Hp):Heap:=hideAll h (trk h H)
theorem Qhf(h:Heap)(H:Hp):(hidT h H).objs.size=h.objs.size:=hideAll_size _ _
theorem Qjp{h:Heap}{H:Hp}{b:Addr}{o:Obj}(e:h.get? b=some o)(n:H b=none):(hidT h H).get? b=some o :=
 hideAll_get _ e λhm=>by
  have q:(H b).isSome=true:=(List.mem_filter.mp hm).2
  rw[n]at q;simp at q
theorem QkY{h:Heap}{H:Hp}{b:Addr}{o:Obj}(e:(hidT h H).get? b=some o):h.get? b=some o/\H b=none:=by
 have e':h.get? b=some o:=of_hideAll (trk h H) e
 refine⟨e',?_⟩
 cases q:H b with
 |none=>rfl
 |some x =>
  have hm:b∈trk h H:=List.mem_filter.mpr ⟨RO.mpr (Uk e'),by simp[q]⟩
  have z:(hidT h H).get? b=none:=hideAll_none (trk h H) hm
  rw[z]at e;cases e
noncomputable def QkZ(g h:Heap)(L:Addr):List (Addr×Obj):=(List.range h.objs.size).filterMap λa=>if a=L\/(g.get? a).isSome=true then none else (h.get? a).map λo=>(a,o)
noncomputable def rest(g h:Heap)(L d:Addr):List (Addr×Obj):=(QkZ g h L).filter λp=>decide (p.1≠d)
end
section
structure Mod(K:Frag)(mg:Str->Option Value)(base:Heap):Prop where
 kin:K.In base
 glob:base.Ns mainGlobals mg
 blt:∃mb,base.Ns builtinsNs mb/\∀x:Str,x ≠ "__name__" -> mb x=bootBuiltins x
 nolimit:base.NoLimit
/-- the context: a def's body (or a comprehension's block) running. base: fixed through the whole law;s₀,H₀: the entry;outer: the frames whose slots others may change (a def's callers);stack: all frames that run;
   ex: iterators that were made ahead of the entry and are walked here (a comprehension's);fn: the names whose cells were made at the entry (a def: all;a comprehension's block: its own);calm: not within an except suite;pn: pins that every state bears;xe: what is wanted of an exception that leaves the code -/
structure Cx where
 prog:Program
 w:World
 K:Frag
 mg:Str->Option Value
 base:Heap
 A:Around
 N:List Str
 s₀:Shared
 H₀:Hp
 env:Env
 outer:List Env
 stack:List Env
 ex:List Addr
 fn:Str->Bool
 calm:Bool
 pn:List (Addr×Obj)
 xe:Value->Shared->Prop
noncomputable def frs(l:List Env):List Addr:=l.filterMap (·.frame)
noncomputable abbrev Cx.fs(X:Cx):List Addr:=frs X.outer
def Vis(sc:Scope)(x:Str):Prop:=sc.names.lookup x=some .local\/sc.names.lookup x=some .cell\/sc.names.lookup x=some .free
def Loc(sc:Scope)(x:Str):Prop:=sc.names.lookup x=some .local\/sc.names.lookup x=some .cell
noncomputable def Look(env:Env)(h:Heap)(m:Str->Option Value)(x:Str)(u:Value):Prop :=
 (env.kindOf x=some .local/\m x=some u)\/((env.kindOf x=some .cell\/env.kindOf x=some .free)/\∃c,env.cells.lookup x=some c/\h.IsCell c (some u))
structure Cx.Ok(X:Cx):Prop where
 mod:Mod X.K X.mg X.base
 kind:X.env.scope.kind=.function
 glob:X.env.globals=mainGlobals
 blt:X.env.builtins=builtinsNs
 above:X.s₀.heap.objs.size<=X.env.locals
 inj:∀x y c,X.env.cells.lookup x=some c->X.env.cells.lookup y=some c->x=y
 has:∀x,(X.env.kindOf x=some .cell\/X.env.kindOf x=some .free)->∃c,X.env.cells.lookup x=some c
 cab:∀x c,X.fn x=true->X.env.cells.lookup x=some c->X.s₀.heap.objs.size<=c
 hd:X.calm=true->X.A.handled=none
 frames:X.A.frames=some X.stack
 stk:X.stack=X.outer\/(X.stack=X.env::X.outer/\X.env.frame=some X.env.locals)
 exf:∀b∈X.ex,b≠X.env.locals/\∀x c,X.env.cells.lookup x=some c->c≠b
 bs:∀b o,X.base.get? b=some o->X.s₀.heap.get? b=some o/\X.H₀ b=none
 bsz:X.base.objs.size<=X.s₀.heap.objs.size
 noex:∀b o,X.base.get? b=some o->b∉X.ex
 exfs:∀b∈X.ex,b∉X.fs
 funs:X.s₀.heap.FunFrames X.base X.outer
 frf:∀b∈X.fs,X.H₀ b=none
structure Inv(X:Cx)(pins:List (Addr×Obj))(σ:List (Option V))(H:Hp)(s:Shared):Prop where
 ok:X.Ok
 os:s.os=X.s₀.os
 bare:AllBare s.gens
 base:Un X.fs X.ex X.H₀ H X.s₀.heap s.heap
 loc:∃m,s.heap.Ns X.env.locals m/\∀(i:Nat)(x:Str)(v:V),X.N[i]?=some x->σ[i]?=some (some v)->Vis X.env.scope x->∃u,RelV v u/\Look X.env s.heap m x u
 cell:∀x c,X.env.cells.lookup x=some c->∃v,s.heap.IsCell c v
 free:H X.env.locals=none
 freeC:∀x c,X.env.cells.lookup x=some c->H c=none
 pin:∀p∈X.pn++pins,s.heap.get? p.1=some p.2/\H p.1=none/\p.1≠X.env.locals/\p.1∉X.fs/\∀v,p.2.data≠.cell v
 hok:HOk X.prog X.w H s.heap
 len:σ.length=X.N.length
section
variable{X:Cx}{pins:List (Addr×Obj)}{σ:List (Option V)}{H H':Hp}{s:Shared}{h':Heap}
theorem Cx.Ok.nofr(ok:X.Ok){b:Addr}{o:Obj}(e:X.base.get? b=some o):b∉X.fs:=λhb=>by
 have:=(ok.funs.mem hb).1
 rw[e]at this;cases this
theorem Inv.bs(I:Inv X pins σ H s):∀b o,X.base.get? b=some o->s.heap.get? b=some o/\H b=none:=λb o e =>
 ⟨I.base.keep b o (I.ok.bs b o e).1 (I.ok.bs b o e).2 (I.ok.nofr e) (I.ok.noex b o e),I.base.free b o (I.ok.bs b o e).1 (I.ok.bs b o e).2 (I.ok.noex b o e)⟩
theorem Inv.bk(I:Inv X pins σ H s):∀b o,X.base.get? b=some o->s.heap.get? b=some o:=λb o e=>(I.bs b o e).1
theorem Inv.mod(I:Inv X pins σ H s):Mod X.K X.mg X.base:=I.ok.mod
theorem Inv.kIn(I:Inv X pins σ H s):X.K.In s.heap:=I.ok.mod.kin.keeps I.bk
theorem Inv.nolimit(I:Inv X pins σ H s):s.heap.NoLimit:=I.ok.mod.nolimit.keeps I.bk
theorem Inv.fr(I:Inv X pins σ H s):∃m,Fr X.base X.env.locals s.heap m :=
 let ⟨m,hn,_⟩:=I.loc
 ⟨m,hn,I.bk,Ur I.ok.bsz I.ok.above⟩
theorem Inv.lt(I:Inv X pins σ H s):X.env.locals<s.heap.objs.size:=let ⟨_,hn,_⟩:=I.loc;hn.lt
theorem Inv.sz(I:Inv X pins σ H s):X.s₀.heap.objs.size<=s.heap.objs.size:=Ur I.ok.above (UY I.lt)
theorem Inv.nofs(I:Inv X pins σ H s){a:Addr}(h:s.heap.objs.size<=a):a∉X.fs:=λhb=>by
 obtain⟨_,o,ho,_⟩:=I.ok.funs.mem hb
 exact absurd (UC (Uk ho) (Ur I.sz h)) (Tu _)
theorem Inv.cne(I:Inv X pins σ H s):∀x c,X.env.cells.lookup x=some c->c≠X.env.locals:=λx c e z=>by
 obtain⟨v,o,ho,hd⟩:=I.cell x c e
 obtain⟨m,⟨o',es,ep,ho',hd',_⟩,_⟩:=I.loc
 rw[z,ho']at ho;cases ho;rw[hd']at hd;cases hd
theorem Inv.funs(I:Inv X pins σ H s):s.heap.FunFrames X.base X.outer:=by
 have all:∀(l:List Env),(∀b∈frs l,b∈X.fs)->X.s₀.heap.FunFrames X.base l->s.heap.FunFrames X.base l:=by
  intro l
  induction l with
  |nil=>intro _ _;trivial
  |cons env r ih =>
   intro hs hl
   obtain⟨hk,⟨L,o,hf,hn,ho,hd⟩,hr⟩:=hl
   have hL:L∈X.fs:=hs L (by unfold frs;rw[Tq,hf];exact UG)
   obtain⟨sl,e⟩:=I.base.slot L o ho (I.ok.frf L hL) hL λz=>I.ok.exfs L z hL
   exact⟨hk,⟨L,_,hf,hn,e,hd⟩,ih (λb hb=>hs b (by unfold frs;rw[Tq,hf];exact Uv _ hb)) hr⟩
 exact all X.outer (λ_ hb=>hb) I.ok.funs
theorem Inv.stack(I:Inv X pins σ H s):s.heap.FunFrames X.base X.stack:=by
 rcases I.ok.stk with e|⟨e,hf⟩
 ·rw[e];exact I.funs
 ·rw[e]
  obtain⟨m,hn,_⟩:=I.loc
  refine .cons (by rw[I.ok.kind];decide) hf hn ?_ I.funs
  exact Heap.get?_none_of_le (Ur I.ok.bsz I.ok.above)
theorem Inv.stkSub(I:Inv X pins σ H s):∀b∈frs X.stack,b∈X.env.locals::X.fs:=λb hb=>by
 rcases I.ok.stk with e|⟨e,hf⟩
 ·rw[e]at hb;exact Uv _ hb
 ·rw[e]at hb
  unfold frs at hb
  rw[Tq,hf]at hb
  exact hb
theorem Inv.stkFree(I:Inv X pins σ H s):∀b∈frs X.stack,H b=none:=λb hb=>by
 rcases Uu.mp (I.stkSub b hb) with e|hb
 ·rw[e];exact I.free
 ·obtain⟨_,o,ho,_⟩:=I.ok.funs.mem hb
  exact I.base.free b o ho (I.ok.frf b hb) λz=>I.ok.exfs b z hb
theorem Inv.step{g':Array GenState}{t':Nat}{d':Drawn}{ch:List Addr}(I:Inv X pins σ H s)(hch:∀b∈ch,(b∈X.ex\/X.s₀.heap.objs.size<=b)/\b≠X.env.locals/\(∀x c,X.env.cells.lookup x=some c->c≠b)/\∀p∈X.pn++pins,p.1≠b)(keep:∀b o,b≠X.env.locals->b∉X.fs->b∉ch->s.heap.get? b=some o->H b=none->h'.get? b=some o)(slot:∀b o,b≠X.env.locals->b∈X.fs->b∉ch->s.heap.get? b=some o->H b=none->∃sl,h'.get? b=some {o with slots:=sl})(free:∀b o,b∉ch->s.heap.get? b=some o->H b=none->H' b=none)(there:∀b o,b∉ch->s.heap.get? b=some o->∃o',h'.get? b=some o')(tups:∀b xs,H b=some (.tup xs)->H' b=some (.tup xs))(frzs:∀b o u,H b=some (.frz o u)->H' b=some (.frz o u))(tbls:∀b ps,H b=some (.tbl ps)->∃more,H' b=some (.tbl (ps++more)))(ns:∀m,s.heap.Ns X.env.locals m->h'.Ns X.env.locals m)(hok:HOk X.prog X.w H' h')(hg:AllBare g'):
  Inv X pins σ H' {s with heap:=h',gens:=g',drawn:=d',toks:=t'}:=by
 have neL:∀b o,X.s₀.heap.get? b=some o->b≠X.env.locals:=λb o e=>UP (UC (Uk e) I.ok.above)
 have neC:∀b o,X.s₀.heap.get? b=some o->b∉X.ex->b∉ch:=λb o e hx hb=>by
  rcases(hch b hb).1 with z|z
  ·exact hx z
  ·exact absurd (UC (Uk e) z) (Tu _)
 have cellK:∀x c,X.env.cells.lookup x=some c->∀v,s.heap.IsCell c v->h'.IsCell c v:=λx c e v ⟨o,ho,hd⟩=>by
  have nch:c∉ch:=λz=>(hch c z).2.2.1 x c e rfl
  by_cases hc:c∈X.fs
  ·obtain⟨sl,q⟩:=slot c o (I.cne x c e) hc nch ho (I.freeC x c e)
   exact⟨_,q,hd⟩
  ·exact⟨o,keep c o (I.cne x c e) hc nch ho (I.freeC x c e),hd⟩
 refine⟨I.ok,I.os,hg,⟨λb o e n hb hx=>?_,λb o e n hb hx=>?_,λb o e n hx=>?_,λb o e hx=>?_,λb xs e=>tups b xs (I.base.tups b xs e),λb o xs e=>frzs b o xs (I.base.frzs b o xs e),λb ps e=>?_⟩,?_,λx c e=>?_,?_,λx c e=>?_,λp hp=>?_,hok,I.len⟩
 ·exact keep b o (neL b o e) hb (neC b o e hx) (I.base.keep b o e n hb hx) (I.base.free b o e n hx)
 ·obtain⟨sl,e1⟩:=I.base.slot b o e n hb hx
  obtain⟨sl',e2⟩:=slot b _ (neL b o e) hb (neC b o e hx) e1 (I.base.free b o e n hx)
  exact⟨sl',e2⟩
 ·obtain⟨o',e1⟩:=I.base.there b o e hx
  exact free b o' (neC b o e hx) e1 (I.base.free b o e n hx)
 ·obtain⟨o',e1⟩:=I.base.there b o e hx
  exact there b o' (neC b o e hx) e1
 ·obtain⟨m1,e1⟩:=I.base.tbls b ps e
  obtain⟨m2,e2⟩:=tbls b _ e1
  exact⟨m1++m2,by rw[e2,RJ]⟩
 ·obtain⟨m,hn,hl⟩:=I.loc
  refine⟨m,ns m hn,λi x v e1 e2 e3=>?_⟩
  obtain⟨u,r,l⟩:=hl i x v e1 e2 e3
  refine⟨u,r,?_⟩
  rcases l with l|⟨k,c,e,z⟩
  ·exact .inl l
  ·exact .inr ⟨k,c,e,cellK x c e _ z⟩
 ·obtain⟨v,z⟩:=I.cell x c e
  exact⟨v,cellK x c e v z⟩
 ·obtain⟨m,⟨o,_,_,ho,_⟩,_⟩:=I.loc
  exact free _ o (λz=>(hch _ z).2.1 rfl) ho I.free
 ·obtain⟨v,o,ho,hd⟩:=I.cell x c e
  exact free c o (λz=>(hch c z).2.2.1 x c e rfl) ho (I.freeC x c e)
 ·obtain⟨e,n,ne,nf,d⟩:=I.pin p hp
  have nch:p.1∉ch:=λz=>(hch p.1 z).2.2.2 p hp rfl
  exact⟨keep p.1 p.2 ne nf nch e n,free p.1 p.2 nch e n,ne,nf,d⟩
theorem Inv.un{t':Nat}(I:Inv X pins σ H s)(u:Un X.fs [] H H' s.heap h')(hok:HOk X.prog X.w H' h'):Inv X pins σ H' {s with heap:=h',toks:=t'}:=by
 obtain⟨m,⟨o,es,ep,ho,r⟩,_⟩:=id I.loc
 obtain⟨sl,hL⟩:=u.any ho I.free (by simp)
 exact I.step (g':=s.gens) (d':=s.drawn) (ch:=[]) (λ_ z=>nomatch z) (λb o _ hb _ e n=>u.keep b o e n hb (by simp)) (λb o _ hb _ e n=>u.slot b o e n hb (by simp)) (λb o _ e n=>u.free b o e n (by simp)) (λb o _ e=>u.there b o e (by simp)) u.tups u.frzs u.tbls (λm' hm=>by
  obtain⟨o',es',ep',ho',r'⟩:=hm
  rw[ho]at ho';cases ho'
  exact⟨_,es',ep',hL,r'⟩) hok I.bare
theorem Inv.call{g':Array GenState}{t':Nat}{d':Drawn}{ch:List Addr}(I:Inv X pins σ H s)(u:Un (frs X.stack) ch H H' s.heap h')(hok:HOk X.prog X.w H' h')(hg:AllBare g')(hch:∀b∈ch,(b∈X.ex\/X.s₀.heap.objs.size<=b)/\b≠X.env.locals/\(∀x c,X.env.cells.lookup x=some c->c≠b)/\∀p∈X.pn++pins,p.1≠b):
  Inv X pins σ H' {s with heap:=h',gens:=g',drawn:=d',toks:=t'}:=by
 obtain⟨m,⟨o,es,ep,ho,r⟩,_⟩:=id I.loc
 obtain⟨sl,hL⟩:=u.any ho I.free λz=>(hch _ z).2.1 rfl
 exact I.step (ch:=ch) hch (λb o hL hb hc e n=>u.keep b o e n (λz=>(Uu.mp (I.stkSub b z)).elim hL hb) hc) (λb o _ _ hc e n=>u.any e n hc) (λb o hc e n=>u.free b o e n hc) (λb o hc e=>u.there b o e hc) u.tups u.frzs u.tbls (λm' hm=>by
  obtain⟨o',es',ep',ho',r'⟩:=hm
  rw[ho]at ho';cases ho'
  exact⟨_,es',ep',hL,r'⟩) hok hg
theorem Inv.turned{t':Nat}{it:Addr}(I:Inv X pins σ H s)(k:∀b o,b≠it->s.heap.get? b=some o->h'.get? b=some o)(hn:H it=none)(hL:it≠X.env.locals)(h1:it∈X.ex\/X.s₀.heap.objs.size<=it)(h2:∀x c,X.env.cells.lookup x=some c->c≠it)(h3:∀p∈X.pn++pins,p.1≠it):Inv X pins σ H {s with heap:=h',toks:=t'}:=by
 have nit:∀b u,H b=some u->b≠it:=λb u e z=>by rw[z,hn]at e;cases e
 refine I.step (g':=s.gens) (d':=s.drawn) (ch:=[it]) (λb hb=>?_) (λb o _ _ hc e _=>k b o (λz=>hc (by simp[z])) e) (λb o _ _ hc e _=>⟨o.slots,k b o (λz=>hc (by simp[z])) e⟩) (λ_ _ _ _ n=>n)
  (λb o hc e=>⟨o,k b o (λz=>hc (by simp[z])) e⟩) (λ_ _ e=>e) (λ_ _ _ e=>e) (λb ps e=>⟨#[],by rw[e];simp⟩) (λm hm=>?_) (λb u e=>?_) I.bare
 ·have e:b=it:=by simpa using hb
  subst e
  exact⟨h1,hL,h2,h3⟩
 ·obtain⟨o,es,ep,ho,r⟩:=hm
  exact⟨o,es,ep,k _ o (Ne.symm hL) ho,r⟩
 ·refine(I.hok b u e).stay (λc v hc q=>k c v ?_ q) (λ_ q=>q) λ_ _ q=>q
  rcases hc with z|z
  ·rw[z];exact nit b u e
  ·exact nit c _ z
theorem Inv.tok(I:Inv X pins σ H s)(t:Nat):Inv X pins σ H {s with toks:=t}:=I.un (h':=s.heap) (t':=t) Un.refl I.hok
theorem Inv.kept{t':Nat}(I:Inv X pins σ H s)(k:∀b u,s.heap.get? b=some u->h'.get? b=some u):Inv X pins σ H {s with heap:=h',toks:=t'}:=I.un (Un.kept k) (I.hok.kept k)
theorem Inv.laid{a:Addr}{o:HO}{t':Nat}(I:Inv X pins σ H s)(k:∀b u,s.heap.get? b=some u->h'.get? b=some u)(hp:s.heap.objs.size<=a)(new:ObjOk X.prog X.w (upd H a o) h' a o):
  Inv X pins σ (upd H a o) {s with heap:=h',toks:=t'}:=I.un (Un.laid k hp (I.hok.fresh hp)) (I.hok.laid k hp new)
theorem Inv.write{x e:Addr}{o:HO}{t':Nat}(I:Inv X pins σ H s)(mu:Mut (H x))(he:e=x\/H e=some (.own x))(k:∀b u,b≠e->s.heap.get? b=some u->h'.get? b=some u)(heo:∃u,h'.get? e=some u)(new:ObjOk X.prog X.w (upd H x o) h' x o):Inv X pins σ (upd H x o) {s with heap:=h',toks:=t'}:=I.un (Un.write mu he k heo) (I.hok.write mu he k heo new)
theorem Inv.pins_of{pins':List (Addr×Obj)}(I:Inv X pins σ H s)(h:∀p∈pins',s.heap.get? p.1=some p.2/\H p.1=none/\p.1≠X.env.locals/\p.1∉X.fs/\∀v,p.2.data≠.cell v):Inv X pins' σ H s :=
 ⟨I.ok,I.os,I.bare,I.base,I.loc,I.cell,I.free,I.freeC,λp hp=>(UB.mp hp).elim (λz=>I.pin p (Ta _ z)) (h p),I.hok,I.len⟩
theorem QfJ{N:List Str}(hN:N.Nodup){i j:Nat}{x:Str}(a:N[i]?=some x)(b:N[j]?=some x):i=j:=by
 obtain⟨h1,e1⟩:=Ud.mp a
 obtain⟨h2,e2⟩:=Ud.mp b
 exact(Wf hN).mp (e1.trans e2.symm)
theorem Qhg{M:Model}{A:Around}{E:Value->Shared->Prop}{i:Nat}{x:Str}{v:V}{u:Value}{Q:Unit->Shared->Prop}(I:Inv X pins σ H s)(hN:X.N.Nodup)(hi:X.N[i]?=some x)(hx:Loc X.env.scope x)(r:RelV v u)(h:∀s',Inv X pins (σ.set i (some v)) H s'->(∃a,Heap.SameBut a s.heap s'.heap/\(a=X.env.locals\/X.env.cells.lookup x=some a))->Q () s')(hf:X.fn x=true\/X.env.scope.names.lookup x=some .local:=by first|exact .inl rfl|exact .inr rfl|assumption):wpAny M A (storeName X.env x u) Q E s:=by
 obtain⟨m,hn,hl⟩:=id I.loc
 have hcls:(X.env.scope.kind == .class || (X.env.scope.kind == .module && X.env.locals != X.env.globals))=false:=by rw[I.ok.kind];rfl
 have hiσ:i<σ.length:=by rw[I.len];exact(Ud.mp hi).1
 have cne:=I.cne
 have tracked:∀{a:Addr}{h':Heap},(∃o,s.heap.get? a=some o/\H a=none)->Heap.SameBut a s.heap h'->HOk X.prog X.w H h':=λ{a h'} ha hs b ob e=>by
  obtain⟨_,_,hfree⟩:=ha
  refine(I.hok b ob e).stay (λc w' hc q=>(hs.2 c ?_).trans q) (λ_ q=>q) λ_ _ q=>q
  rintro rfl
  rcases hc with rfl|hc
  ·rw[hfree]at e;cases e
  ·rw[hfree]at hc;cases hc
 rcases hx with hk|hk
 ·refine wpAny_storeName_local hk hn (λh' hn' hs=>?_) hcls
  obtain⟨oL,_,_,hoL,_⟩:=id hn
  refine h _ ⟨I.ok,I.os,I.bare,⟨λb o e n hb hx=>?_,λb o e n hb hx=>?_,I.base.free,λb o e hx=>?_,I.base.tups,I.base.frzs,I.base.tbls⟩,⟨_,hn',λj y v' e1 e2 e3=>?_⟩,λy c e=>?_,I.free,I.freeC,λp hp=>?_,tracked ⟨oL,hoL,I.free⟩ hs,by simpa using I.len⟩ ⟨_,hs,.inl rfl⟩
  ·exact(hs.2 b (UP (UC (Uk e) I.ok.above))).trans (I.base.keep b o e n hb hx)
  ·obtain⟨sl,e1⟩:=I.base.slot b o e n hb hx
   exact⟨sl,(hs.2 b (UP (UC (Uk e) I.ok.above))).trans e1⟩
  ·obtain⟨o',e1⟩:=I.base.there b o e hx
   exact⟨o',(hs.2 b (UP (UC (Uk e) I.ok.above))).trans e1⟩
  ·by_cases hj:j=i
   ·subst hj
    rw[hi]at e1;cases e1
    rw[U0 hiσ]at e2
    cases e2
    exact⟨u,r,.inl ⟨hk,by simp⟩⟩
   ·rw[Uo (Ne.symm hj)]at e2
    obtain⟨u',r',q⟩:=hl j y v' e1 e2 e3
    refine⟨u',r',?_⟩
    rcases q with⟨k,e⟩|⟨k,c,e,z⟩
    ·refine .inl ⟨k,?_⟩
     have:y≠x:=λe=>hj (QfJ hN e1 (e ▸ hi))
     simp[this,e]
    ·exact .inr ⟨k,c,e,z.sameBut hs (cne y c e)⟩
  ·obtain⟨w',z⟩:=I.cell y c e
   exact⟨w',z.sameBut hs (cne y c e)⟩
  ·obtain⟨e,n,ne,nf,d⟩:=I.pin p hp
   exact⟨(hs.2 p.1 ne).trans e,n,ne,nf,d⟩
 ·have hfn:X.fn x=true:=by
   rcases hf with z|z
   ·exact z
   ·rw[z]at hk;cases hk
  obtain⟨c,hc⟩:=I.ok.has x (.inl hk)
  obtain⟨w',z⟩:=I.cell x c hc
  refine wpAny_storeName_cell I.ok.kind hk hc z (λh' hc' hs=>?_)
  obtain⟨oc,hoc,hocd⟩:=id z
  refine h {s with heap:=h'} ⟨I.ok,I.os,I.bare,⟨λb o e n hb hx=>?_,λb o e n hb hx=>?_,I.base.free,λb o e hx=>?_,I.base.tups,I.base.frzs,I.base.tbls⟩,⟨m,hn.sameBut hs (Ne.symm (cne x c hc)),λj y v' e1 e2 e3=>?_⟩,λy c' e=>?_,I.free,I.freeC,λp hp=>?_,tracked ⟨oc,hoc,I.freeC x c hc⟩ hs,by simpa using I.len⟩ ⟨c,hs,.inr hc⟩
  ·exact(hs.2 b (UP (UC (Uk e) (I.ok.cab x c hfn hc)))).trans (I.base.keep b o e n hb hx)
  ·obtain⟨sl,e1⟩:=I.base.slot b o e n hb hx
   exact⟨sl,(hs.2 b (UP (UC (Uk e) (I.ok.cab x c hfn hc)))).trans e1⟩
  ·obtain⟨o',e1⟩:=I.base.there b o e hx
   exact⟨o',(hs.2 b (UP (UC (Uk e) (I.ok.cab x c hfn hc)))).trans e1⟩
  ·by_cases hj:j=i
   ·subst hj
    rw[hi]at e1;cases e1
    rw[U0 hiσ]at e2
    cases e2
    exact⟨u,r,.inr ⟨.inl hk,c,hc,hc'⟩⟩
   ·rw[Uo (Ne.symm hj)]at e2
    obtain⟨u',r',q⟩:=hl j y v' e1 e2 e3
    refine⟨u',r',?_⟩
    rcases q with q|⟨k,c',e,z'⟩
    ·exact .inl q
    ·refine .inr ⟨k,c',e,z'.sameBut hs ?_⟩
     rintro rfl
     exact hj (QfJ hN e1 (I.ok.inj _ _ _ e hc ▸ hi))
  ·by_cases hcc:c'=c
   ·subst hcc;exact⟨_,hc'⟩
   ·obtain⟨w2,z2⟩:=I.cell y c' e
    exact⟨w2,z2.sameBut hs hcc⟩
  ·obtain⟨e,n,ne,nf,d⟩:=I.pin p hp
   refine⟨(hs.2 p.1 ?_).trans e,n,ne,nf,d⟩
   intro q
   rw[q,hoc]at e
   have q':oc=p.2:=Option.some.inj e
   exact d w' (by rw[<-q'];exact hocd)
theorem Qdi{M:Model}{A:Around}{E:Value->Shared->Prop}{i:Nat}{x:Str}{v:V}{u:Value}{Q:Unit->Shared->Prop}(I:Inv X pins σ H s)(hN:X.N.Nodup)(hi:X.N[i]?=some x)(hx:Loc X.env.scope x)(r:RelV v u)(h:∀s',Inv X pins (σ.set i (some v)) H s'->Q () s')(hf:X.fn x=true\/X.env.scope.names.lookup x=some .local:=by first|exact .inl rfl|exact .inr rfl|assumption):wpAny M A (storeName X.env x u) Q E s :=
 Qhg I hN hi hx r (λs' I' _=>h s' I') hf
theorem Inv.call'{s':Shared}{ch:List Addr}(I:Inv X pins σ H s)(ho:s'.os=s.os)(u:Un (frs X.stack) ch H H' s.heap s'.heap)(hok:HOk X.prog X.w H' s'.heap)(hg:AllBare s'.gens)(hch:∀b∈ch,(b∈X.ex\/X.s₀.heap.objs.size<=b)/\b≠X.env.locals/\(∀x c,X.env.cells.lookup x=some c->c≠b)/\∀p∈X.pn++pins,p.1≠b):Inv X pins σ H' s':=by
 obtain⟨h',g',d',t',o'⟩:=s'
 have e:o'=s.os:=ho
 subst e
 exact I.call (g':=g') (t':=t') (d':=d') u hok hg hch
end
noncomputable abbrev XK:=Value->Option Addr->Hp->Prop
noncomputable abbrev St:=List (Option V)
noncomputable abbrev VK:=V->Hp->Prop
noncomputable abbrev TE:=St->Hp->VK->Prop
noncomputable abbrev TT:=St->Hp->(Bool->Hp->Prop)->Prop
noncomputable abbrev TA:=St->Hp->(List V->Hp->Prop)->Prop
structure Ends where
 nx:St->Hp->Prop
 rt:VK
 bk:St->Hp->Prop:=λ_ _=>False
 ct:St->Hp->Prop:=λ_ _=>False
noncomputable abbrev TS:=Ends->St->Hp->Prop
def EP(X:Cx)(pins:List (Addr×Obj))(σ:St)(Q:VK)(u:Value)(s':Shared):Prop:=∃v H',Inv X pins σ H' s'/\RelV v u/\Q v H'
def TP(X:Cx)(pins:List (Addr×Obj))(σ:St)(Q:Bool->Hp->Prop)(b:Bool)(s':Shared):Prop:=∃H',Inv X pins σ H' s'/\Q b H'
def AP(X:Cx)(pins:List (Addr×Obj))(σ:St)(Q:List V->Hp->Prop)(us:List Value)(s':Shared):Prop:=∃vs H',Inv X pins σ H' s'/\Vals vs us/\Q vs H'
noncomputable def SP(X:Cx)(pins:List (Addr×Obj))(D:Ends)(f:Flow)(s':Shared):Prop :=
 match f with
 |.next=>∃σ' H',Inv X pins σ' H' s'/\D.nx σ' H'
 |.brk=>∃σ' H',Inv X pins σ' H' s'/\D.bk σ' H'
 |.cont=>∃σ' H',Inv X pins σ' H' s'/\D.ct σ' H'
 |.ret u=>∃v σ' H',Inv X pins σ' H' s'/\RelV v u/\D.rt v H'
noncomputable def PE(X:Cx)(e:Expr)(t:TE):Prop :=
 ∀(pins:List (Addr×Obj))(s:Shared)(σ:St)(H:Hp)(Q:VK),Inv X pins σ H s->t σ H Q->wpAny (model X.prog X.w) X.A (eval e X.env) (EP X pins σ Q) X.xe s
noncomputable def PT(X:Cx)(e:Expr)(t:TT):Prop :=
 ∀(pins:List (Addr×Obj))(s:Shared)(σ:St)(H:Hp)(Q:Bool->Hp->Prop),Inv X pins σ H s->t σ H Q->wpAny (model X.prog X.w) X.A (isTrue e X.env (eval e X.env)) (TP X pins σ Q) X.xe s
noncomputable def PW(X:Cx)(e:Expr)(t:TT):Prop :=
 ∀(whole:Sem Value)(pins:List (Addr×Obj))(s:Shared)(σ:St)(H:Hp)(Q:Bool->Hp->Prop),Inv X pins σ H s->t σ H Q->wpAny (model X.prog X.w) X.A (isTrue e X.env whole) (TP X pins σ Q) X.xe s
theorem PW.pt{X:Cx}{e:Expr}{t:TT}(h:PW X e t):PT X e t:=h _
noncomputable def PA(X:Cx)(es:List Expr)(t:TA):Prop :=
 ∀(pos:Pos)(pins:List (Addr×Obj))(s:Shared)(σ:St)(H:Hp)(Q:List V->Hp->Prop),Inv X pins σ H s->t σ H Q->wpAny (model X.prog X.w) X.A (spliced (backTo pos (starEach es X.env))) (AP X pins σ Q) X.xe s
noncomputable def PS(X:Cx)(st:Stmt)(t:TS):Prop :=
 ∀(pins:List (Addr×Obj))(s:Shared)(σ:St)(H:Hp)(D:Ends),Inv X pins σ H s->t D σ H->wpAny (model X.prog X.w) X.A (exec st X.env) (SP X pins D) X.xe s
noncomputable def PSs(X:Cx)(st:List Stmt)(t:TS):Prop :=
 ∀(pins:List (Addr×Obj))(s:Shared)(σ:St)(H:Hp)(D:Ends),Inv X pins σ H s->t D σ H->wpAny (model X.prog X.w) X.A (execs st X.env) (SP X pins D) X.xe s
theorem thn{α:Type}{t:Sem α}{Q Q':α->Shared->Prop}{M:Model}{A:Around}{E:Value->Shared->Prop}{s:Shared}(h:wpAny M A t Q E s)(hQ:∀a s,Q a s->Q' a s):wpAny M A t Q' E s:=U3 h hQ λ_ _ x=>x
end
section
section
variable{X:Cx}
noncomputable def tVar(i:Nat):TE:=λσ H Q=>∃v,σ[i]?=some (some v)/\Q v H
noncomputable def tC(v:V):TE:=λ_ H Q=>Q v H
theorem Ql8{i:Nat}{x:Str}{pos:Pos}(hN:X.N[i]?=some x)(hv:Vis X.env.scope x)(hd:(x == ("__debug__" : Str))=false:=by decide)(hcd:(x == ("__classdict__" : Str))=false:=by decide):PE X (.Name x pos) (tVar i):=by
 intro pins s σ H Q I h
 obtain⟨v,e,h⟩:=h
 obtain⟨m,hn,hl⟩:=I.loc
 obtain⟨u,r,l⟩:=hl i x v hN e hv
 have fin:EP X pins σ Q u s:=⟨v,H,I,r,h⟩
 rcases l with⟨hk,hm⟩|⟨hk,c,hc,hcell⟩
 ·exact wpAny_Name (wpAny_loadName_local I.ok.kind hk hn hm fin) hd
 ·rcases hk with hk|hk
  ·exact wpAny_Name (wpAny_loadName_cell I.ok.kind hk hc hcell fin) hd
  ·exact wpAny_Name (wpAny_loadName_free I.ok.kind hk hc hcell fin hcd) hd
theorem Ql9{i j pos}:PE X (.Constant (.int i) j pos) (tC (.int i)):=λ_ _ _ H _ I h=>wpAny_Constant_int ⟨.int i,H,I.tok _,⟨_,rfl⟩,h⟩
theorem QnI{b j pos}:PE X (.Constant (.bool b) j pos) (tC (.bl b)):=λ_ _ _ H _ I h=>Constant_bool ⟨.bl b,H,I,rfl,h⟩
theorem Qma{j pos}:PE X (.Constant .none j pos) (tC .non):=λ_ _ _ H _ I h=>Constant_none ⟨.non,H,I,rfl,h⟩
theorem Qmb{x j pos}:PE X (.Constant (.str x) j pos) (tC (.str x)):=λ_ _ _ H _ I h=>Calls.Constant_str ⟨.str x,H,I.tok _,⟨_,rfl⟩,h⟩
def Gl(X:Cx)(x:Str):Prop:=X.env.kindOf x=some .globalImplicit
theorem QbR{E:Value->Shared->Prop}{pins:List (Addr×Obj)}{s:Shared}{σ:St}{H:Hp}{x:Str}{u:Value}{pos:Pos}{Q:Value->Shared->Prop}(I:Inv X pins σ H s)(hg:Gl X x)(hm:X.mg x=some u)(h:Q u s)(hd:(x == ("__debug__" : Str))=false:=by decide):wpAny (model X.prog X.w) X.A (eval (.Name x pos) X.env) Q E s :=
 RF I.ok.kind hg (Calls.loadGlobal_global (by rw[I.ok.glob];exact I.mod.glob.keeps I.bk) hm h) hd
theorem Qd8{E:Value->Shared->Prop}{pins:List (Addr×Obj)}{s:Shared}{σ:St}{H:Hp}{x:Str}{u:Value}{pos:Pos}{Q:Value->Shared->Prop}(I:Inv X pins σ H s)(hg:Gl X x)(hm:X.mg x=none)(hv:bootBuiltins x=some u)(h:Q u s)(hn:x ≠ "__name__":=by decide)(hd:(x == ("__debug__" : Str))=false:=by decide):wpAny (model X.prog X.w) X.A (eval (.Name x pos) X.env) Q E s:=by
 obtain⟨mb,h1,h2⟩:=I.mod.blt
 exact RF I.ok.kind hg (Calls.loadGlobal_builtin (by rw[I.ok.glob];exact I.mod.glob.keeps I.bk) hm (by rw[I.ok.blt];exact h1.keeps I.bk) ((h2 x hn).trans hv) h) hd
theorem Qhh{x:Str}{v:V}{u:Value}{pos:Pos}(hg:Gl X x)(hm:X.mg x=some u)(r:RelV v u)(hd:(x == ("__debug__" : Str))=false:=by decide):PE X (.Name x pos) (tC v) :=
 λ_ _ _ H _ I h=>QbR I hg hm ⟨v,H,I,r,h⟩ hd
theorem Qe5{x:Str}{v:V}{u:Value}{pos:Pos}(hg:Gl X x)(hm:X.mg x=none)(hv:bootBuiltins x=some u)(r:RelV v u)(hn:x ≠ "__name__":=by decide)(hd:(x == ("__debug__" : Str))=false:=by decide):PE X (.Name x pos) (tC v) :=
 λ_ _ _ H _ I h=>Qd8 I hg hm hv ⟨v,H,I,r,h⟩ hn hd
variable{a b:Expr}{ta tb:TE}{pos:Pos}
noncomputable def tB(t:TE):TT:=λσ H Q=>t σ H λx H1=>∃c,x=.bl c/\Q c H1
theorem Qmc{e:Expr}{t:TE}(h:PE X e t)(he:∀whole,isTrue e X.env whole=(do let v <-whole;standAt e.pos;holding [v] (truthy v)):=by intro _;rfl):PT X e (tB t):=by
 intro pins s σ H Q I hw
 refine isTrue_plain (thn (h pins s σ H _ I hw) λv s1 ⟨x,H1,I1,r1,q1⟩=>?_) (he _)
 obtain⟨d,rfl,q⟩:=q1
 cases r1
 exact TF ⟨H1,I1,q⟩
variable{tA tB':TT}{rest:List Expr}
noncomputable def tAnd(t u:TT):TT:=λσ H Q=>t σ H λc H1=>if c=true then u σ H1 Q else Q false H1
noncomputable def tOr(t u:TT):TT:=λσ H Q=>t σ H λc H1=>if c=true then Q true H1 else u σ H1 Q
noncomputable def tNot(t:TT):TT:=λσ H Q=>t σ H λc H1=>Q (!c) H1
theorem Qk0(ha:PT X a tA):PW X (.BoolOp .And [a] pos) tA:=by
 intro wh pins s σ H Q I h
 refine isTrue_and (thn (ha pins s σ H Q I h) λc s1 e=>?_)
 cases c with
 |true=>exact isTrue_and_nil e
 |false=>exact e
theorem Qmd(ha:PT X a tA):PW X (.BoolOp .Or [a] pos) tA:=by
 intro wh pins s σ H Q I h
 refine isTrue_or (thn (ha pins s σ H Q I h) λc s1 e=>?_)
 cases c with
 |false=>exact isTrue_or_nil e
 |true=>exact e
theorem Qme(ha:PT X a tA)(hb:PW X (.BoolOp .And (b::rest) pos) tB'):PW X (.BoolOp .And (a::b::rest) pos) (tAnd tA tB'):=by
 intro wh pins s σ H Q I h
 refine isTrue_and (thn (ha pins s σ H _ I h) λc s1 ⟨H1,I1,q1⟩=>?_)
 cases c with
 |true=>exact hb wh pins s1 σ H1 Q I1 q1
 |false=>exact⟨H1,I1,q1⟩
theorem QnJ(ha:PT X a tA)(hb:PW X (.BoolOp .Or (b::rest) pos) tB'):PW X (.BoolOp .Or (a::b::rest) pos) (tOr tA tB'):=by
 intro wh pins s σ H Q I h
 refine isTrue_or (thn (ha pins s σ H _ I h) λc s1 ⟨H1,I1,q1⟩=>?_)
 cases c with
 |true=>exact⟨H1,I1,q1⟩
 |false=>exact hb wh pins s1 σ H1 Q I1 q1
theorem Qmf(ha:PT X a tA):PT X (.UnaryOp .Not a pos) (tNot tA):=by
 intro pins s σ H Q I h
 exact isTrue_not (ha pins s σ H (λc H1=>Q (!c) H1) I h)
noncomputable def QnK(ta tb:TE):TE:=λσ H Q=>ta σ H λx H1=>∃c,x=.bl c/\if c=true then tb σ H1 Q else Q (.bl false) H1
noncomputable def QnL(ta:TE):TE:=λσ H Q=>ta σ H λx H1=>∃c,x=.bl c/\Q (.bl (!c)) H1
theorem Qmg{op}{t:TE}(h:PE X a t):PE X (.BoolOp op [a] pos) t:=λpins s σ H Q I hw=>BoolOp_one (h pins s σ H Q I hw)
theorem Qmh(ha:PE X a ta)(hb:PE X (.BoolOp .And (b::rest) pos) tb):PE X (.BoolOp .And (a::b::rest) pos) (QnK ta tb):=by
 intro pins s σ H Q I h
 refine BoolOp_and (thn (ha pins s σ H _ I h) λv s1 ⟨x,H1,I1,r1,q1⟩=>?_)
 obtain⟨c,rfl,q1⟩:=q1
 cases r1
 refine TF ?_
 cases c with
 |true=>exact hb pins s1 σ H1 Q I1 q1
 |false=>exact⟨.bl false,H1,I1,rfl,q1⟩
theorem Qmi(ha:PE X a ta):PE X (.UnaryOp .Not a pos) (QnL ta):=by
 intro pins s σ H Q I h
 refine UnaryOp_ (thn (ha pins s σ H _ I h) λv s1 ⟨x,H1,I1,r1,q1⟩=>?_)
 obtain⟨c,rfl,q1⟩:=q1
 cases r1
 exact not_of (TF ⟨.bl (!c),H1,I1,rfl,q1⟩)
noncomputable def tIf(t:TT)(ta tb:TE):TE:=λσ H Q=>t σ H λc H1=>if c=true then ta σ H1 Q else tb σ H1 Q
theorem Qjq{c:Expr}(hc:PT X c tA)(ha:PE X a ta)(hb:PE X b tb):PE X (.IfExp c a b pos) (tIf tA ta tb):=by
 intro pins s σ H Q I h
 refine wpAny_IfExp (thn (hc pins s σ H _ I h) λd s1 ⟨H1,I1,q1⟩=>?_)
 cases d with
 |true=>exact ha pins s1 σ H1 Q I1 q1
 |false=>exact hb pins s1 σ H1 Q I1 q1
end
end
section
noncomputable def SqL(K:Frag)(H:Hp)(a:Addr)(xs:List V):Prop :=
 Rd H a (.lst xs) \/
  ∃(o:Obj)(its:Array Value)(n:Nat),K.lookup a=some o/\o.cls=.type "list" /\ o.dict=none/\o.data=.seq its n/\its.size<=sizeLine/\Vals xs its.toList
noncomputable def SqT(K:Frag)(H:Hp)(a:Addr)(xs:List V):Prop :=
 Rd H a (.tup xs) \/
  ∃(o:Obj)(its:Array Value)(n:Nat),K.lookup a=some o/\o.cls=.type "tuple" /\ o.data=.seq its n/\its.size<=sizeLine/\Vals xs its.toList
noncomputable def absV:Value->Option V
 |.none=>some .non
 |.bool b=>some (.bl b)
 |.int i _=>some (.int i)
 |.str x _=>some (.str x)
 |.bytes b _=>some (.byt b)
 |.float b _=>some (.flt b)
 |.ref a=>some (.ref a)
 |.type n=>some (.ty n)
 |_=>none
theorem RelV.abs{x:V}{u:Value}(r:RelV x u):absV u=some x:=by
 cases x with
 |non=>cases r;rfl
 |bl _=>cases r;rfl
 |int _=>obtain⟨t,rfl⟩:=r;rfl
 |str _=>obtain⟨t,rfl⟩:=r;rfl
 |byt _=>obtain⟨t,rfl⟩:=r;rfl
 |flt _=>obtain⟨t,rfl⟩:=r;rfl
 |ref _=>cases r;rfl
 |ty _=>cases r;rfl
theorem RelV.inj{x y:V}{u:Value}(r:RelV x u)(q:RelV y u):x=y:=Option.some.inj (r.abs.symm.trans q.abs)
theorem Vals.inj:∀{xs ys:List V}{us:List Value},Vals xs us->Vals ys us->xs=ys
 |_,_,_,.nil,.nil=>rfl
 |_,_,_,.cons r t,.cons r' t'=>by rw[r.inj r',Vals.inj t t']
section
variable{X:Cx}{pins:List (Addr×Obj)}{σ:St}{H:Hp}{s:Shared}{a:Addr}{xs ys:List V}
theorem SqL.of{K:Frag}(h:H a=some (.lst xs)):SqL K H a xs:=.inl (.inl h)
theorem SqT.of{K:Frag}(h:H a=some (.tup xs)):SqT K H a xs:=.inl (.inl h)
theorem Inv.list(I:Inv X pins σ H s)(h:SqL X.K H a xs):∃its:List Value,Vals xs its/\PlainL s.heap a its.toArray/\xs.length<=sizeLine:=by
 rcases h with h|⟨o,its,n,hk,hc,hd,hs,hz,r⟩
 ·obtain⟨z,its,n,r,e⟩:=h.ok I.hok
  exact⟨its,r,⟨_,n,e,rfl,rfl,rfl⟩,z⟩
 ·refine⟨its.toList,r,⟨o,n,I.kIn a o hk,hc,hd,by simpa using hs⟩,?_⟩
  have e:=r.length
  simp only[Tr]at e
  omega
theorem Inv.tuple(I:Inv X pins σ H s)(h:SqT X.K H a xs):∃its:List Value,Vals xs its/\IsTup s.heap a its.toArray/\xs.length<=sizeLine:=by
 rcases h with h|⟨o,its,n,hk,hc,hs,hz,r⟩
 ·obtain⟨z,its,r,p⟩:=h.ok I.hok
  exact⟨its,r,p,z⟩
 ·refine⟨its.toList,r,⟨o,I.kIn a o hk,hc,n,by simpa using hs⟩,?_⟩
  have e:=r.length
  simp only[Tr]at e
  omega
theorem Inv.list_inj(I:Inv X pins σ H s)(h:SqL X.K H a xs)(h':SqL X.K H a ys):xs=ys:=by
 obtain⟨its,r,⟨o,n,e,_,_,d⟩,_⟩:=I.list h
 obtain⟨its',r',⟨o',n',e',_,_,d'⟩,_⟩:=I.list h'
 rw[e]at e';cases e'
 rw[d]at d'
 injection d' with d1 _
 have:its=its':=by simpa using Rn Array.toList d1
 subst this
 exact r.inj r'
theorem Inv.tuple_inj(I:Inv X pins σ H s)(h:SqT X.K H a xs)(h':SqT X.K H a ys):xs=ys:=by
 obtain⟨its,r,⟨o,e,_,n,d⟩,_⟩:=I.tuple h
 obtain⟨its',r',⟨o',e',_,n',d'⟩,_⟩:=I.tuple h'
 rw[e]at e';cases e'
 rw[d]at d'
 injection d' with d1 _
 have:its=its':=by simpa using Rn Array.toList d1
 subst this
 exact r.inj r'
end
noncomputable abbrev Cx.wish(X:Cx)(E:Value->Shared->Prop):Cx:={X with xe:=E}
noncomputable abbrev Cx.nox(X:Cx):Cx:=X.wish λ_ _=>False
theorem Cx.Ok.wish{X:Cx}(ok:X.Ok)(E:Value->Shared->Prop):(X.wish E).Ok :=
 ⟨ok.mod,ok.kind,ok.glob,ok.blt,ok.above,ok.inj,ok.has,ok.cab,ok.hd,ok.frames,ok.stk,ok.exf,ok.bs,ok.bsz,ok.noex,ok.exfs,ok.funs,ok.frf⟩
theorem Cx.Ok.unwish{X:Cx}{E:Value->Shared->Prop}(ok:(X.wish E).Ok):X.Ok :=
 ⟨ok.mod,ok.kind,ok.glob,ok.blt,ok.above,ok.inj,ok.has,ok.cab,ok.hd,ok.frames,ok.stk,ok.exf,ok.bs,ok.bsz,ok.noex,ok.exfs,ok.funs,ok.frf⟩
section
variable{X:Cx}{pins:List (Addr×Obj)}{σ:St}{H:Hp}{s:Shared}{E:Value->Shared->Prop}
theorem Inv.wish(I:Inv X pins σ H s)(E:Value->Shared->Prop):Inv (X.wish E) pins σ H s:=⟨I.ok.wish E,I.os,I.bare,I.base,I.loc,I.cell,I.free,I.freeC,I.pin,I.hok,I.len⟩
theorem Inv.unwish(I:Inv (X.wish E) pins σ H s):Inv X pins σ H s:=⟨I.ok.unwish,I.os,I.bare,I.base,I.loc,I.cell,I.free,I.freeC,I.pin,I.hok,I.len⟩
theorem SP.unwish{D:Ends}{f:Flow}{s':Shared}(h:SP (X.wish E) pins D f s'):SP X pins D f s':=by
 cases f with
 |next=>obtain⟨σ',H',I,q⟩:=h;exact⟨σ',H',I.unwish,q⟩
 |brk=>obtain⟨σ',H',I,q⟩:=h;exact⟨σ',H',I.unwish,q⟩
 |cont=>obtain⟨σ',H',I,q⟩:=h;exact⟨σ',H',I.unwish,q⟩
 |ret u=>obtain⟨v,σ',H',I,r,q⟩:=h;exact⟨v,σ',H',I.unwish,r,q⟩
theorem PE.nox{e:Expr}{t:TE}(h:PE X.nox e t):PE X e t:=λpins s σ H Q I hw =>
 U3 (h pins s σ H Q (I.wish _) hw) (λ_ _ ⟨v,H',I',r,q⟩=>⟨v,H',I'.unwish,r,q⟩) λ_ _ z=>False.elim z
theorem PT.nox{e:Expr}{t:TT}(h:PT X.nox e t):PT X e t:=λpins s σ H Q I hw =>
 U3 (h pins s σ H Q (I.wish _) hw) (λ_ _ ⟨H',I',q⟩=>⟨H',I'.unwish,q⟩) λ_ _ z=>False.elim z
theorem PSs.nox{st:List Stmt}{t:TS}(h:PSs X.nox st t):PSs X st t:=λpins s σ H D I hw =>
 U3 (h pins s σ H D (I.wish _) hw) (λ_ _ q=>q.unwish) λ_ _ z=>False.elim z
end
section
variable{X:Cx}{st:Stmt}{rest:List Stmt}{t u:TS}{e:Expr}{te:TE}{pos:Pos}
noncomputable def QnM:TS:=λD σ H=>D.nx σ H
noncomputable def tSeq(t u:TS):TS:=λD σ H=>t {D with nx:=u D} σ H
theorem Qhi:PSs X [] QnM:=λ_ _ σ H _ I h=>Rw ⟨σ,H,I,h⟩
theorem Qjr(h1:PS X st t)(h2:PSs X rest u):PSs X (st::rest) (tSeq t u):=by
 intro pins s σ H D I h
 refine wpAny_execs_cons (thn (h1 pins s σ H {D with nx:=u D} I h) λf s1 q=>?_)
 cases f with
 |next =>
  obtain⟨σ',H',I',q⟩:=q
  exact h2 pins s1 σ' H' D I' q
 |ret v=>exact q
 |brk=>exact q
 |cont=>exact q
theorem Qk1(h1:PS X st t):PSs X [st] t:=by
 intro pins s σ H D I h
 refine wpAny_execs_cons (thn (h1 pins s σ H D I h) λf s1 q=>?_)
 cases f with
 |next=>exact Rw q
 |ret v=>exact q
 |brk=>exact q
 |cont=>exact q
theorem Inv.quiet{pins:List (Addr×Obj)}{σ:St}{H:Hp}{s:Shared}(I:Inv X pins σ H s):interactive X.env=false:=by simp[interactive,I.ok.kind]
noncomputable def QnN(te:TE):TS:=λD σ H=>te σ H λ_ H1=>D.nx σ H1
theorem Qk2(he:PE X e te)(hs:swapsWith e none pos.line X.env=pure false:=by rfl):PS X (.Expr e pos) (QnN te):=by
 intro pins s σ H D I h
 exact wpAny_Expr_any (thn (he pins s σ H _ I h) λv s1 ⟨x,H1,I1,r1,q1⟩=>⟨σ,H1,I1,q1⟩) I.quiet hs
noncomputable def tRet(te:TE):TS:=λD σ H=>te σ H D.rt
theorem Qmj(he:PE X e te):PS X (.Return (some e) pos) (tRet te):=by
 intro pins s σ H D I h
 exact wpAny_Return_some (thn (he pins s σ H _ I h) λv s1 ⟨x,H1,I1,r1,q1⟩=>⟨x,σ,H1,I1,r1,q1⟩)
noncomputable def tIfS(c:TT)(t u:TS):TS:=λD σ H=>c σ H λb H1=>if b=true then t D σ H1 else u D σ H1
theorem QnO{c:Expr}{a b:List Stmt}{tc:TT}(hc:PT X c tc)(ha:PSs X a t)(hb:PSs X b u):PS X (.If c a b pos) (tIfS tc t u):=by
 intro pins s σ H D I h
 refine wpAny_If (thn (hc pins s σ H _ I h) λd s1 ⟨H1,I1,q1⟩=>?_)
 cases d with
 |true=>exact ha pins s1 σ H1 D I1 q1
 |false=>exact hb pins s1 σ H1 D I1 q1
end
noncomputable abbrev TG:=V->St->Hp->(St->Hp->Prop)->Prop
noncomputable abbrev TGs:=List V->St->Hp->(St->Hp->Prop)->Prop
noncomputable def PG(X:Cx)(target:Expr)(t:TG):Prop :=
 ∀(pins:List (Addr×Obj))(s:Shared)(σ:St)(H:Hp)(v:V)(u:Value)(Q:St->Hp->Prop),Inv X pins σ H s->RelV v u->t v σ H Q ->
  wpAny (model X.prog X.w) X.A (assign target X.env u) (λ_ s'=>∃σ' H',Inv X pins σ' H' s'/\Q σ' H') X.xe s
noncomputable def PGs(X:Cx)(ts:List Expr)(t:TGs):Prop :=
 ∀(pins:List (Addr×Obj))(s:Shared)(σ:St)(H:Hp)(vs:List V)(us:List Value)(Q:St->Hp->Prop),Inv X pins σ H s->Vals vs us->t vs σ H Q ->
  wpAny (model X.prog X.w) X.A (assignInOrder ((assignEach ts X.env).map (·.2)) us) (λ_ s'=>∃σ' H',Inv X pins σ' H' s'/\Q σ' H') X.xe s
noncomputable abbrev TSet:=V->V->V->Hp->(Hp->Prop)->Prop
noncomputable def PSet(X:Cx)(t:TSet):Prop :=
 ∀(pins:List (Addr×Obj))(s:Shared)(σ:St)(H:Hp)(o i v:V)(ov iv u:Value)(Q:Hp->Prop),Inv X pins σ H s->RelV o ov->RelV i iv->RelV v u->t o i v H Q ->
  wpAny (model X.prog X.w) X.A (setItem ov iv u) (λ_ s'=>∃H',Inv X pins σ H' s'/\Q H') X.xe s
section
variable{X:Cx}{pos:Pos}
noncomputable def Qmk(i:Nat):TG:=λv σ H Q=>Q (σ.set i (some v)) H
theorem Qk3{i:Nat}{x:Str}(hN:X.N.Nodup)(hi:X.N[i]?=some x)(hx:Loc X.env.scope x)(hf:X.fn x=true\/X.env.scope.names.lookup x=some .local:=by first|exact .inl rfl|exact .inr rfl|assumption):PG X (.Name x pos) (Qmk i):=by
 intro pins s σ H v u Q I r h
 exact wpAny_assign_Name (Qdi I hN hi hx r (λs' I'=>⟨_,H,I',h⟩) hf)
noncomputable def gNil:TGs:=λvs σ H Q=>vs=[]/\Q σ H
noncomputable def QnP(t:TG)(u:TGs):TGs:=λvs σ H Q=>∃v r,vs=v::r/\t v σ H λσ' H'=>u r σ' H' Q
theorem Qk4:PGs X [] gNil:=by
 intro pins s σ H vs us Q I r h
 obtain⟨e,h⟩:=h
 subst e
 cases r
 exact assignInOrder_nil ⟨σ,H,I,h⟩
theorem Qjs{e:Expr}{es:List Expr}{t:TG}{u:TGs}(h1:PG X e t)(h2:PGs X es u)(hs:(assignEach (e::es) X.env).map (·.2)=assign e X.env::(assignEach es X.env).map (·.2):=by rfl):PGs X (e::es) (QnP t u):=by
 intro pins s σ H vs us Q I r h
 obtain⟨v,vr,e1,h⟩:=h
 subst e1
 cases r with
 |cons r rr =>
  rw[hs]
  refine assignInOrder_cons (thn (h1 pins s σ H _ _ _ I r h) λ_ s1 ⟨σ1,H1,I1,q1⟩=>?_)
  exact h2 pins s1 σ1 H1 _ _ Q I1 rr q1
noncomputable def gTup(K:Frag)(n:Nat)(t:TGs):TG:=λv σ H Q=>∃a xs,v=.ref a/\SqT K H a xs/\xs.length=n/\t xs σ H Q
theorem Qml{es:List Expr}{k:Nat}{t:TGs}{n:Nat}(hc:X.calm=true)(h:PGs X es t)(hn:(assignEach es X.env).length=n:=by rfl)(hst:(assignEach es X.env).findIdx? (·.1)=none:=by rfl):PG X (.Tuple es k pos) (gTup X.K n t):=by
 intro pins s σ H v u Q I r hw
 obtain⟨a,xs,e1,hq,hl,hw⟩:=hw
 subst e1
 cases r
 obtain⟨its,rv,ht,hz⟩:=I.tuple hq
 refine assign_Tuple_tuple (I.ok.hd hc) ht (by simp[hn,<-hl,rv.length]) hst λh' hx=>?_
 have I1:Inv X pins σ H {s with heap:=h'}:=I.kept (t':=s.toks) λb o e=>hx b o (UP (Uk e)) e
 exact h pins _ σ H xs _ Q I1 (by simpa using rv) hw
noncomputable def gSub(to ti:TE)(t:TSet):TG:=λv σ H Q=>to σ H λo H1=>ti σ H1 λi H2=>t o i v H2 λH3=>Q σ H3
theorem Qkq{o i:Expr}{to ti:TE}{t:TSet}(ho:PE X o to)(hi:PE X i ti)(hs:PSet X t)(ha:∀v,assign (.Subscript o i pos) X.env v=(do
   let ov <-holding [v] (eval o X.env)
   let iv <-holding [v,ov] (eval i X.env)
   standAt pos
   holding [v,ov,iv] (setItem ov iv v)
   release [v,ov,iv] []):=by intro _;rfl):PG X (.Subscript o i pos) (gSub to ti t):=by
 intro pins s σ H v u Q I r h
 rw[ha]
 refine Ua (Rr (thn (ho pins s σ H _ I h) λov s1 ⟨x,H1,I1,r1,q1⟩=>?_))
 refine Ua (Rr (thn (hi pins s1 σ H1 _ I1 q1) λiv s2 ⟨y,H2,I2,r2,q2⟩=>?_))
 refine Ua (wpAny_standAt (Ua (Rr (thn (hs pins s2 σ H2 x y v ov iv u _ I2 r1 r2 r q2) λ_ s3 ⟨H3,I3,q3⟩=>?_))))
 exact wpAny_release ⟨σ,H3,I3,q3⟩
noncomputable def tAsg(te:TE)(g:TG):TS:=λD σ H=>te σ H λx H1=>g x σ H1 D.nx
theorem Qhj{tg e:Expr}{te:TE}{g:TG}(he:PE X e te)(hg:PG X tg g)(hs:swapsWithSole [tg] e pos.line X.env=pure false:=by rfl)(hw:swappedStores [tg] e X.env=pure none:=by rfl)(h1:(assignEach [tg] X.env).map (·.2)=[assign tg X.env]:=by rfl):PS X (.Assign [tg] e pos) (tAsg te g):=by
 intro pins s σ H D I h
 refine wpAny_Assign_stores (thn (he pins s σ H _ I h) λv s1 ⟨x,H1,I1,r1,q1⟩=>?_) hs hw
 rw[h1]
 exact thn (hg pins s1 σ H1 x v _ I1 r1 q1) λ_ s2 q=>q
theorem Qmm{i:Nat}{x:Str}{e:Expr}{te:TE}{pos':Pos}(hN:X.N.Nodup)(hi:X.N[i]?=some x)(hx:Loc X.env.scope x)(he:PE X e te)(hs:swapsWith e (some (.Name x pos')) pos.line X.env=pure false:=by rfl)(hf:X.fn x=true\/X.env.scope.names.lookup x=some .local:=by first|exact .inl rfl|exact .inr rfl|assumption):
  PS X (.Assign [.Name x pos'] e pos) (tAsg te (Qmk i)):=by
 intro pins s σ H D I h
 refine wpAny_Assign_Name (thn (he pins s σ H _ I h) λv s1 ⟨y,H1,I1,r1,q1⟩=>?_) hs
 exact Qdi I1 hN hi hx r1 (λs2 I2=>⟨_,H1,I2,q1⟩) hf
end
section
variable{X:Cx}{pos:Pos}
noncomputable def Qmn(c:TT)(tb:TS):TS:=λD σ H=>∃W:Nat->St->Hp->Prop,(∃m,W m σ H)/\∀m σ H,W m σ H ->
 c σ H λb H1=>if b=true then ∃N:St->Hp->Prop,(∀σ' H',N σ' H'->∃m',m'<m/\W m' σ' H')/\tb {D with nx:=N,ct:=N,bk:=D.nx} σ H1 else D.nx σ H1
theorem Qjt{c:Expr}{body:List Stmt}{tc:TT}{tb:TS}(hp:PassesOwn (model X.prog X.w) X.A X.env X.xe)(hc:PT X c tc)(hb:PSs X body tb):PS X (.While c body [] pos) (Qmn tc tb):=by
 intro pins s σ H D I h
 obtain⟨W,⟨m0,w0⟩,turn⟩:=h
 refine wpAny_While (codeAny_whileLoop (λn s'=>∃σ' H',Inv X pins σ' H' s'/\W n σ' H') ?_ m0 ⟨σ,H,I,w0⟩)
 rintro n s1 ⟨σ1,H1,I1,w1⟩
 refine TC hp (thn (hc pins s1 σ1 H1 _ I1 (turn n σ1 H1 w1)) λb s2 ⟨H2,I2,q2⟩=>?_)
 cases b with
 |true =>
  obtain⟨N,hN,q2⟩:=q2
  rw[Ue rfl]
  refine TC hp (thn (hb pins s2 σ1 H2 _ I2 q2) λf s3 q3=>?_)
  cases f with
  |next =>
   obtain⟨σ3,H3,I3,n3⟩:=q3
   obtain⟨m',hm,w3⟩:=hN σ3 H3 n3
   exact⟨m',hm,σ3,H3,I3,w3⟩
  |cont =>
   obtain⟨σ3,H3,I3,n3⟩:=q3
   obtain⟨m',hm,w3⟩:=hN σ3 H3 n3
   exact⟨m',hm,σ3,H3,I3,w3⟩
  |brk=>exact q3
  |ret v=>exact q3
 |false =>
  rw[Uh Uf]
  exact Rw ⟨σ1,H2,I2,q2⟩
end
structure It where
 go:Nat->Hp->Prop
 yld:Nat->Hp->V->Hp->Prop
 stop:Nat->Hp->Prop
noncomputable def FpOk(X:Cx)(pins:List (Addr×Obj))(H:Hp)(b:Addr):Prop :=
 H b=none/\b≠X.env.locals/\b∉X.fs/\(b∈X.ex\/X.s₀.heap.objs.size<=b)/\(∀x c,X.env.cells.lookup x=some c->c≠b)/\∀p∈X.pn++pins,p.1≠b
theorem Inv.fpOk{X:Cx}{pins:List (Addr×Obj)}{σ:St}{H H':Hp}{s:Shared}{b:Addr}(I:Inv X pins σ H s)(hb:s.heap.objs.size<=b)(hn:H' b=none):FpOk X pins H' b:=by
 refine⟨hn,RD (UC I.lt hb),I.nofs hb,.inr (Ur I.sz hb),λx c e z=>?_,λp hp z=>?_⟩
 ·obtain⟨v,q⟩:=I.cell x c e
  exact absurd (UC q.lt (by rw[z];exact hb)) (Tu _)
 ·exact absurd (UC (Uk (I.pin p hp).1) (by rw[z];exact hb)) (Tu _)
structure Turn(P:Program)(w:World)(K:Frag)(tg:Expr)(J:It)(fp:List Addr)(it:Addr)(tn:Nat->Heap->Prop):Prop where
 mem:it∈fp
 obj:∀i h,tn i h->∀b∈fp,∃o,h.get? b=some o/\∀v,o.data≠.cell v
 keep:∀i h h',tn i h->(∀b∈fp,∀o,h.get? b=some o->h'.get? b=some o)->tn i h'
 item:∀(X:Cx),X.prog=P->X.w=w->X.K=K->X.calm=true->∀(i:Nat)(pins:List (Addr×Obj))(s:Shared)(σ:St)(H:Hp)(E:Value->Shared->Prop),Inv X pins σ H s->(∀b∈fp,FpOk X pins H b)->tn i s.heap->J.go i H ->
  wpAny (model P w) X.A (pyNext (.ref it)) (λr s1=>∃u,r=some u /\
   wpAny (model P w) X.A (letOwnedTupleGo tg (.ref it) u) (λ_ s2=>∃x H',Inv X pins σ H' s2/\RelV x u/\J.yld i H x H'/\tn (i+1) s2.heap/\∀b∈fp,H' b=none) E s1) E s
 done:∀(X:Cx),X.prog=P->X.w=w->X.K=K->X.calm=true->∀(i:Nat)(pins:List (Addr×Obj))(s:Shared)(σ:St)(H:Hp)(E:Value->Shared->Prop),Inv X pins σ H s->(∀b∈fp,FpOk X pins H b)->tn i s.heap->J.stop i H ->
  wpAny (model P w) X.A (pyNext (.ref it)) (λr s1=>r=none/\Inv X pins σ H s1) E s
 self:∀(A:Around)(i:Nat)(s:Shared)(Q:Value->Shared->Prop)(E:Value->Shared->Prop),tn i s.heap->Q (.ref it) s->wpAny (model P w) A (pyIter (.ref it)) Q E s
noncomputable abbrev TI:=St->Hp->(It->Hp->Prop)->Prop
noncomputable def PIE(X:Cx)(pins:List (Addr×Obj))(σ:St)(tg:Expr)(R:It->Hp->Prop)(itv:Value)(s2:Shared):Prop :=
 ∃(it:Addr)(fp:List Addr)(tn:Nat->Heap->Prop)(J:It)(H':Hp),itv=.ref it/\Inv X pins σ H' s2/\Turn X.prog X.w X.K tg J fp it tn/\tn 0 s2.heap/\(∀b∈fp,FpOk X pins H' b)/\R J H'
noncomputable def PI(X:Cx)(tg iter:Expr)(wi:TI):Prop :=
 ∀(pins:List (Addr×Obj))(s:Shared)(σ:St)(H:Hp)(R:It->Hp->Prop),Inv X pins σ H s->wi σ H R ->
  wpAny (model X.prog X.w) X.A (eval iter X.env) (λv s1=>wpAny (model X.prog X.w) X.A (pyIter v) (PIE X pins σ tg R) X.xe s1) X.xe s
theorem Qju{M:Model}{A:Around}{E:Value->Shared->Prop}{s:Shared}{tg:Expr}{it:Addr}{u:Value}{o:Obj}{n:String}{vs:Array Value}{Q:Unit->Shared->Prop}(ho:s.heap.get? it=some o)(hc:o.cls=.type n)(hd:o.data=.fields vs)(hn:["enumerate", "zip", "dict_itemiterator", "dict_reverseitemiterator", "odict_iterator", "itertools.zip_longest", "itertools.pairwise"].contains n=false)(hQ:Q () s):wpAny M A (letOwnedTupleGo tg (.ref it) u) Q E s:=by
  unfold letOwnedTupleGo
  cases tg <;> first
    |exact Uj hQ
    | (cases u <;> first
        |exact Uj hQ
        | (refine Ua (wpAny_load ho ?_)
           rw[hc,hd]
           show wpAny M A (if (["enumerate", "zip", "dict_itemiterator", "dict_reverseitemiterator", "odict_iterator", "itertools.zip_longest", "itertools.pairwise"].contains n && vs[0]? == some (rawInt _))=true then _ else _) Q E s
           rw[Uh (by intro h;rw[hn,Bool.false_and]at h;cases h)]
           exact Uj hQ))
noncomputable def Itl(K:Frag)(a:Addr):It :=
 ⟨λi H=>∃xs x,SqL K H a xs/\xs[i]?=some x,λi H x H'=>H'=H/\∀xs,SqL K H a xs->xs[i]?=some x,λi H=>∃xs,SqL K H a xs/\xs.length<=i⟩
noncomputable def Itt(K:Frag)(a:Addr):It :=
 ⟨λi H=>∃xs x,SqT K H a xs/\xs[i]?=some x,λi H x H'=>H'=H/\∀xs,SqT K H a xs->xs[i]?=some x,λi H=>∃xs,SqT K H a xs/\xs.length<=i⟩
noncomputable def Itr(lo:Int)(n:Nat):It:=⟨λi _=>i<n,λi H x H'=>H'=H/\x=.int (lo+i),λi _=>n<=i⟩
theorem Qhk{P:Program}{w:World}{K:Frag}{tg:Expr}(a it:Addr):Turn P w K tg (Itl K a) [it] it (λi h=>h.IsListIter it a i) where
 mem:=by simp
 obj:=λi h st b hb=>by
  have e:b=it:=by simpa using hb
  subst e
  obtain⟨o,e,c,d⟩:=st
  exact⟨o,e,λv z=>by rw[d]at z;cases z⟩
 keep:=λi h h' st k=>st.at λo e=>k it (by simp) o e
 item:=by
  intro X hP hw hK hc i pins s σ H E I hf st hg
  subst hP hw hK
  obtain⟨xs,x,hq,hx⟩:=hg
  obtain⟨its,rv,p,hz⟩:=I.list hq
  obtain⟨u,hu,ru⟩:=rv.get hx
  obtain⟨f0,f1,f2,f3,f4,f5⟩:=hf it (by simp)
  refine wpAny_pyNext_list_item st p.isList (x:=u) (by simpa using hu) λh' st' sb=>?_
  have I1:Inv X pins σ H {s with heap:=h'}:=I.turned (t':=s.toks) (λb o hb e=>(sb.2 b hb).trans e) f0 f1 f3 f4 f5
  obtain⟨o,e,c,d⟩:=id st'
  exact⟨u,rfl,Qju (s:={s with heap:=h'}) e c d (by decide) ⟨x,H,I1,ru,⟨rfl,λys hy=>by rw[I.list_inj hy hq];exact hx⟩,st',λb hb=>(hf b hb).1⟩⟩
 done:=by
  intro X hP hw hK hc i pins s σ H E I hf st hg
  subst hP hw hK
  obtain⟨xs,hq,hx⟩:=hg
  obtain⟨its,rv,p,hz⟩:=I.list hq
  obtain⟨f0,f1,f2,f3,f4,f5⟩:=hf it (by simp)
  have hl:=rv.length
  exact wpAny_pyNext_list_end (I.ok.hd hc) st p.isList (by simp;omega) λh' eb=>⟨rfl,I.turned (t':=s.toks) (λb o hb e=>eb b o hb e) f0 f1 f3 f4 f5⟩
 self:=λ_ _ _ _ _ st h=>wpAny_pyIter_listiter st h
theorem Qgs{P:Program}{w:World}{K:Frag}{tg:Expr}(a it:Addr):Turn P w K tg (Itt K a) [it] it (λi h=>h.IsTupleIter it a i) where
 mem:=by simp
 obj:=λi h st b hb=>by
  have e:b=it:=by simpa using hb
  subst e
  obtain⟨o,e,c,d⟩:=st
  exact⟨o,e,λv z=>by rw[d]at z;cases z⟩
 keep:=λi h h' st k=>st.at λo e=>k it (by simp) o e
 item:=by
  intro X hP hw hK hc i pins s σ H E I hf st hg
  subst hP hw hK
  obtain⟨xs,x,hq,hx⟩:=hg
  obtain⟨its,rv,p,hz⟩:=I.tuple hq
  obtain⟨u,hu,ru⟩:=rv.get hx
  obtain⟨f0,f1,f2,f3,f4,f5⟩:=hf it (by simp)
  refine wpAny_pyNext_tuple_item st (show s.heap.IsTuple a its.toArray from p) (x:=u) (by simpa using hu) λh' st' sb=>?_
  have I1:Inv X pins σ H {s with heap:=h'}:=I.turned (t':=s.toks) (λb o hb e=>(sb.2 b hb).trans e) f0 f1 f3 f4 f5
  obtain⟨o,e,c,d⟩:=id st'
  exact⟨u,rfl,Qju (s:={s with heap:=h'}) e c d (by decide) ⟨x,H,I1,ru,⟨rfl,λys hy=>by rw[I.tuple_inj hy hq];exact hx⟩,st',λb hb=>(hf b hb).1⟩⟩
 done:=by
  intro X hP hw hK hc i pins s σ H E I hf st hg
  subst hP hw hK
  obtain⟨xs,hq,hx⟩:=hg
  obtain⟨its,rv,p,hz⟩:=I.tuple hq
  obtain⟨f0,f1,f2,f3,f4,f5⟩:=hf it (by simp)
  have hl:=rv.length
  exact wpAny_pyNext_tuple_end (I.ok.hd hc) st (show s.heap.IsTuple a its.toArray from p) (by simp;omega) λh' eb=>⟨rfl,I.turned (t':=s.toks) (λb o hb e=>eb b o hb e) f0 f1 f3 f4 f5⟩
 self:=λ_ _ _ _ _ st h=>wpAny_pyIter_tupleiter st h
theorem Qgt{P:Program}{w:World}{K:Frag}{tg:Expr}(it:Addr)(lo:Int)(n:Nat):Turn P w K tg (Itr lo n) [it] it (λi h=>IsRangeIter h it (lo+(i:Nat)*1) ((n:Int) - (i:Nat)) 1) where
 mem:=by simp
 obj:=λi h st b hb=>by
  have e:b=it:=by simpa using hb
  subst e
  exact⟨_,st,λv z=>by
   have z':Data.fields _=Data.cell v:=z
   cases z'⟩
 keep:=λi h h' st k=>k it (by simp) _ st
 item:=by
  intro X hP hw hK hc i pins s σ H E I hf st hg
  subst hP hw hK
  obtain⟨f0,f1,f2,f3,f4,f5⟩:=hf it (by simp)
  have W:=Walks.range (prog:=X.prog) (w:=X.w) (I.ok.hd hc) it lo 1 n
  refine W.item i s _ _ hg st λv h' tk hv st' kk=>?_
  obtain⟨t,rfl⟩:=hv
  have I1:Inv X pins σ H {s with heap:=h',toks:=tk}:=I.turned (λb o hb e=>kk b o (by simpa using hb) e) f0 f1 f3 f4 f5
  refine⟨_,rfl,Qju (s:={s with heap:=h',toks:=tk}) (n:="range_iterator") st' rfl rfl (by decide) ⟨.int (lo+i),H,I1,⟨t,?_⟩,⟨rfl,rfl⟩,st',λb hb=>(hf b hb).1⟩⟩
  rw[Int.mul_one]
 done:=by
  intro X hP hw hK hc i pins s σ H E I hf st hg
  subst hP hw hK
  obtain⟨f0,f1,f2,f3,f4,f5⟩:=hf it (by simp)
  exact wpAny_pyNext_range_end (I.ok.hd hc) st (by have:n<=i:=hg;omega) λh' eb=>⟨rfl,I.turned (t':=s.toks) (λb o hb e=>eb b o hb e) f0 f1 f3 f4 f5⟩
 self:=λ_ _ _ _ _ st h=>wpAny_pyIter_rangeiter st h
end
section
section
variable{X:Cx}{tg:Expr}
theorem Qjv{pins:List (Addr×Obj)}{σ:St}{H:Hp}{s:Shared}{R:It->Hp->Prop}{E:Value->Shared->Prop}{lo hi:Int}{t u v:Tok}{tk:Nat}(I:Inv X pins σ H s)(h1:-(2^62)<=lo)(h2:lo<2^62)(h3:-(2^62)<=hi)(h4:hi<2^62)(q:R (Itr lo (hi-lo).toNat) H):wpAny (model X.prog X.w) X.A (pyIter (.ref s.heap.objs.size)) (PIE X pins σ tg R) E {s with heap:=s.heap.push {cls:=.type "range",data:=.fields #[.int lo t,.int hi u,.int 1 v]},toks:=tk}:=by
 refine wpAny_pyIter_range (IsRange.new ..) (small_one h1 h2 h3 h4) ?_
 have I1:Inv X pins σ H {s with heap:=s.heap.push {cls:=.type "range",data:=.fields #[.int lo t,.int hi u,.int 1 v]},toks:=tk}:=I.kept λb o e=>Ub _ e
 refine⟨(s.heap.push {cls:=.type "range",data:=.fields #[.int lo t,.int hi u,.int 1 v]}).objs.size,[(s.heap.push {cls:=.type "range",data:=.fields #[.int lo t,.int hi u,.int 1 v]}).objs.size],_,_,H,rfl,
  I1.kept (t':=tk) λb o e=>Ub _ e,Qgt _ lo (hi-lo).toNat,?_,λb hb=>?_,q⟩
 ·have e1:lo+((0:Nat):Int)*1=lo:=by simp
  have e2:(((hi-lo).toNat:Nat):Int) - ((0:Nat):Int)=Builtin.Range.rangeSize lo hi 1:=by rw[rangeSize_one];split <;> omega
  show IsRangeIter _ _ (lo+((0:Nat):Int)*1) ((((hi-lo).toNat:Nat):Int) - ((0:Nat):Int)) 1
  rw[e1,e2]
  exact Us _ rfl
 ·have e:b=(s.heap.push {cls:=.type "range",data:=.fields #[.int lo t,.int hi u,.int 1 v]}).objs.size:=by simpa using hb
  subst e
  exact I1.fpOk (Ui _) (I1.hok.fresh (Ui _))
noncomputable def QnQ(ta:TA):TI:=λσ H R=>ta σ H λvs H1=>∃j:Int,vs=[.int j] /\ -(2^62)<=j/\j<2^62/\R (Itr 0 j.toNat) H1
theorem Qhl{a:Expr}{ta:TA}{p pos:Pos}(hg:Gl X "range")(hm:X.mg "range" = none)(ha:PA X [a] ta)(hs:starEach [a] X.env=[(false,eval a X.env)]:=by rfl):PI X tg (.Call (.Name "range" p) [a] [] pos) (QnQ ta):=by
 intro pins s σ H R I h
 refine Call_ (Qd8 I hg hm boot_range (T0 (thn (ha pos pins s σ H _ I h) λus s1 ⟨vs,H1,I1,r1,q1⟩=>?_) hs rfl))
 obtain⟨j,e,q1,q2,q⟩:=q1
 subst e
 cases r1 with
 |cons r rr =>
  cases rr
  obtain⟨t,rfl⟩:=r
  exact call_range_1 (Qjv I1 (by omega) (by omega) q1 q2 (by simpa using q))
noncomputable def tFor(wi:TI)(g:TG)(tb:TS):TS:=λD σ H=>wi σ H λJ H1=>∃W:Nat->Nat->St->Hp->Prop,(∃m,W 0 m σ H1)/\∀i m σ H,W i m σ H ->
 (J.stop i H/\D.nx σ H)\/(J.go i H/\∃N:St->Hp->Prop,(∀σ' H',N σ' H'->∃m',m'<m/\W (i+1) m' σ' H')/\∀x H',J.yld i H x H'->g x σ H' λσ2 H2=>tb {D with nx:=N,ct:=N,bk:=D.nx} σ2 H2)
noncomputable def Qd9(fp:List Addr)(h:Heap):List (Addr×Obj):=fp.filterMap λb=>(h.get? b).map λo=>(b,o)
theorem Qac{fp:List Addr}{h:Heap}{b:Addr}{o:Obj}(hb:b∈fp)(e:h.get? b=some o):(b,o)∈Qd9 fp h:=RK.mpr ⟨b,hb,by rw[e];rfl⟩
theorem Qhm{fp:List Addr}{h:Heap}{p:Addr×Obj}(hp:p∈Qd9 fp h):p.1∈fp/\h.get? p.1=some p.2:=by
 obtain⟨b,hb,e⟩:=RK.mp hp
 cases q:h.get? b with
 |none=>rw[q]at e;cases e
 |some o =>
  rw[q]at e
  have e':(b,o)=p:=Option.some.inj e
  subst e'
  exact⟨hb,q⟩
theorem Inv.pinned{pins:List (Addr×Obj)}{σ:St}{H:Hp}{s:Shared}{fp:List Addr}(I:Inv X pins σ H s)(hf:∀b∈fp,FpOk X pins H b)(ho:∀b∈fp,∃o,s.heap.get? b=some o/\∀v,o.data≠.cell v):Inv X (pins++Qd9 fp s.heap) σ H s :=
 I.pins_of λp hp=>(UB.mp hp).elim (λz=>I.pin p (UA _ z)) λz=>by
  obtain⟨hb,e⟩:=Qhm z
  obtain⟨f0,f1,f2,_⟩:=hf p.1 hb
  obtain⟨o,e',d⟩:=ho p.1 hb
  rw[e]at e';cases e'
  exact⟨e,f0,f1,f2,d⟩
theorem Inv.unpinned{pins pl:List (Addr×Obj)}{σ:St}{H:Hp}{s:Shared}(I:Inv X (pins++pl) σ H s):Inv X pins σ H s:=I.pins_of λp hp=>I.pin p (UA _ (Ta _ hp))
theorem Qmo{iter:Expr}{body:List Stmt}{wi:TI}{g:TG}{tb:TS}{pos:Pos}(hp:PassesOwn (model X.prog X.w) X.A X.env X.xe)(hc:X.calm=true)(hi:PI X tg iter wi)(hg:PG X tg g)(hb:PSs X body tb)(hs:∀x,foldedSetIterable iter X.env x=pure x:=by intro _;rfl):PS X (.For tg iter body [] pos) (tFor wi g tb):=by
 intro pins s σ H D I h
 refine wpAny_For (thn (hi pins s σ H _ I h) λv s1 h1=>thn h1 λitv s2 h2=>?_) hs
 obtain⟨it,fp,tn,J,H2,e,I2,T,st2,f2,W,⟨m0,w0⟩,turn⟩:=h2
 subst e
 -- what stays true of the iterator's objects through the loop
 have stat:∀{H':Hp},(∀b∈fp,H' b=none)->∀b∈fp,FpOk X pins H' b:=λhn b hb=>⟨hn b hb,(f2 b hb).2⟩
 refine codeAny_forLoop_any (λn s'=>∃i σ' H',Inv X pins σ' H' s'/\tn i s'.heap/\(∀b∈fp,H' b=none)/\W i n σ' H') ?_ m0 ⟨0,σ,H2,I2,st2,λb hb=>(f2 b hb).1,w0⟩
 rintro n s3 ⟨i,σ3,H3,I3,st3,fr3,w3⟩
 rcases turn i n σ3 H3 w3 with⟨stop,qn⟩|⟨go,N,hN,step⟩
 ·refine TC hp (thn (T.done X rfl rfl rfl hc i pins s3 σ3 H3 X.xe I3 (stat fr3) st3 stop) λr s4 ⟨hr,I4⟩=>?_)
  subst hr
  exact Rw ⟨σ3,H3,I4,qn⟩
 ·refine TC hp (thn (T.item X rfl rfl rfl hc i pins s3 σ3 H3 X.xe I3 (stat fr3) st3 go) λr s4 ⟨u,hr,h4⟩=>?_)
  subst hr
  refine TC hp (thn h4 λ_ s5 ⟨x,H5,I5,r5,y5,st5,fr5⟩=>?_)
  have I5':=I5.pinned (stat fr5) (T.obj _ _ st5)
  refine TC hp (thn (hg _ s5 σ3 H5 x u _ I5' r5 (step x H5 y5)) λ_ s6 ⟨σ6,H6,I6,q6⟩=>?_)
  refine TC hp (thn (hb _ s6 σ6 H6 _ I6 q6) λf s7 q7=>?_)
  have again:∀{σ7:St}{H7:Hp},Inv X (pins++Qd9 fp s5.heap) σ7 H7 s7->N σ7 H7->∃m,m<n/\∃i σ' H',Inv X pins σ' H' s7/\tn i s7.heap/\(∀b∈fp,H' b=none)/\W i m σ' H':=λ{σ7 H7} I7 n7=>by
   obtain⟨m',hm,w7⟩:=hN σ7 H7 n7
   refine⟨m',hm,i+1,σ7,H7,I7.unpinned,T.keep _ _ _ st5 λb hb o e=>(I7.pin (b,o) (UA _ (UA _ (Qac hb e)))).1,λb hb=>?_,w7⟩
   obtain⟨o,e,d⟩:=T.obj _ _ st5 b hb
   exact(I7.pin (b,o) (UA _ (UA _ (Qac hb e)))).2.1
  cases f with
  |next=>obtain⟨σ7,H7,I7,n7⟩:=q7;exact again I7 n7
  |cont=>obtain⟨σ7,H7,I7,n7⟩:=q7;exact again I7 n7
  |brk=>obtain⟨σ7,H7,I7,q7⟩:=q7;exact⟨σ7,H7,I7.unpinned,q7⟩
  |ret v=>obtain⟨x7,σ7,H7,I7,r7,q7⟩:=q7;exact⟨x7,σ7,H7,I7.unpinned,r7,q7⟩
end
end
section
noncomputable abbrev R2:=V->V->Hp->VK->Prop
noncomputable def OpR(X:Cx)(f:Value->Value->Sem Value)(r:R2):Prop :=
 ∀(pins:List (Addr×Obj))(s:Shared)(σ:St)(H:Hp)(x y:V)(v u:Value)(Q:VK),Inv X pins σ H s->RelV x v->RelV y u->r x y H Q ->
  wpAny (model X.prog X.w) X.A (f v u) (EP X pins σ Q) X.xe s
noncomputable def UnR(X:Cx)(f:Value->Sem Value)(r:V->Hp->VK->Prop):Prop :=
 ∀(pins:List (Addr×Obj))(s:Shared)(σ:St)(H:Hp)(x:V)(v:Value)(Q:VK),Inv X pins σ H s->RelV x v->r x H Q ->
  wpAny (model X.prog X.w) X.A (f v) (EP X pins σ Q) X.xe s
noncomputable def CallR(X:Cx)(f:Value)(r:List V->Hp->VK->Prop):Prop :=
 ∀(pins:List (Addr×Obj))(s:Shared)(σ:St)(H:Hp)(xs:List V)(us:List Value)(Q:VK),Inv X pins σ H s->Vals xs us->r xs H Q ->
  wpAny (model X.prog X.w) X.A (call f us) (EP X pins σ Q) X.xe s
noncomputable def tOp(r:R2)(ta tb:TE):TE:=λσ H Q=>ta σ H λx H1=>tb σ H1 λy H2=>r x y H2 Q
noncomputable def tUn(r:V->Hp->VK->Prop)(ta:TE):TE:=λσ H Q=>ta σ H λx H1=>r x H1 Q
noncomputable def rI(C:Int->Int->Prop)(g:Int->Int->V):R2:=λx y H Q=>∃i j,x=.int i/\y=.int j/\C i j/\Q (g i j) H
noncomputable def rI0(g:Int->Int->V):R2:=λx y H Q=>∃i j,x=.int i/\y=.int j/\Q (g i j) H
noncomputable def rU(g:Int->V):V->Hp->VK->Prop:=λx H Q=>∃i,x=.int i/\Q (g i) H
section
variable{X:Cx}{a b c:Expr}{ta tb tc:TE}{pos:Pos}
theorem binT(ha:PE X a ta)(hb:PE X b tb){pins:List (Addr×Obj)}{s:Shared}{σ:St}{H:Hp}{R:V->V->Hp->Prop}(I:Inv X pins σ H s)(h:ta σ H λx H1=>tb σ H1 λy H2=>R x y H2){Q:Value->Shared->Prop}{f:Value->Value->Sem Value}(hf:∀v u s2 x y H2,Inv X pins σ H2 s2->RelV x v->RelV y u->R x y H2->wpAny (model X.prog X.w) X.A (f v u) Q X.xe s2):
  wpAny (model X.prog X.w) X.A (eval a X.env) (λv s₁=>wpAny (model X.prog X.w) X.A (eval b X.env) (λu s₂=>wpAny (model X.prog X.w) X.A (f v u) Q X.xe s₂) X.xe s₁) X.xe s:=by
 refine thn (ha pins s σ H _ I h) λv s1 ⟨x,H1,I1,r1,q1⟩=>?_
 refine thn (hb pins s1 σ H1 _ I1 q1) λu s2 ⟨y,H2,I2,r2,q2⟩=>?_
 exact hf v u s2 x y H2 I2 r1 r2 q2
theorem QnR{op:Operator}{r:R2}(ho:OpR X (binaryOp op) r)(ha:PE X a ta)(hb:PE X b tb):PE X (.BinOp a op b pos) (tOp r ta tb):=by
 intro pins s σ H Q I h
 exact wpAny_BinOp (binT ha hb I h λv u s2 x y H2 I2 rx ry q=>ho pins s2 σ H2 x y v u Q I2 rx ry q)
theorem QnS{op:UnaryOp}{r:V->Hp->VK->Prop}(ho:UnR X (unaryOp op) r)(ha:PE X a ta):PE X (.UnaryOp op a pos) (tUn r ta):=by
 intro pins s σ H Q I h
 exact UnaryOp_ (thn (ha pins s σ H _ I h) λv s1 ⟨x,H1,I1,r1,q1⟩=>ho pins s1 σ H1 x v Q I1 r1 q1)
theorem opI{f:Value->Value->Sem Value}{C:Int->Int->Prop}{g:Int->Int->Int}(rule:∀(i j:Int) (t u:Tok) (s:Shared) (Q:Value->Shared->Prop) (E:Value->Shared->Prop),C i j->Q (.int (g i j) s.toks) {s with toks:=s.toks+1}->wpAny (model X.prog X.w) X.A (f (.int i t) (.int j u)) Q E s):
  OpR X f (rI C λi j=>.int (g i j)):=by
 intro pins s σ H x y v u Q I rx ry h
 obtain⟨i,j,rfl,rfl,hc,q⟩:=h
 obtain⟨t,rfl⟩:=rx
 obtain⟨t',rfl⟩:=ry
 exact rule i j t t' s _ _ hc ⟨.int (g i j),H,I.tok _,⟨_,rfl⟩,q⟩
theorem opI0{f:Value->Value->Sem Value}{g:Int->Int->Int}(rule:∀(i j:Int) (t u:Tok) (s:Shared) (Q:Value->Shared->Prop) (E:Value->Shared->Prop),Q (.int (g i j) s.toks) {s with toks:=s.toks+1}->wpAny (model X.prog X.w) X.A (f (.int i t) (.int j u)) Q E s):
  OpR X f (rI0 λi j=>.int (g i j)):=by
 intro pins s σ H x y v u Q I rx ry h
 obtain⟨i,j,rfl,rfl,q⟩:=h
 obtain⟨t,rfl⟩:=rx
 obtain⟨t',rfl⟩:=ry
 exact rule i j t t' s _ _ ⟨.int (g i j),H,I.tok _,⟨_,rfl⟩,q⟩
theorem opB0{f:Value->Value->Sem Value}{g:Int->Int->Bool}(rule:∀(i j:Int) (t u:Tok) (s:Shared) (Q:Value->Shared->Prop) (E:Value->Shared->Prop),Q (.bool (g i j)) s->wpAny (model X.prog X.w) X.A (f (.int i t) (.int j u)) Q E s):
  OpR X f (rI0 λi j=>.bl (g i j)):=by
 intro pins s σ H x y v u Q I rx ry h
 obtain⟨i,j,rfl,rfl,q⟩:=h
 obtain⟨t,rfl⟩:=rx
 obtain⟨t',rfl⟩:=ry
 exact rule i j t t' s _ _ ⟨.bl (g i j),H,I,rfl,q⟩
def CDiv(i j:Int):Prop:=0<j/\j<1073741824
def CMul(i j:Int):Prop:=(-(2^64)<i/\i<2^64)\/(-(2^64)<j/\j<2^64)
theorem CMul.ok{i j:Int}(h:CMul i j):IntMulOk i j:=by
 rcases h with⟨h1,h2⟩|⟨h1,h2⟩
 ·exact .of_left (intBits_le_64 h1 h2)
 ·exact .of_right (intBits_le_64 h1 h2)
theorem op_add:OpR X (binaryOp .Add) (rI0 λi j=>.int (i+j)):=opI0 λ_ _ _ _ _ _ _ q=>add_int q
theorem Qmp:OpR X (binaryOp .Sub) (rI0 λi j=>.int (i-j)):=opI0 λ_ _ _ _ _ _ _ q=>sub_int q
theorem op_mul:OpR X (binaryOp .Mult) (rI CMul λi j=>.int (i*j)):=opI λ_ _ _ _ _ _ _ hc q=>mul_int q hc.ok
theorem Qk5:OpR X (binaryOp .FloorDiv) (rI CDiv λi j=>.int (i/j)):=opI λi j _ _ _ _ _ hc q=>by
 have h1:(0:Int)<j:=hc.1
 have h2:j<1073741824:=hc.2
 exact floordiv_int (by omega) (by rw[Int.fdiv_eq_ediv_of_nonneg i (by omega)];exact q) (.inl (PyProof.noPylong_small (by omega)))
theorem Qmq:OpR X (binaryOp .Mod) (rI (λ_ j=>0<j) λi j=>.int (i%j)):=opI λi j _ _ _ _ _ hc q=>by
 have h1:(0:Int)<j:=hc
 exact mod_int' (by omega) (by rw[Int.fmod_eq_emod_of_nonneg i (by omega)];exact q)
theorem unI{f:Value->Sem Value}{g:Int->Int}(rule:∀(i:Int) (t:Tok) (s:Shared) (Q:Value->Shared->Prop) (E:Value->Shared->Prop),Q (.int (g i) s.toks) {s with toks:=s.toks+1}->wpAny (model X.prog X.w) X.A (f (.int i t)) Q E s):
  UnR X f (rU λi=>.int (g i)):=by
 intro pins s σ H x v Q I rx h
 obtain⟨i,rfl,q⟩:=h
 obtain⟨t,rfl⟩:=rx
 exact rule i t s _ _ ⟨.int (g i),H,I.tok _,⟨_,rfl⟩,q⟩
theorem Qmr:UnR X (unaryOp .USub) (rU λi=>.int (-i)):=unI λ_ _ _ _ _ q=>neg_int q
end
section
variable{X:Cx}{a b c:Expr}{ta tb tc:TE}{pos:Pos}
theorem Qkr{pins:List (Addr×Obj)}{σ:St}{H:Hp}{s:Shared}{Q:VK}{k k':Bool}(I:Inv X pins σ H s)(q:Q (.bl k) H)(e:k=k'):EP X pins σ Q (.bool k') s:=by
 subst e
 exact⟨.bl k,H,I,rfl,q⟩
theorem Qms:OpR X (compareOp .Lt) (rI0 λi j=>.bl (decide (i<j))):=opB0 λ_ _ _ _ _ _ _ q=>lt_int q
theorem Qmt:OpR X (compareOp .LtE) (rI0 λi j=>.bl (decide (i<=j))):=opB0 λ_ _ _ _ _ _ _ q=>le_int q
theorem Qmu:OpR X (compareOp .Gt) (rI0 λi j=>.bl (decide (j<i))):=opB0 λ_ _ _ _ _ _ _ q=>gt_int q
theorem Qmv:OpR X (compareOp .GtE) (rI0 λi j=>.bl (decide (j<=i))):=opB0 λ_ _ _ _ _ _ _ q=>ge_int q
theorem Qmw:OpR X (compareOp .Is) (λx y H Q=>y=.non/\Q (.bl (decide (x=.non))) H):=by
 intro pins s σ H x y v u Q I rx ry h
 obtain⟨rfl,q⟩:=h
 cases ry
 refine is_none_gen (Qkr I q ?_)
 cases x <;> first
  | (cases rx;rfl)
  | (obtain⟨t,rfl⟩:=rx;rfl)
theorem Qk6:OpR X (compareOp .IsNot) (λx y H Q=>y=.non/\Q (.bl (!decide (x=.non))) H):=by
 intro pins s σ H x y v u Q I rx ry h
 obtain⟨rfl,q⟩:=h
 cases ry
 refine isnot_none_gen (Qkr I q ?_)
 cases x <;> first
  | (cases rx;rfl)
  | (obtain⟨t,rfl⟩:=rx;rfl)
theorem OpR.or{f:Value->Value->Sem Value}{r r':R2}(h:OpR X f r)(h':OpR X f r'):OpR X f (λx y H Q=>r x y H Q\/r' x y H Q):=by
 intro pins s σ H x y v u Q I rx ry q
 rcases q with q|q
 ·exact h pins s σ H x y v u Q I rx ry q
 ·exact h' pins s σ H x y v u Q I rx ry q
theorem JM(b:Expr){op:CmpOp}(h:op≠.In:=by decide)(h2:op≠.NotIn:=by decide):behindInMarks op b=false:=by
 have e1:(op == CmpOp.In)=false:=by cases op <;> first|rfl|exact absurd rfl h
 have e2:(op == CmpOp.NotIn)=false:=by cases op <;> first|rfl|exact absurd rfl h2
 cases b <;> simp[behindInMarks,e1,e2]
theorem Qk7{op:CmpOp}{r:R2}(ho:OpR X (compareOp op) r)(ha:PE X a ta)(hb:PE X b tb)(hm:behindInMarks op b=false):PE X (.Compare a [op] [b] pos) (tOp r ta tb):=by
 intro pins s σ H Q I h
 exact wpAny_Compare1 (binT ha hb I h λv u s2 x y H2 I2 rx ry q=>ho pins s2 σ H2 x y v u Q I2 rx ry q) hm
noncomputable def QnT(t:TE):TT:=λσ H Q=>t σ H λx H'=>∃k,x=.bl k/\Q k H'
theorem Qk8{op:CmpOp}{r:R2}(ho:OpR X (compareOp op) r)(ha:PE X a ta)(hb:PE X b tb)(hm:behindInMarks op b=false):PT X (.Compare a [op] [b] pos) (QnT (tOp r ta tb)):=by
 intro pins s σ H Q I h
 refine wpAny_isTrue_Compare1 (thn (ha pins s σ H _ I h) λv s1 ⟨x,H1,I1,r1,q1⟩=>thn (hb pins s1 σ H1 _ I1 q1) λu s2 ⟨y,H2,I2,r2,q2⟩ =>
  thn (ho pins s2 σ H2 x y v u _ I2 r1 r2 q2) λc s3 ⟨z,H3,I3,r3,k,e,q3⟩=>?_) hm
 subst e
 cases r3
 exact TF ⟨H3,I3,q3⟩
noncomputable def Qks(r r':R2)(ta tb tc:TE):TE:=λσ H Q=>ta σ H λx H1=>tb σ H1 λy H2=>r x y H2 λz H3=>∃k,z=.bl k /\
 (if k=true then tc σ H3 λw' H4=>r' y w' H4 Q else Q (.bl false) H3)
theorem Qjw{op op':CmpOp}{r r':R2}(ho:OpR X (compareOp op) r)(ho':OpR X (compareOp op') r')(ha:PE X a ta)(hb:PE X b tb)(hc:PE X c tc)(hm:lastMarks [op,op'] [b,c]=false:=by with_unfolding_all rfl):PE X (.Compare a [op,op'] [b,c] pos) (Qks r r' ta tb tc):=by
 intro pins s σ H Q I h
 refine Compare_chain (thn (ha pins s σ H _ I h) λv s1 ⟨x,H1,I1,r1,q1⟩=>chain_link (thn (hb pins s1 σ H1 _ I1 q1) λu s2 ⟨y,H2,I2,r2,q2⟩ =>
  thn (ho pins s2 σ H2 x y v u _ I2 r1 r2 q2) λd s3 ⟨z,H3,I3,r3,k,e,q3⟩=>?_)) hm
 subst e
 cases r3
 refine TF ?_
 cases k with
 |false=>exact ite_ff ⟨.bl false,H3,I3,rfl,q3⟩
 |true=>exact ite_tt (chain_last (thn (hc pins s3 σ H3 _ I3 q3) λw' s4 ⟨z',H4,I4,r4,q4⟩=>ho' pins s4 σ H4 y z' u w' Q I4 r2 r4 q4))
theorem Qea:(sizeLine:Nat)<2^63:=by rw[Ri];decide
theorem Qhn{x:V}{us:List Value}(r:Vals [x] us):∃u,us=[u]/\RelV x u:=by
 cases r with
 |cons r1 r2=>cases r2;exact⟨_,rfl,r1⟩
theorem Qmx{x y:V}{us:List Value}(r:Vals [x,y] us):∃u w',us=[u,w']/\RelV x u/\RelV y w':=by
 cases r with
 |cons r1 r2 =>
  cases r2 with
  |cons r3 r4=>cases r4;exact⟨_,_,rfl,r1,r3⟩
theorem Qho(hc:X.calm=true):CallR X (.builtin "max") (λxs H Q=>∃i j,xs=[.int i,.int j]/\Q (.int (if j > i then j else i)) H):=by
 intro pins s σ H xs us Q I r h
 obtain⟨i,j,rfl,q⟩:=h
 obtain⟨u,w',rfl,⟨t,rfl⟩,⟨t',rfl⟩⟩:=Qmx r
 refine max_two_ints (I.ok.hd hc) λh' tk k=>⟨_,H,I.kept k,?_,q⟩
 by_cases hj:j > i
 ·rw[Ue hj,Ue hj];exact⟨_,rfl⟩
 ·rw[Uh hj,Uh hj];exact⟨_,rfl⟩
theorem Qhp(hc:X.calm=true):CallR X (.builtin "min") (λxs H Q=>∃i j,xs=[.int i,.int j]/\Q (.int (if j<i then j else i)) H):=by
 intro pins s σ H xs us Q I r h
 obtain⟨i,j,rfl,q⟩:=h
 obtain⟨u,w',rfl,⟨t,rfl⟩,⟨t',rfl⟩⟩:=Qmx r
 refine min_two_ints (I.ok.hd hc) λh' tk k=>⟨_,H,I.kept k,?_,q⟩
 by_cases hj:j<i
 ·rw[Ue hj,Ue hj];exact⟨_,rfl⟩
 ·rw[Uh hj,Uh hj];exact⟨_,rfl⟩
theorem Qhq:CallR X (.type "int") (λxs H Q=>(∃i,xs=[.int i]/\Q (.int i) H)\/∃k,xs=[.bl k]/\Q (.int (if k then 1 else 0)) H):=by
 intro pins s σ H xs us Q I r h
 rcases h with⟨i,rfl,q⟩|⟨k,rfl,q⟩
 ·obtain⟨u,rfl,t,rfl⟩:=Qhn r
  exact call_int_int ⟨.int i,H,I,⟨_,rfl⟩,q⟩
 ·obtain⟨u,rfl,r1⟩:=Qhn r
  cases r1
  exact call_int_bool ⟨.int (if k then 1 else 0),H,I.tok _,⟨_,rfl⟩,q⟩
end
end
section
structure ObjM(h:Heap)(x dx C:Addr)(mA:Str->Option Value):Prop where
 obj:h.get? x=some (instObj C dx)
 ns:h.Ns1 dx mA
 ne:dx≠x
theorem Qhr{h:Heap}{dx:Addr}{mA:Str->Option Value}(n:h.Ns1 dx mA):∃od,h.get? dx=some od/\∀name,lookIn name od=some (mA name):=by
 obtain⟨o,es,ep,ho,hd,hk,_,hm⟩:=n
 refine⟨o,ho,λname=>?_⟩
 have e:=hm name
 unfold nsFind findBy at e
 rw[<-Array.find?_toList]at e
 unfold lookIn
 rw[hd]
 dsimp only
 split
 ·rename_i y q
  rw[q]at e
  exact Rn some e
 ·rename_i q
  rw[q]at e
  have a:es.toList.any (·.refKey)=false:=by
   rw[List.any_eq_false]
   intro y hy
   obtain⟨z,t,hkey⟩:=hk y (Array.mem_toList_iff.mp hy)
   simp[DictEntry.refKey,hkey]
  have a':¬es.toList.any (·.refKey)=true:=by rw[a];exact Uf
  rw[Uh a']
  exact Rn some e
theorem ObjM.look{h:Heap}{x dx C:Addr}{mA:Str->Option Value}(I:ObjM h x dx C mA):∃od,PySem.W.InstAt h x (instObj C dx) C (some od)/\∀name,lookIn name od=some (mA name) :=
 let ⟨od,ho,hl⟩:=Qhr I.ns
 ⟨od,⟨I.obj,rfl,rfl,ho⟩,hl⟩
section
variable{prog:Program}{w:World}{A:Around}{E:Value->Shared->Prop}{s:Shared}{K:Frag}{x dx C f:Addr}{mA:Str->Option Value}{name:Str}{v:Value}
theorem Qk9{expr:Bool}{Q:Value->Shared->Prop}(X:K.In s.heap)(I:ObjM s.heap x dx C mA)(hg:plainGet K C name=true)(hh:hasDictIn K C=true)(ha:findIn K (.ref C) name=some none)(hv:mA name=some v)(hv':handedIn v=true)(h:Q v {s with toks:=s.toks+1}):
  wpAny (model prog w) A (getAttr (.ref x) name expr) Q E s:=by
 obtain⟨od,J,hl⟩:=I.look
 exact get_value X J (plainGet_of hg).1 (findObj_own hh ha rfl (by rw[hl,hv])) hv' h
theorem Qla{ns:List Str}{Q:Unit->Shared->Prop}(X:K.In s.heap)(I:ObjM s.heap x dx C mA)(hs:findIn K (.ref C) "__setattr__" = some (some (.builtin "object.__setattr__")))(hp:plainOver K C=true)(ht:takerIn K C name=some none)(hh:hasDictIn K C=true)(hw:PySem.Within mA ns)(hsz:ns.length<=sizeLine)(h:∀h',ObjM h' x dx C (λy=>if y=name then some v else mA y)->Heap.SameBut dx s.heap h'->Q () {s with heap:=h',toks:=s.toks+2}):
  wpAny (model prog w) A (setAttr (.ref x) name v) Q E s:=by
 obtain⟨od,J,hl⟩:=I.look
 refine set_plain X J hs (osa_open (s:={s with toks:=s.toks+1}) (r:=none) X J hp ht λb=>?_)
 obtain⟨cd,hc,hd'⟩:=any_some hh
 have hx:s.heap.get? x=some ⟨.ref C,some dx,.plain,#[]⟩:=I.obj
 refine Ua (Uj (Ua (Ua (wpAny_loadPart hx (Ua (Looks.here (s:={s with toks:=s.toks+1}) (looks_clsIn X hc) ?_))))))
 rw[hd']
 refine Uj (a:=some dx) (Ua (Uj (Ua ?_)))
 refine wpAny_nsSet1 (s:={s with toks:=s.toks+1}) I.ns λh' hn2 hs2=>?_
 obtain⟨oD,esD,epD,hoD,hdD,hcD⟩:=hn2.count (PySem.Within.cons name v hw)
 refine Ua (wpAny_lookBehind hoD (by rw[hdD];exact pastItsLine_dict (Ur hcD (by rw[UI];omega))) ?_)
 exact Uj (h _ ⟨(hs2.2 _ (Ne.symm I.ne)).trans I.obj,hn2,I.ne⟩ hs2)
theorem Qjx{R:Result->Shared->Prop}{vs:List Value}{kw:List (Str×Value)}(X:K.In s.heap)(hm:makesIn K C=true)(hi:findIn K (.ref C) "__init__" = some (some (.ref f)))(hf:typeIn K (.ref f)=some (.type "function"))(h:codeAny (model prog w) (A.under (.builtin "type.__call__" ⟨.ref C::vs,kw⟩)) (.call (.ref f) ⟨.ref (s.heap.objs.size+1)::vs,kw⟩) (InitBack (s.heap.objs.size+1) R)
   {s with heap:=(s.heap.push emptyDict).push (instObj C s.heap.objs.size)}):
  codeAny (model prog w) A (.call (.ref C) ⟨vs,kw⟩) R s:=by
 obtain⟨hh,g,d,t,os⟩:=s
 exact make_core (makes_of X hm) (looks_findIn X hi) (λself=>bind_fn X self hf) (.inl rfl) h
end
noncomputable def putF(f:Str)(v:V):List (Str×V)->List (Str×V)
 |[]=>[(f,v)]
 | (g,x)::r=>if g=f then (g,v)::r else (g,x)::putF f v r
theorem QbS(f g:Str)(v:V):∀fs:List (Str×V),(putF f v fs).lookup g=if g=f then some v else fs.lookup g
 |[]=>by
  show List.lookup g [(f,v)]=_
  by_cases h:g=f
  ·have hb:(g == f)=true:=Tt.mpr h
   simp only[List.lookup,hb,Ue h]
  ·have hb:(g == f)=false:=Tg.mpr h
   simp only[List.lookup,hb,Uh h]
 | (k,x)::r=>by
  have ih:=QbS f g v r
  rw[show putF f v ((k,x)::r)=(if k=f then (k,v)::r else (k,x)::putF f v r) from rfl]
  by_cases hk:k=f
  ·rw[Ue hk]
   by_cases h:g=k
   ·have hb:(g == k)=true:=Tt.mpr h
    simp only[List.lookup,hb,Ue (h.trans hk)]
   ·have hb:(g == k)=false:=Tg.mpr h
    simp only[List.lookup,hb,Uh (λe:g=f=>h (e.trans hk.symm))]
  ·rw[Uh hk]
   by_cases h:g=k
   ·have hb:(g == k)=true:=Tt.mpr h
    simp only[List.lookup,hb,Uh (λe:g=f=>hk (h.symm.trans e))]
   ·have hb:(g == k)=false:=Tg.mpr h
    simp only[List.lookup,hb]
    exact ih
theorem QbT(f:Str)(v:V):∀fs:List (Str×V),f∈(putF f v fs).map (·.1)/\∀g,g∈fs.map (·.1)->g∈(putF f v fs).map (·.1)
 |[]=>⟨by simp[putF],λg h=>by simp at h⟩
 | (k,x)::r=>by
  obtain⟨i1,i2⟩:=QbT f v r
  rw[show putF f v ((k,x)::r)=(if k=f then (k,v)::r else (k,x)::putF f v r) from rfl]
  by_cases hk:k=f
  ·rw[Ue hk]
   subst hk
   exact⟨by simp,λg h=>by simpa using h⟩
  ·rw[Uh hk]
   refine⟨?_,λg h=>?_⟩
   ·rw[UJ]
    exact Uv _ i1
   ·rw[UJ]at h ⊢
    rcases Uu.mp h with e|e
    ·exact Uu.mpr (.inl e)
    ·exact Uv _ (i2 g e)
theorem QbU(f:Str)(v:V):∀fs:List (Str×V),(putF f v fs).length<=fs.length+1
 |[]=>by simp[putF]
 | (k,x)::r=>by
  have ih:=QbU f v r
  rw[show putF f v ((k,x)::r)=(if k=f then (k,v)::r else (k,x)::putF f v r) from rfl]
  by_cases hk:k=f
  ·rw[Ue hk,UI,UI];omega
  ·rw[Uh hk,UI,UI];omega
theorem RelO.some_of{v:V}{o:Option Value}(r:RelO (some v) o):∃u,o=some u/\RelV v u:=by
 cases o with
 |none=>exact(show False from r).elim
 |some u=>exact⟨u,rfl,r⟩
theorem Qhs{v:V}{u:Value}(r:RelV v u):handedIn u=true:=by
 cases v with
 |non=>cases (show u=Value.none from r);rfl
 |bl b=>cases (show u=Value.bool b from r);rfl
 |int i=>obtain⟨t,e⟩:=(show ∃t,u=Value.int i t from r);cases e;rfl
 |str x=>obtain⟨t,e⟩:=(show ∃t,u=Value.str x t from r);cases e;rfl
 |byt b=>obtain⟨t,e⟩:=(show ∃t,u=Value.bytes b t from r);cases e;rfl
 |flt b=>obtain⟨t,e⟩:=(show ∃t,u=Value.float b t from r);cases e;rfl
 |ref a=>cases (show u=Value.ref a from r);rfl
 |ty n=>cases (show u=Value.type n from r);rfl
section
variable{P:Program}{w:World}{H H':Hp}{h h':Heap}{a C dx:Addr}{fs fs':List (Str×V)}
theorem Qe6(hok:HOk P w H h)(e:H a=some (.ins C dx fs)):∃mA,ObjM h a dx C mA/\(∀f,RelO (fs.lookup f) (mA f))/\PySem.Within mA (fs.map (·.1))/\fs.length<=1000/\H dx=some (.own a):=by
 obtain⟨d,z,ne,ob,mA,n,r,q⟩:=(show ObjOk P w H h a (.ins C dx fs) from hok a _ e)
 exact⟨mA,⟨ob,n,ne⟩,r,q,z,d⟩
end
structure Cls(K:Frag)(C:Addr):Prop where
 pg:plainGet K C Str.empty=true
 hd:hasDictIn K C=true
 po:plainOver K C=true
 sa:findIn K (.ref C) "__setattr__" = some (some (.builtin "object.__setattr__"))
theorem Cls.get{K:Frag}{C:Addr}(c:Cls K C)(f:Str):plainGet K C f=true:=c.pg
def NoAttr(K:Frag)(C:Addr)(f:Str):Prop:=findIn K (.ref C) f=some none
theorem NoAttr.taker{K:Frag}{C:Addr}{f:Str}(n:NoAttr K C f):takerIn K C f=some none:=by
 unfold takerIn
 rw[show findIn K (.ref C) f=some none from n]
 rfl
section
variable{X:Cx}{pins:List (Addr×Obj)}{σ:St}{H:Hp}{s:Shared}{a C dx:Addr}{fs:List (Str×V)}{f:Str}{v:V}{A:Around}{E:Value->Shared->Prop}
theorem Qgu{b:Bool}{Q:Value->Shared->Prop}(I:Inv X pins σ H s)(e:H a=some (.ins C dx fs))(c:Cls X.K C)(n:NoAttr X.K C f)(l:fs.lookup f=some v)(h:∀u s',Inv X pins σ H s'->RelV v u->Q u s'):wpAny (model X.prog X.w) A (getAttr (.ref a) f b) Q E s:=by
 obtain⟨mA,O,r,_,_,_⟩:=Qe6 I.hok e
 obtain⟨u,hu,ru⟩:=RelO.some_of (v:=v) (o:=mA f) (by rw[<-l];exact r f)
 exact Qk9 I.kIn O (c.get f) c.hd n hu (Qhs ru) (h u _ (I.tok _) ru)
theorem Qgv{y:V}{u:Value}{Q:Unit->Shared->Prop}(I:Inv X pins σ H s)(e:H a=some (.ins C dx fs))(c:Cls X.K C)(n:NoAttr X.K C f)(hl:fs.length<1000)(ry:RelV y u)(h:∀s',Inv X pins σ (upd H a (.ins C dx (putF f y fs))) s'->Q () s'):wpAny (model X.prog X.w) A (setAttr (.ref a) f u) Q E s:=by
 obtain⟨mA,O,r,wi,_,ho⟩:=Qe6 I.hok e
 have hz:(fs.map (·.1)).length<=sizeLine:=by rw[Uc,Ri];omega
 refine Qla I.kIn O c.sa c.po n.taker c.hd wi hz λh' O' sb=>h _ ?_
 have hd:∃o,h'.get? dx=some o:=let ⟨o,_,_,e',_⟩:=O'.ns;⟨o,e'⟩
 refine I.write (x:=a) (e:=dx) (by rw[e];exact True.intro) (.inr ho) (λb q hb z=>(sb.2 b hb).trans z) hd ?_
 refine⟨by rw[QF O.ne];exact ho,?_,O.ne,O'.obj,_,O'.ns,λg=>?_,λg hg=>?_⟩
 ·have:=QbU f y fs;omega
 ·show RelO ((putF f y fs).lookup g) (if g=f then some u else mA g)
  rw[QbS]
  by_cases q:g=f
  ·rw[Ue q,Ue q];exact ry
  ·rw[Uh q,Uh q];exact r g
 ·by_cases q:g=f
  ·rw[q];exact(QbT f y fs).1
  ·refine(QbT f y fs).2 g (wi g λz=>hg ?_)
   show(if g=f then some u else mA g)=none
   rw[Uh q];exact z
theorem Inv.made(I:Inv X pins σ H s):Inv X pins σ (upd (upd H s.heap.objs.size (.own (s.heap.objs.size+1))) (s.heap.objs.size+1) (.ins C s.heap.objs.size []))
  {s with heap:=(s.heap.push emptyDict).push (instObj C s.heap.objs.size)}:=by
 have e1:(s.heap.push emptyDict).get? s.heap.objs.size=some emptyDict:=Us s.heap rfl
 have e2:((s.heap.push emptyDict).push (instObj C s.heap.objs.size)).get? (s.heap.objs.size+1)=some (instObj C s.heap.objs.size):=by
  have:=Us (s.heap.push emptyDict) (o:=instObj C s.heap.objs.size) rfl
  rwa[Ti]at this
 have e3:(s.heap.push emptyDict).Ns s.heap.objs.size (λ_=>none):=⟨emptyDict,#[],_,e1,rfl,(λe he=>absurd he (by simp)),λ_=>rfl⟩
 have I1:=I.laid (a:=s.heap.objs.size) (o:=.own (s.heap.objs.size+1)) (h':=s.heap.push emptyDict) (t':=s.toks) (λb u q=>Ub _ q) (Ui _) ⟨_,e1⟩
 refine I1.laid (a:=s.heap.objs.size+1) (o:=.ins C s.heap.objs.size []) (t':=s.toks) (λb u q=>Ub _ q) (Nat.le_of_eq (Ti _ _)) ?_
 have ne:s.heap.objs.size≠s.heap.objs.size+1:=UP (Td _)
 refine⟨by rw[QF ne,Qr],RY _,ne,e2,λ_=>none,(Heap.Ns1.of_empty e3).at λo q=>Ub _ q,λ_=>True.intro,λy hy=>absurd rfl hy⟩
theorem Qlb{prog:Program}{w:World}{env:Env}{e:Expr}{f:Str}{pos:Pos}{s:Shared}{Q:Value->Shared->Prop}(hb:attributeBase e f env (eval e env)=eval e env)(h:wpAny (model prog w) A (eval e env) (λo s₁=>wpAny (model prog w) A (getAttr o f true) Q E s₁) E s):wpAny (model prog w) A (eval (.Attribute e f pos) env) Q E s :=
 Attribute_any_ h (by rw[arm_eval_Attribute,hb])
end
noncomputable def tFld(K:Frag)(ta:TE)(f:Str):TE:=λσ H Q=>ta σ H λx H1=>∃a C dx fs v,x=.ref a/\H1 a=some (.ins C dx fs)/\Cls K C/\NoAttr K C f/\fs.lookup f=some v/\Q v H1
noncomputable def sFld(K:Frag)(ta tv:TE)(f:Str):TS:=λD σ H=>tv σ H λy H1=>ta σ H1 λx H2=>∃a C dx fs,x=.ref a/\H2 a=some (.ins C dx fs)/\Cls K C/\NoAttr K C f/\fs.length<1000 /\
 D.nx σ (upd H2 a (.ins C dx (putF f y fs)))
section
variable{X:Cx}{o e value:Expr}{f:Str}{pos pos' tpos:Pos}{ta tv:TE}
theorem Qmy(he:PE X e ta)(hb:attributeBase e f X.env (eval e X.env)=eval e X.env):PE X (.Attribute e f pos) (tFld X.K ta f):=by
 intro pins s σ H Q I h
 refine Qlb hb (thn (he pins s σ H _ I h) λu s1 ⟨x,H1,I1,rx,a,C,dx,fs,v,ex,ea,c,n,l,q⟩=>?_)
 subst ex
 obtain rfl:u=Value.ref a:=rx
 exact Qgu I1 ea c n l λu' s2 I2 ru=>⟨v,H1,I2,ru,q⟩
theorem Qmz(ha:PE X o ta)(hv:PE X value tv)(hs:swapsWith value (some (.Attribute o f pos')) pos.line X.env=pure false):PS X (.Assign [.Attribute o f pos'] value pos) (sFld X.K ta tv f):=by
 intro pins s σ H D I h
 refine plainObj_wpAny_Assign_Attribute (thn (hv pins s σ H _ I h) λu s1 ⟨y,H1,I1,ry,q⟩=>thn (ha pins s1 σ H1 _ I1 q) λov s2 ⟨x,H2,I2,rx,a,C,dx,fs,ex,ea,c,n,l,q2⟩=>?_) hs
 subst ex
 obtain rfl:ov=Value.ref a:=rx
 exact Qgv I2 ea c n l ry λs3 I3=>⟨σ,_,I3,q2⟩
end
section
variable{X:Cx}{pins:List (Addr×Obj)}{σ:St}{H:Hp}{s:Shared}{A:Around}{E:Value->Shared->Prop}{Q:Value->Shared->Prop}{c:Value}{b:Bool}
inductive TyOf(K:Frag)(H:Hp):V->Value->Prop where
 |non:TyOf K H .non (.type "NoneType")
 |bl (x:Bool):TyOf K H (.bl x) (.type "bool")
 |int (i:Int):TyOf K H (.int i) (.type "int")
 |str (x:Str):TyOf K H (.str x) (.type "str")
 |flt (x:UInt64):TyOf K H (.flt x) (.type "float")
 |lst {a:Addr} {xs:List V} (e:H a=some (.lst xs)):TyOf K H (.ref a) (.type "list")
 |frz {a:Addr} {o:Obj} {xs:List V} (e:H a=some (.frz o (.lst xs))):TyOf K H (.ref a) (.type "list")
 |tup {a:Addr} {xs:List V} (e:H a=some (.tup xs)):TyOf K H (.ref a) (.type "tuple")
 |dK {a:Addr} {kvs:List (Key×V)} (e:H a=some (.dK kvs)):TyOf K H (.ref a) (.type "dict")
 |dT {a:Addr} {kvs:List (List Key×V)} (e:H a=some (.dT kvs)):TyOf K H (.ref a) (.type "dict")
 |ins {a C dx:Addr} {fs:List (Str×V)} (e:H a=some (.ins C dx fs)) (cl:Cls K C) (ha:findIn K (.ref C) "__class__" = some (some (.builtin "object.__class__")))
   (hn:specialIn K (.builtin "object.__class__") "__get__" = some (some (.builtin "getset_descriptor.__get__"))) (htk:takesIn K (.builtin "object.__class__")=some true)
   (hm:mroIn K C (.type "object")=some true):TyOf K H (.ref a) (.ref C)
theorem Jc{x:V}{u t:Value}(I:Inv X pins σ H s)(rx:RelV x u)(ty:TyOf X.K H x t)(e:kitOne X.K t c=some b)(h:∀tk,Q (.bool b) {s with toks:=tk}):
  wpAny (model X.prog X.w) A (call (.builtin "isinstance") [u,c]) Q E s:=by
 cases ty with
 |non=>cases (show u=Value.none from rx);exact UV kitx_none I.kIn True.intro e (λz=>nomatch z) h
 |bl y=>cases (show u=Value.bool y from rx);exact UV kitx_bool I.kIn True.intro e (λz=>nomatch z) h
 |int i=>obtain⟨t,q⟩:=(show ∃t,u=Value.int i t from rx);cases q;exact UV kitx_int I.kIn True.intro e (λz=>nomatch z) h
 |str y=>obtain⟨t,q⟩:=(show ∃t,u=Value.str y t from rx);cases q;exact UV kitx_str I.kIn True.intro e (λz=>nomatch z) h
 |flt y=>obtain⟨t,q⟩:=(show ∃t,u=Value.float y t from rx);cases q;exact UV kitx_float I.kIn True.intro e (λz=>nomatch z) h
 |@lst a xs ea =>
  cases (show u=Value.ref a from rx)
  obtain⟨_,_,n,_,h1⟩:=(show ObjOk X.prog X.w H s.heap a (.lst xs) from I.hok a _ ea)
  exact UV T4 I.kIn ⟨_,h1,rfl⟩ e (λz=>nomatch z) h
 |@frz a ob xs ea =>
  cases (show u=Value.ref a from rx)
  obtain⟨_,_,_,n,_,h1⟩:=(show ObjOk X.prog X.w H s.heap a (.frz ob (.lst xs)) from I.hok a _ ea)
  exact UV T4 I.kIn ⟨_,h1,rfl⟩ e (λz=>nomatch z) h
 |@tup a xs ea =>
  cases (show u=Value.ref a from rx)
  obtain⟨_,_,_,p⟩:=(show ObjOk X.prog X.w H s.heap a (.tup xs) from I.hok a _ ea)
  obtain⟨o,h1,h2,_⟩:=p
  exact UV RL I.kIn ⟨o,h1,h2⟩ e (λz=>nomatch z) h
 |@dK a kvs ea =>
  cases (show u=Value.ref a from rx)
  obtain⟨_,_,vs,_,p⟩:=(show ObjOk X.prog X.w H s.heap a (.dK kvs) from I.hok a _ ea)
  obtain⟨o,es,ep,h1,h2,_⟩:=p
  exact UV RS I.kIn ⟨o,h1,h2.1⟩ e (λz=>nomatch z) h
 |@dT a kvs ea =>
  cases (show u=Value.ref a from rx)
  obtain⟨_,_,xs,_,o,es,ep,h1,h2,_⟩:=(show ObjOk X.prog X.w H s.heap a (.dT kvs) from I.hok a _ ea)
  exact UV RS I.kIn ⟨o,h1,h2.1⟩ e (λz=>nomatch z) h
 |@ins a C dx fs ea cl ha hn htk hm =>
  cases (show u=Value.ref a from rx)
  obtain⟨mA,O,_⟩:=Qe6 I.hok ea
  obtain⟨od,J,_⟩:=O.look
  exact UV (kitx_own (cl.get _) cl.hd ha hn htk hm) I.kIn J e (λz=>nomatch z) h
end
end
section
structure Room(k:Nat)(A:Around):Prop where
 hd:A.handled=none
 dp:A.depth+3*k+5<recursionLimit
 un:A.units+16*k+200<cLine
theorem Room.mono{j k:Nat}{A:Around}(r:Room k A)(h:j<=k):Room j A:=⟨r.hd,by have:=r.dp;omega,by have:=r.un;omega⟩
theorem Room.deeper{k:Nat}{A:Around}(r:Room (k+1) A)(env:Env):Room k (A.deeper env) :=
 ⟨r.hd,by have:=r.dp;show A.depth+1+3*k+5<_;omega,by have:=r.un;show A.units+3+16*k+200<_;omega⟩
theorem Room.in1{k:Nat}{A:Around}(r:Room (k+1) A):Room k A.in1 :=
 ⟨r.hd,by have:=r.dp;show A.depth+3*k+5<_;omega,by have:=r.un;show A.units+1+16*k+200<_;omega⟩
theorem Qgw{A:Around}{C:Addr}{us:List Value}{kw:List (Str×Value)}:(A.under (.builtin "type.__call__" ⟨.ref C::us,kw⟩)).depth=A.depth+1:=by
 first|rfl|simp[Around.under,Code.weight,Code.isCreation,Code.isGuard,Code.isCaller,Code.frames,Code.isFrame,guardIds]
theorem Qgx{A:Around}{C:Addr}{us:List Value}{kw:List (Str×Value)}:(A.under (.builtin "type.__call__" ⟨.ref C::us,kw⟩)).units=A.units+1:=by
 first|rfl|simp[Around.under,Code.cUnits,Code.frames,Code.isFrame]
theorem Room.make{k:Nat}{A:Around}(r:Room (k+1) A)(C:Addr)(us:List Value)(kw:List (Str×Value)):Room k (A.under (.builtin "type.__call__" ⟨.ref C::us,kw⟩)) :=
 ⟨r.hd,by have:=r.dp;rw[Qgw];omega,by have:=r.un;rw[Qgx];omega⟩
theorem Room.depth{k:Nat}{A:Around}(r:Room k A):A.depth<recursionLimit:=by have:=r.dp;omega
theorem Room.units{k:Nat}{A:Around}(r:Room k A):A.units+64<cLine:=by have:=r.un;omega
noncomputable def tNil:TA:=λ_ H Q=>Q [] H
noncomputable def QnU(ta:TE)(tr:TA):TA:=λσ H Q=>ta σ H λx H1=>tr σ H1 λxs H2=>Q (x::xs) H2
section
variable{X:Cx}{e:Expr}{es:List Expr}{te:TE}{t:TA}{pos:Pos}
theorem QfK:PA X [] tNil:=λ_ _ _ _ H Q I h=>Calls.spliced_nil ⟨[],H,I,.nil,h⟩
theorem QaE(ha:PE X e te)(hr:PA X es t)(hs:starEach (e::es) X.env=(false,eval e X.env)::starEach es X.env:=by rfl):PA X (e::es) (QnU te t):=by
 intro pos pins s σ H Q I h
 rw[hs]
 show wpAny _ _ (spliced ((false,eval e X.env)::backTo pos (starEach es X.env))) _ _ s
 refine Calls.spliced_cons (thn (ha pins s σ H _ I h) λu s1 ⟨x,H1,I1,r1,q1⟩=>?_)
 exact thn (hr pos pins s1 σ H1 _ I1 q1) λus s2 ⟨xs,H2,I2,r2,q2⟩=>⟨x::xs,H2,I2,.cons r1 r2,q2⟩
noncomputable def tTup(t:TA):TE:=λσ H Q=>t σ H λxs H1=>xs.length<=sizeLine/\∀p,H1 p=none->Q (.ref p) (upd H1 p (.tup xs))
noncomputable def tLst(t:TA):TE:=λσ H Q=>t σ H λxs H1=>xs.length<=sizeLine/\∀p,H1 p=none->Q (.ref p) (upd H1 p (.lst xs))
theorem Qkt{x1}(h:PA X es t):PE X (.Tuple es x1 pos) (tTup t):=by
 intro pins s σ H Q I hq
 refine wpAny_Tuple_spliced (thn (h pos pins s σ H _ I hq) λus s1 ⟨xs,H1,I1,r,z,q⟩=>⟨by rw[<-r.length];exact z,?_⟩)
 have hf:H1 s1.heap.objs.size=none:=I1.hok.fresh (Ui _)
 refine⟨.ref s1.heap.objs.size,upd H1 s1.heap.objs.size (.tup xs),I1.laid (t':=s1.toks) (λb u e=>Ub _ e) (Ui _) ?_,rfl,q _ hf⟩
 exact⟨z,us,r,⟨_,Us _ rfl,rfl,_,rfl⟩⟩
theorem QmA(h:PA X es t):PE X (.List es pos) (tLst t):=by
 intro pins s σ H Q I hq
 refine wpAny_List_spliced (thn (h pos pins s σ H _ I hq) λus s1 ⟨xs,H1,I1,r,z,q⟩=>⟨by rw[<-r.length];exact z,?_⟩)
 have hf:H1 s1.heap.objs.size=none:=I1.hok.fresh (Ui _)
 refine⟨.ref s1.heap.objs.size,upd H1 s1.heap.objs.size (.lst xs),I1.laid (t':=s1.toks) (λb u e=>Ub _ e) (Ui _) ?_,rfl,q _ hf⟩
 exact⟨z,us,0,r,Us _ rfl⟩
end
noncomputable abbrev Sp:=List V->Hp->VK->XK->Prop
noncomputable abbrev CXT:=List Env->Hp->Shared->XK->Value->Shared->Prop
structure Env0(P:Program)(w:World)(K:Frag)(mg:Str->Option Value)(base:Heap)(A:Around)(outer:List Env)(s:Shared)(H:Hp):Prop where
 frames:A.frames=some outer
 mod:Mod K mg base
 bs:∀b o,base.get? b=some o->s.heap.get? b=some o/\H b=none
 bsz:base.objs.size<=s.heap.objs.size
 funs:s.heap.FunFrames base outer
 frf:∀b∈frs outer,H b=none
 hok:HOk P w H s.heap
 bare:AllBare s.gens
noncomputable def CE(outer:List Env)(P:Program)(w:World)(H:Hp)(s:Shared)(Q:VK)(u:Value)(s':Shared):Prop :=
 ∃v H',s'.os=s.os/\AllBare s'.gens/\Un (frs outer) [] H H' s.heap s'.heap/\HOk P w H' s'.heap/\RelV v u/\Q v H'
noncomputable def CR(CX:CXT)(outer:List Env)(P:Program)(w:World)(H:Hp)(s:Shared)(Q:VK)(E:XK)(r:Result)(s':Shared):Prop :=
 match r with
 |.ok (.ret u)=>CE outer P w H s Q u s'
 |.ok _=>False
 |.error e=>CX outer H s E e s'
structure FnOk(P:Program)(w:World)(K:Frag)(mg:Str->Option Value)(base:Heap)(CX:CXT)(k:Nat)(f:Addr)(fd:FuncData)(ps:List Str)(sp:Sp):Prop where
 len:∀vs H Q E,sp vs H Q E->vs.length=ps.length
 run:∀(A:Around)(outer:List Env)(s:Shared)(H:Hp)(args:Args)(us:List Value)(vs:List V)(Q:VK)(E:XK),Room k A->Env0 P w K mg base A outer s H->BindsTo s fd args (ps.zip us)->Vals vs us->sp vs H Q E ->
  codeAny (model P w) A (.call (.ref f) args) (CR CX outer P w H s Q E) s
theorem FnOk.mono{P:Program}{w:World}{K:Frag}{mg:Str->Option Value}{base:Heap}{CX:CXT}{j k:Nat}{f:Addr}{fd:FuncData}{ps:List Str}{sp:Sp}(F:FnOk P w K mg base CX j f fd ps sp)(h:j<=k):
  FnOk P w K mg base CX k f fd ps sp:=⟨F.len,λA outer s H args us vs Q E hr=>F.run A outer s H args us vs Q E (hr.mono h)⟩
theorem FnOk.imp{P:Program}{w:World}{K:Frag}{mg:Str->Option Value}{base:Heap}{CX:CXT}{k:Nat}{f:Addr}{fd:FuncData}{ps:List Str}{sp sp':Sp}(F:FnOk P w K mg base CX k f fd ps sp)(h:∀vs H Q E,sp' vs H Q E->sp vs H Q E):FnOk P w K mg base CX k f fd ps sp' :=
 ⟨λvs H Q E q=>F.len vs H Q E (h _ _ _ _ q),λA outer s H args us vs Q E hr he hb hv hs=>F.run A outer s H args us vs Q E hr he hb hv (h _ _ _ _ hs)⟩
theorem Env0.make{P:Program}{w:World}{K:Frag}{mg:Str->Option Value}{base:Heap}{A:Around}{outer:List Env}{s:Shared}{H:Hp}(e:Env0 P w K mg base A outer s H)(C:Addr)(us:List Value)(kw:List (Str×Value)):
  Env0 P w K mg base (A.under (.builtin "type.__call__" ⟨.ref C::us,kw⟩)) outer s H:=⟨by first|exact e.frames|(simpa[Around.under,Code.envs,Code.isFrame,pushEnvs]using e.frames),e.mod,e.bs,e.bsz,e.funs,e.frf,e.hok,e.bare⟩
theorem Env0.in1{P:Program}{w:World}{K:Frag}{mg:Str->Option Value}{base:Heap}{A:Around}{outer:List Env}{s:Shared}{H:Hp}(e:Env0 P w K mg base A outer s H):
  Env0 P w K mg base A.in1 outer s H:=⟨e.frames,e.mod,e.bs,e.bsz,e.funs,e.frf,e.hok,e.bare⟩
section
variable{X:Cx}{pins:List (Addr×Obj)}{σ:St}{H:Hp}{s s':Shared}
theorem Inv.env0(I:Inv X pins σ H s):Env0 X.prog X.w X.K X.mg X.base X.A X.stack s H :=
 ⟨I.ok.frames,I.ok.mod,I.bs,Ur I.ok.bsz I.sz,I.stack,I.stkFree,I.hok,I.bare⟩
theorem Inv.after{Q:VK}{u:Value}(I:Inv X pins σ H s)(h:CE X.stack X.prog X.w H s Q u s'):EP X pins σ Q u s':=by
 obtain⟨v,H',os,bare,un,hok,r,q⟩:=h
 obtain⟨hh,g,d,t,os'⟩:=s'
 obtain rfl:os'=s.os:=os
 exact⟨v,H',I.call (h':=hh) (g':=g) (d':=d) (t':=t) (ch:=[]) un hok bare (λb z=>absurd z (by simp)),r,q⟩
end
noncomputable def Binds(K:Frag)(fd:FuncData)(ps:List Str)(ds:List Value):Prop :=
 ∀(s:Shared)(us:List Value),K.In s.heap->(us++ds).length=ps.length->BindsTo s fd ⟨us,[]⟩ (ps.zip (us++ds))
theorem Binds.all{K:Frag}{fd:FuncData}{ps:List Str}(h:∀us:List Value,us.length=ps.length->bindArgs fd ⟨us,[]⟩=pure (ps.zip us)):Binds K fd ps []:=λs us _ hl=>by
 rw[UW]at hl ⊢
 exact .of_eq (h us hl)
section
variable{X:Cx}{CX:CXT}{k:Nat}{f C:Addr}{fd:FuncData}{ps:List Str}{sp:Sp}{dvs:List V}{ds:List Value}{E:XK}{x m:Str}{p pos apos:Pos}{e o:Expr}{es:List Expr}{ta:TE}{t:TA}
structure Mk(K:Frag)(C f:Addr):Prop where
 makes:makesIn K C=true
 init:findIn K (.ref C) "__init__" = some (some (.ref f))
 fn:isFn K (.ref f)=true
 kp:keepIn K (.ref C)=true
end
section
variable{X:Cx}{CX:CXT}{k:Nat}{f C:Addr}{fd:FuncData}{ps ks:List Str}{sp:Sp}{E:XK}{x m:Str}{p pos apos kpos:Pos}{e o:Expr}{es:List Expr}{kws:List Keyword}{te ta:TE}{t tk:TA}{nm:Option Str}
variable{g:List Value->List Value->List Value}{gV:List V->List V->List V}
end
structure FnScope(N P:List Str)(sc:Scope):Prop where
 kind:sc.kind=.function
 co:sc.isCoroutine=false
 gen:sc.isGenerator=false
 nd:N.Nodup
 pre:N.take P.length=P
 par:∀x∈P,sc.names.lookup x=some .local\/sc.names.lookup x=some .cell
 nofree:∀y∈sc.names,y.2≠.free
theorem Qeb{kindOf:Str->Option NameKind}{x:Str}:∀{binds:List (Str×Value)}{m:Str->Option Value},(∀v,(x,v)∉binds)->bindL kindOf binds m x=m x
 |[],_,_=>rfl
 | (n,v)::r,m,h=>by
  unfold bindL
  rw[Qeb λw hw=>h w (Uv _ hw)]
  split
  ·have:x≠n:=by rintro rfl;exact h v UG
   simp[this]
  ·rfl
theorem Qec{kindOf:Str->Option NameKind}{x:Str}:∀{binds:List (Str×Value)}{m:Str->Option Value},(∀v,(x,v)∉binds)->bindC kindOf binds m x=m x
 |[],_,_=>rfl
 | (n,v)::r,m,h=>by
  unfold bindC
  rw[Qec λw hw=>h w (Uv _ hw)]
  split
  ·rfl
  ·have:x≠n:=by rintro rfl;exact h v UG
   simp[this]
theorem Qed{kindOf:Str->Option NameKind}{x:Str}{v:Value}:∀{P:List Str}{vs:List Value}{i:Nat}{m:Str->Option Value},P.Nodup->P[i]?=some x->vs[i]?=some v->kindOf x=some .local ->
  bindL kindOf (P.zip vs) m x=some v
 |[],_,_,_,_,h,_,_=>by simp at h
 |_::_,[],_,_,_,_,h,_=>by simp at h
 |p::P,w::vs,0,m,nd,h1,h2,hk=>by
  simp at h1 h2;subst h1;subst h2
  show bindL kindOf ((p,w)::P.zip vs) m p=_
  unfold bindL
  rw[Qeb λv hv=>(T9.mp nd).1 (Ws hv).1,Ue hk]
  simp
 |p::P,w::vs,i+1,m,nd,h1,h2,hk=>by
  show bindL kindOf ((p,w)::P.zip vs) m x=_
  unfold bindL
  exact Qed (i:=i) (T9.mp nd).2 (by simpa using h1) (by simpa using h2) hk
theorem Qee{kindOf:Str->Option NameKind}{x:Str}{v:Value}:∀{P:List Str}{vs:List Value}{i:Nat}{m:Str->Option Value},P.Nodup->P[i]?=some x->vs[i]?=some v->kindOf x≠some .local ->
  bindC kindOf (P.zip vs) m x=some v
 |[],_,_,_,_,h,_,_=>by simp at h
 |_::_,[],_,_,_,_,h,_=>by simp at h
 |p::P,w::vs,0,m,nd,h1,h2,hk=>by
  simp at h1 h2;subst h1;subst h2
  show bindC kindOf ((p,w)::P.zip vs) m p=_
  unfold bindC
  rw[Qec λv hv=>(T9.mp nd).1 (Ws hv).1,Uh hk]
  simp
 |p::P,w::vs,i+1,m,nd,h1,h2,hk=>by
  show bindC kindOf ((p,w)::P.zip vs) m x=_
  unfold bindC
  exact Qee (i:=i) (T9.mp nd).2 (by simpa using h1) (by simpa using h2) hk
noncomputable def start(N:List Str)(vs:List V):St:=vs.map some++List.replicate (N.length-vs.length) none
noncomputable def cxOf(CX:CXT)(P:Program)(w:World)(K:Frag)(mg:Str->Option Value)(base:Heap)(N:List Str)(qual:Str)(scope:Scope)(f:Addr)(cd:Value)(A:Around)(outer:List Env)(s:Shared)(H:Hp)(E:XK):Cx where
 prog:=P
 w:=w
 K:=K
 mg:=mg
 base:=base
 A:=A.deeper (envOfC qual scope s.heap.objs.size f cd)
 N:=N
 s₀:=s
 H₀:=H
 env:=envOfC qual scope s.heap.objs.size f cd
 outer:=outer
 stack:=envOfC qual scope s.heap.objs.size f cd::outer
 ex:=[]
 calm:=true
 fn:=λ_=>true
 pn:=[]
 xe:=λe s'=>wpAny (model P w) (A.deeper (envOfC qual scope s.heap.objs.size f cd)) (leaving (envOfC qual scope s.heap.objs.size f cd) e) (λ_ s''=>CX outer H s E e s'') (λe' s''=>CX outer H s E e' s'') s'
theorem QfL{sc:Scope}{n:Nat}{x:Str}(h:sc.names.lookup x=some .cell):∃c,(cellsFrom n sc.names []).lookup x=some c:=by
 have q:=Wi sc.names n [] (.inl h)
 exact RW.mp q
theorem Qht{CX:CXT}{P:Program}{w:World}{K:Frag}{mg:Str->Option Value}{base:Heap}{N ps:List Str}{qual:Str}{scope:Scope}{f:Addr}{cd:Value}{A:Around}{outer:List Env}{s s1:Shared}{H:Hp}{E:XK}{us:List Value}{vs:List V}(S:FnScope N ps scope)(hd:A.handled=none)(e0:Env0 P w K mg base A outer s H)(hl:vs.length=ps.length)(r:Vals vs us)(x:InCallC s s.heap.objs.size (bindL (envOfC qual scope s.heap.objs.size f cd).kindOf (ps.zip us) λ_=>none) (cellsFrom (s.heap.objs.size+1) scope.names []) (bindC (envOfC qual scope s.heap.objs.size f cd).kindOf (ps.zip us) λ_=>none) s1):
  Inv (cxOf CX P w K mg base N qual scope f cd A outer s H E) [] (start N vs) H s1:=by
 have hpl:ps.length<=N.length:=by have:=Rn List.length S.pre;rw[Tv]at this;omega
 obtain⟨h1,tk,rfl,hk⟩:=x.done
 have noA:∀b:Addr,b∉(cxOf CX P w K mg base N qual scope f cd A outer s H E).ex:=λb z=>absurd (show b∈([]:List Addr) from z) (by simp)
 refine⟨⟨e0.mod,S.kind,rfl,rfl,Ui _,λy z c h1 h2=>?_,λy hy=>?_,λy c _ h=>?_,λ_=>hd,Around.frames_deeper e0.frames,.inr ⟨rfl,rfl⟩,λb z=>absurd z (noA b),e0.bs,e0.bsz,λb _ _=>noA b,λb z=>absurd z (noA b),e0.funs,e0.frf⟩,
  rfl,e0.bare,Un.kept hk,⟨_,x.toInCall.ns,λi y v h1 h2 h3=>?_⟩,λy c h=>⟨_,x.cell y c h⟩,e0.hok.fresh (Ui _),λy c h=>?_,λp hp=>absurd (show p∈([]:List (Addr×Obj)) from hp) (by simp),e0.hok.kept hk,?_⟩
 ·exact name_of_addr x.apart (Ts h1) (Ts h2)
 ·have hy:scope.names.lookup y=some .cell\/scope.names.lookup y=some .free:=hy
  rcases hy with hy|hy
  ·exact QfL hy
  ·exact absurd rfl (S.nofree _ (Ts hy))
 ·exact UY (x.above y c (Ts h))
 ·have hi:i<vs.length:=by
   unfold start at h2
   by_cases hi:i<vs.length
   ·exact hi
   ·rw[Ux (by simpa using hi)]at h2
    rw[TM]at h2
    split at h2 <;> cases h2
  have ha:vs[i]?=some v:=by
   unfold start at h2
   rw[Ut (by simpa using hi),Uy]at h2
   cases e:vs[i]? with
   |none=>rw[e]at h2;cases h2
   |some a=>rw[e]at h2;cases h2;rfl
  obtain⟨u,hu,rv⟩:=r.get ha
  have hp:ps[i]?=some y:=by
   rw[<-S.pre,List.getElem?_take_of_lt (by omega)];exact h1
  have ndP:ps.Nodup:=by rw[<-S.pre];exact S.nd.sublist (List.take_sublist _ _)
  refine⟨u,rv,?_⟩
  rcases S.par y (U4 hp) with k|k
  ·exact .inl ⟨k,Qed ndP hp hu k⟩
  ·obtain⟨c,e⟩:=QfL (n:=s.heap.objs.size+1) k
   refine .inr ⟨.inl k,c,e,?_⟩
   have q:=x.cell y c e
   rw[Qee ndP hp hu (by show scope.names.lookup y≠_;rw[k];decide)]at q
   exact q
 ·exact e0.hok.fresh (UY (x.above y c (Ts h)))
 ·unfold start
  show _=N.length
  rw[Um,Uc,U1]
  omega
theorem QmB{CX:CXT}{P:Program}{w:World}{K:Frag}{mg:Str->Option Value}{base:Heap}{k:Nat}{f:Addr}{name qual:Str}{params:Arguments}{body:List Stmt}{scope:Scope}{dV kV doc pm cdv ct oc:Value}{an od:Option Addr}{osl:Array (Option Value)}{N ps:List Str}{sp:Sp}(lk:K.lookup f=some ⟨oc,od,.func (fnOf name qual params body scope dV kV doc pm an cdv ct),osl⟩)(hcd:codeIn K cdv qual=true)(S:FnScope N ps scope)(len:∀vs H Q E,sp vs H Q E->vs.length=ps.length)(hbody:∀(A:Around) (outer:List Env) (s:Shared) (H:Hp) (vs:List V) (Q:VK) (E:XK),Room k (A.deeper (envOfC qual scope s.heap.objs.size f cdv))->sp vs H Q E ->
   ∃t,PSs (cxOf CX P w K mg base N qual scope f cdv A outer s H E) body t/\t {nx:=λ_ H'=>Q .non H',rt:=Q} (start N vs) H):
  FnOk P w K mg base CX (k+1) f (fnOf name qual params body scope dV kV doc pm an cdv ct) ps sp:=by
 refine⟨len,λA outer s H args us vs Q E hr e0 hb r hsp=>?_⟩
 have hl:=len _ _ _ _ hsp
 have KX:K.In s.heap:=e0.mod.kin.keeps λb o e=>(e0.bs b o e).1
 have lim:s.heap.NoLimit:=e0.mod.nolimit.keeps λb o e=>(e0.bs b o e).1
 have hkind:∀y∈ps.zip us,scope.names.lookup y.1=some .local\/(scope.names.lookup y.1=some .cell/\((cellsFrom (s.heap.objs.size+1) scope.names []).lookup y.1).isSome=true):=λ⟨n,v⟩ hy=>by
  rcases S.par n (Ws hy).1 with q|q
  ·exact .inl q
  ·exact .inr ⟨q,Wi _ _ _ (.inl q)⟩
 refine codeAny_call_function hr.depth (KX _ _ lk) rfl S.co S.gen rfl (codeRec_of KX hcd) (hb _ _ _ _ ?_)
 refine wpAny_newFunctionEnv_cells S.kind hkind λenv he s1 x=>?_
 subst he
 refine⟨lim.keeps x.toInCall.keep,codeAny_func ?_⟩
 obtain⟨t,ht,hq⟩:=hbody A outer s H vs Q E (hr.deeper _) hsp
 have I:Inv (cxOf CX P w K mg base N qual scope f cdv A outer s H E) [] (start N vs) H s1:=Qht S hr.hd e0 hl r x
 refine U3 (ht [] s1 (start N vs) H _ I hq) (λfl s' hs=>?_) λe s' hs=>hs
 have fin:∀{σ':St}{H':Hp}{v:V}{u:Value},Inv (cxOf CX P w K mg base N qual scope f cdv A outer s H E) [] σ' H' s'->RelV v u->Q v H'->CE outer P w H s Q u s' :=
  λ{σ' H' v u} J rv q=>⟨v,H',J.os,J.bare,J.base,J.hok,rv,q⟩
 cases fl with
 |ret u =>
  obtain⟨v,σ',H',J,rv,q⟩:=hs
  exact fin J rv q
 |next =>
  obtain⟨σ',H',J,q⟩:=hs
  exact fin (v:=V.non) (u:=Value.none) J rfl q
 |brk =>
  obtain⟨_,_,_,q⟩:=hs
  exact False.elim q
 |cont =>
  obtain⟨_,_,_,q⟩:=hs
  exact False.elim q
end
section
section
variable{X:Cx}{x:Str}{p pos:Pos}{e:Expr}{es:List Expr}{t:TA}{id T:String}{r:List V->Hp->VK->Prop}
noncomputable def tCB(r:List V->Hp->VK->Prop)(t:TA):TE:=λσ H Q=>t σ H λvs H1=>r vs H1 Q
theorem QbE(hc:CallR X (.builtin id) r)(hg:Gl X x)(hm:X.mg x=none)(hv:bootBuiltins x=some (.builtin id))(ha:PA X (e::es) t)(hn:x ≠ "__name__":=by decide)(hdb:(x == ("__debug__" : Str))=false:=by decide)(he:starEach (e::es) X.env=(false,eval e X.env)::starEach es X.env:=by rfl)(hpl:(backTo pos (starEach es X.env)).any (·.1)=false:=by rfl):PE X (.Call (.Name x p) (e::es) [] pos) (tCB r t):=by
 intro pins s σ H Q I h
 refine Ra (Qd8 I hg hm hv ?_ hn hdb)
 exact PyProof.Rows.callWith_builtin1 (thn (ha pos pins s σ H _ I h) λus s1 ⟨vs,H1,I1,r1,q1⟩=>hc pins s1 σ H1 vs us Q I1 r1 q1) he hpl
theorem Qhu(hc:CallR X (.type T) r)(hg:Gl X x)(hm:X.mg x=none)(hv:bootBuiltins x=some (.type T))(ha:PA X (e::es) t)(hn:x ≠ "__name__":=by decide)(hdb:(x == ("__debug__" : Str))=false:=by decide)(he:starEach (e::es) X.env=(false,eval e X.env)::starEach es X.env:=by rfl)(hpl:(backTo pos (starEach es X.env)).any (·.1)=false:=by rfl):PE X (.Call (.Name x p) (e::es) [] pos) (tCB r t):=by
 intro pins s σ H Q I h
 refine Ra (Qd8 I hg hm hv ?_ hn hdb)
 exact T0 (thn (ha pos pins s σ H _ I h) λus s1 ⟨vs,H1,I1,r1,q1⟩=>hc pins s1 σ H1 vs us Q I1 r1 q1) he hpl
end
end
end L2
namespace HT
open PySem PyProof.Rows
section
open PySem.SeqAt
open PySem.AutoSeq1 (wpAny_loadPart')
open PySem.MeetsSeq PySem.MeetsSeq2 PySem.MeetsSeq3
end
section
variable{prog:Program}{w:World}{A:Around}{E:Value->Shared->Prop}{s:Shared}
theorem cat_tup{t b:Addr}{vs ws:List Value}{Q:Value->Shared->Prop}(ht:IsTup s.heap t vs.toArray)(hb:IsTup s.heap b ws.toArray)(hv:vs≠[])(h1:ws=[]->Q (.ref t) s)(h2:ws≠[]->Q (.ref s.heap.objs.size) {s with heap:=s.heap.push {cls:=.type "tuple",data:=.seq (vs++ws).toArray} })(hsz:vs.length+ws.length<=sizeLine):wpAny (model prog w) A (binaryOp .Add (.ref t) (.ref b)) Q E s:=by
 obtain⟨⟨cls,dd,data,sl⟩,ho,hc,n,hd⟩:=id ht
 obtain⟨⟨cls2,dd2,data2,sl2⟩,ho2,hc2,n2,hd2⟩:=id hb
 simp only at hc hd hc2 hd2
 subst hc hd hc2 hd2
 have e:vs.toArray++ws.toArray=(vs++ws).toArray:=by simp
 by_cases hw:ws=[]
 ·exact concat_meets ⟨_,ho,rfl⟩ ⟨_,ho2,rfl⟩ Wg seq_tuple_add Rj Rc (T8 _ _)
   (tuple_addW1 t b vs.toArray ws.toArray n n2 dd dd2 sl sl2 (by simpa using hv) (by simp[hw])) ⟨ho,ho2,h1 hw⟩
 ·refine concat_meets ⟨_,ho,rfl⟩ ⟨_,ho2,rfl⟩ Wg seq_tuple_add Rj Rc (T8 _ _)
   (tuple_addW2 t b vs.toArray ws.toArray n n2 dd dd2 sl sl2 (by simpa using hv) (by simpa using hw) (by rw[Ug,Ug];exact hsz)) ⟨ho,ho2,?_⟩
  rw[e]
  exact h2 hw
noncomputable def sIx(n d:Nat):Option Int->Nat
 |none=>d
 |some v=>if v<0 then (v+(n:Int)).toNat else min v.toNat n
theorem QmC(n d:Nat)(hd:d<=n)(o:Option Int):sIx n d o<=n:=by
 cases o with
 |none=>exact hd
 |some v =>
  show(if v<0 then (v+(n:Int)).toNat else min v.toNat n)<=n
  by_cases hv:v<0
  ·rw[Ue hv];omega
  ·rw[Uh hv];exact Nat.min_le_right _ _
theorem Qhv(v:Int)(n d:Nat):(if v<0 then max (v+(n:Int)) 0 else min v (n:Int))=((sIx n d (some v):Nat):Int):=by
 show(if v<0 then max (v+(n:Int)) 0 else min v (n:Int))=(((if v<0 then (v+(n:Int)).toNat else min v.toNat n):Nat):Int)
 by_cases hv:v<0
 ·simp only[Ue hv];omega
 ·simp only[Uh hv];omega
theorem Qgy(lo hi:Option Int)(n:Nat):Builtin.Slice.sliceAdjust lo hi 1 (n:Int)=(((sIx n 0 lo:Nat):Int),((sIx n n hi:Nat):Int)):=by
 have h1:¬((1:Int)<0):=by omega
 unfold Builtin.Slice.sliceAdjust
 simp only[h1,TL]
 refine Prod.ext ?_ ?_
 ·cases lo with
  |none=>rfl
  |some v=>exact Qhv v n 0
 ·cases hi with
  |none=>rfl
  |some v=>exact Qhv v n n
theorem Qgz(i j:Nat):Builtin.Slice.slicePlaces (i:Int) (j:Int) 1=j-i:=by
 unfold Builtin.Slice.slicePlaces
 have h1:(1:Int) > 0:=by omega
 simp only[h1,TX,Int.ediv_one]
 split <;> omega
theorem QcR{v:Value}{o:Option Int}{Q:Option Int->Shared->Prop}(p:IsPart v o)(h:Q o s):wpAny (model prog w) A (Builtin.Slice.slicePartIndex v) Q E s:=by
 cases p with
 |none=>exact slicePart_none h
 |int i t=>exact slicePart_int h
theorem sliceApplied_gen{sl:Addr}{vl vu:Value}{lo hi:Option Int}{n:Nat}{Q:Int×Int×Nat->Shared->Prop}(hs:s.heap.IsSliceOf sl vl vu .none)(pl:IsPart vl lo)(pu:IsPart vu hi)(h:Q (((sIx n 0 lo:Nat):Int),1,sIx n n hi-sIx n 0 lo) s):wpAny (model prog w) A (Builtin.Slice.sliceApplied (.ref sl) (pure (n:Int))) Q E s:=by
 obtain⟨os,hos,hcs,hds⟩:=id hs
 unfold Builtin.Slice.sliceApplied Builtin.Slice.sliceFields
 refine Ua (Ua (UQ hos hds (x:=vl) rfl (Ua (UQ hos hds (x:=vu) rfl (Ua (UQ hos hds (x:=.none) rfl (Uj ?_)))))))
 refine Ua (slicePart_none ?_)
 show wpAny _ _ (if ((1:Int) == 0)=true then _ else _) _ _ s
 rw[Uh (by decide)]
 refine Ua (QcR pl (Ua (QcR pu (Ua (Uj ?_)))))
 show wpAny _ _ (match Builtin.Slice.sliceAdjust lo hi 1 (n:Int) with|(lo,hi)=>pure (lo,(1:Int),Builtin.Slice.slicePlaces lo hi 1)) _ _ s
 rw[Qgy lo hi n]
 show wpAny _ _ (pure (((sIx n 0 lo:Nat):Int),(1:Int),Builtin.Slice.slicePlaces ((sIx n 0 lo:Nat):Int) ((sIx n n hi:Nat):Int) 1)) _ _ s
 rw[Qgz]
 exact Uj h
theorem Qjy(xs:Array Value)(i k:Nat):((List.range k).filterMap λ(m:Nat)=>xs[((i:Int)+(m:Int)*1).toNat]?).toArray=((xs.toList.drop i).take k).toArray:=by
 have e:(λ(m:Nat)=>xs[((i:Int)+(m:Int)*1).toNat]?)=λm=>xs[i+m]?:=by
  funext m
  have:((i:Int)+(m:Int)*1).toNat=i+m:=by omega
  rw[this]
 rw[e]
 have:=pick_run xs i k
 rw[List.filterMap_map]at this
 have e2:((λx=>xs[x]?) ∘ λx=>i+x)=λm=>xs[i+m]?:=rfl
 rw[e2]at this
 rw[this]
theorem getItem_tuple_cut{t sl:Addr}{items:Array Value}{vl vu:Value}{lo hi:Option Int}{Q:Value->Shared->Prop}(ht:IsTup s.heap t items)(hs:s.heap.IsSliceOf sl vl vu .none)(pl:IsPart vl lo)(pu:IsPart vu hi)(hw:¬(sIx items.size 0 lo=0/\sIx items.size items.size hi=items.size))(h:Q (.ref s.heap.objs.size) {s with heap:=s.heap.push {cls:=.type "tuple",data:=.seq ((items.toList.drop (sIx items.size 0 lo)).take (sIx items.size items.size hi-sIx items.size 0 lo)).toArray} })(hsz:items.size<=sizeLine):wpAny (model prog w) A (getItem (.ref t) (.ref sl)) Q E s:=by
 have htake:sizeOk (.seq ((items.toList.drop (sIx items.size 0 lo)).take (sIx items.size items.size hi-sIx items.size 0 lo)).toArray):=by
  show((items.toList.drop (sIx items.size 0 lo)).take (sIx items.size items.size hi-sIx items.size 0 lo)).toArray.size<=sizeLine
  rw[Ug,Tv,TN,Tr]
  omega
 have hj:sIx items.size items.size hi<=items.size:=QmC _ _ (Ui _) hi
 obtain⟨os,hos,hcs,hds⟩:=id hs
 have hTs:s.TypeIs (.ref sl) "slice":=⟨os,hos,hcs⟩
 unfold getItem
 try with_reducible refine Rr ?_
 first|refine Ua (Uj ?_)|skip
 refine Ua (wpAny_sequenceKey ht.typeIs (by decide) ?_)
 refine Ua (U9 (name:=Str.ofString "__getitem__") ht.typeIs UU
  (TQ UU ht.typeIs entry_tuple_getitem ?_ (args_tuple_getitem _ _)))
 show wpAny _ _ (Builtin.Tuple.tupleItemsOf (.ref t) >>= _) _ _ s
 refine Ua (tupleItemsOf_ ht ?_)
 refine Ua (wpAny_typeOf hTs ?_)
 rw[Ue (by decide)]
 refine Ua (sliceApplied_gen hs pl pu ?_)
 have hno:¬((((sIx items.size 0 lo:Nat):Int) == 0 && (1:Int) == 1 && (sIx items.size items.size hi-sIx items.size 0 lo) == items.size)=true):=by
  intro q
  rw[UD,UD]at q
  have q1:((sIx items.size 0 lo:Nat):Int)=0:=W2 q.1.1
  have q2:sIx items.size items.size hi-sIx items.size 0 lo=items.size:=W2 q.2
  exact hw ⟨by omega,by omega⟩
 show wpAny _ _ (if (((sIx items.size 0 lo:Nat):Int) == 0 && (1:Int) == 1 && (sIx items.size items.size hi-sIx items.size 0 lo) == items.size)=true then _ else _) _ _ s
 rw[Uh hno,Qjy]
 first
  |exact Ua (m:=Builtin.Tuple.tupleExact _) (Tf (Uj ⟨_,rfl,Uj h⟩) htake)
  |exact Ua (m:=Builtin.Tuple.tupleExact _) (Tf (Ua (Uj (Uj ⟨_,rfl,Uj h⟩))) htake)
  |exact Ua (Ua (m:=Builtin.Tuple.tupleExact _) (Tf (Uj (Uj ⟨_,rfl,Uj h⟩)) htake))
  |exact Ua (Ua (m:=Builtin.Tuple.tupleExact _) (Tf (Uj ⟨_,rfl,Uj h⟩) htake))
end
end HT
namespace L2
open PySem PySem.Spec PyProof.Rows
section
noncomputable abbrev TO:=St->Hp->(Option Int->Hp->Prop)->Prop
noncomputable def PO(X:Cx)(e:Option Expr)(t:TO):Prop :=
 ∀(pins:List (Addr×Obj))(s:Shared)(σ:St)(H:Hp)(Q:Option Int->Hp->Prop),Inv X pins σ H s->t σ H Q ->
  wpAny (model X.prog X.w) X.A (evalPart e X.env) (λu s'=>∃o H',Inv X pins σ H' s'/\IsPart u o/\Q o H') X.xe s
noncomputable def Qlc:TO:=λ_ H Q=>Q none H
noncomputable def QnV(t:TE):TO:=λσ H Q=>t σ H λx H1=>∃i,x=.int i/\Q (some i) H1
theorem intsAre_of{ns:List Int}:∀{us:List Value},Vals (ns.map V.int) us->IntsAre us ns:=by
 induction ns with
 |nil=>intro us r;rw[List.map_nil]at r;cases r;exact .nil
 |cons n ns ih =>
  intro us r
  rw[UJ]at r
  cases r with
  |cons r1 r2 =>
   obtain⟨t,e⟩:=r1
   subst e
   exact .cons n t (ih r2)
section
variable{X:Cx}{e:Expr}{te:TE}{lo hi:Option Expr}{tl th:TO}{pos p2:Pos}
theorem Qld:PO X none Qlc:=by
 intro pins s σ H Q I h
 rw[evalPart_none]
 exact Uj ⟨none,H,I,.none,h⟩
theorem Qle(h:PE X e te):PO X (some e) (QnV te):=by
 intro pins s σ H Q I hw
 rw[evalPart_some]
 refine thn (h pins s σ H _ I hw) λu s1 ⟨x,H1,I1,r1,q1⟩=>?_
 obtain⟨i,rfl,q⟩:=q1
 obtain⟨t,rfl⟩:=r1
 exact⟨some i,H1,I1,.int i t,q⟩
noncomputable def SlR(X:Cx)(r:V->Option Int->Option Int->Hp->VK->Prop):Prop :=
 ∀(pins:List (Addr×Obj))(s:Shared)(σ:St)(H:Hp)(x:V)(v vl vu:Value)(lo hi:Option Int)(sl:Addr)(Q:VK),Inv X pins σ H s->RelV x v->s.heap.IsSliceOf sl vl vu .none->IsPart vl lo->IsPart vu hi->r x lo hi H Q ->
  ∃T id,typeLookup (.type T) "__getitem__" = pure (some (.builtin id))/\s.TypeIs v T/\wpAny (model X.prog X.w) X.A (getItem v (.ref sl)) (EP X pins σ Q) X.xe s
theorem SlR.or{r r':V->Option Int->Option Int->Hp->VK->Prop}(h:SlR X r)(h':SlR X r'):SlR X (λx lo hi H Q=>r x lo hi H Q\/r' x lo hi H Q):=by
 intro pins s σ H x v vl vu lo hi sl Q I rx hs pl pu q
 rcases q with q|q
 ·exact h pins s σ H x v vl vu lo hi sl Q I rx hs pl pu q
 ·exact h' pins s σ H x v vl vu lo hi sl Q I rx hs pl pu q
noncomputable def tSl(r:V->Option Int->Option Int->Hp->VK->Prop)(te:TE)(tl th:TO):TE:=λσ H Q=>te σ H λx H1=>tl σ H1 λl H2=>th σ H2 λu H3=>r x l u H3 Q
theorem Qjz{r:V->Option Int->Option Int->Hp->VK->Prop}(hr:SlR X r)(he:PE X e te)(hl:PO X lo tl)(hu:PO X hi th):PE X (.Subscript e (.Slice lo hi none p2) pos) (tSl r te tl th):=by
 intro pins s σ H Q I h
 refine Subscript_ (thn (he pins s σ H _ I h) λv s1 ⟨x,H1,I1,r1,q1⟩=>?_)
 refine wpAny_Slice (thn (hl pins s1 σ H1 _ I1 q1) λvl s2 ⟨l,H2,I2,pl,q2⟩=>thn (hu pins s2 σ H2 _ I2 q2) λvu s3 ⟨u,H3,I3,pu,q3⟩=>?_)
 rw[evalPart_none]
 refine Uj ?_
 have I4:Inv X pins σ H3 {s3 with heap:=s3.heap.push {cls:=.type "slice",data:=.fields #[vl,vu,.none]} }:=I3.kept (t':=s3.toks) λb ob q=>Ub _ q
 obtain⟨T,id,hT,ht,hg⟩:=hr pins {s3 with heap:=s3.heap.push {cls:=.type "slice",data:=.fields #[vl,vu,.none]} } σ H3 x v vl vu l u s3.heap.objs.size Q I4 r1 (Heap.IsSliceOf.new ..) pl pu q3
 show wpAny (model X.prog X.w) X.A (subscriptTail e (.Slice lo hi none p2) v (.ref s3.heap.objs.size)) (EP X pins σ Q) X.xe {s3 with heap:=s3.heap.push {cls:=.type "slice",data:=.fields #[vl,vu,.none]} }
 exact tail_any (ops:=[.ref s3.heap.objs.size,v]) ht hT hg (by with_unfolding_all rfl)
noncomputable def cutV(xs:List V)(lo hi:Option Int):List V:=(xs.drop (HT.sIx xs.length 0 lo)).take (HT.sIx xs.length xs.length hi-HT.sIx xs.length 0 lo)
theorem QbV(xs:List V)(lo hi:Option Int):(cutV xs lo hi).length<=xs.length:=by
 unfold cutV
 rw[Tv,TN]
 omega
noncomputable def rSlT(K:Frag):V->Option Int->Option Int->Hp->VK->Prop:=λx lo hi H Q=>∃a xs,x=.ref a/\SqT K H a xs /\
 ¬(HT.sIx xs.length 0 lo=0/\HT.sIx xs.length xs.length hi=xs.length)/\∀p,H p=none->Q (.ref p) (upd H p (.tup (cutV xs lo hi)))
theorem sl_tup:SlR X (rSlT X.K):=by
 intro pins s σ H x v vl vu lo hi sl Q I rx hs pl pu h
 obtain⟨a,xs,rfl,hx,hw,q⟩:=h
 cases rx
 obtain⟨its,r,ht,hz⟩:=I.tuple hx
 have hlen:its.toArray.size=xs.length:=by rw[Ug];exact r.length.symm
 refine⟨"tuple",_,UU.lookup,ht.typeIs,?_⟩
 refine HT.getItem_tuple_cut ht hs pl pu (by rw[hlen];exact hw) ?_ (by rw[hlen];exact hz)
 rw[hlen]
 refine⟨.ref s.heap.objs.size,_,I.laid (t':=s.toks) (o:=.tup (cutV xs lo hi)) (λb ob q=>Ub _ q) (Ui _) ?_,rfl,q _ (I.hok.fresh (Ui _))⟩
 exact⟨Ur (QbV xs lo hi) hz,_,(r.drop (HT.sIx xs.length 0 lo)).take (HT.sIx xs.length xs.length hi-HT.sIx xs.length 0 lo),IsTup.new _ _⟩
noncomputable def QmD(K:Frag):R2:=λx y H Q=>∃a b xs ys,x=.ref a/\y=.ref b/\SqT K H a xs/\SqT K H b ys/\xs≠[]/\xs.length+ys.length<=sizeLine /\
 (ys=[]->Q (.ref a) H)/\(ys≠[]->∀p,H p=none->Q (.ref p) (upd H p (.tup (xs++ys))))
theorem Vals.nil_iff{xs:List V}{us:List Value}(r:Vals xs us):us=[]↔xs=[]:=by
 cases r with
 |nil=>simp
 |cons _ _=>simp
theorem Qlf:OpR X (binaryOp .Add) (QmD X.K):=by
 intro pins s σ H x y v u Q I rx ry h
 obtain⟨a,b,xs,ys,rfl,rfl,ha,hb,hx,hz,q1,q2⟩:=h
 cases rx
 cases ry
 obtain⟨its,r1,p1,_⟩:=I.tuple ha
 obtain⟨its2,r2,p2,_⟩:=I.tuple hb
 refine HT.cat_tup p1 p2 (λz=>hx (r1.nil_iff.mp z)) (λz=>⟨.ref a,H,I,rfl,q1 (r2.nil_iff.mp z)⟩) (λz=>?_) (by rw[<-r1.length,<-r2.length];exact hz)
 refine⟨.ref s.heap.objs.size,_,I.laid (t':=s.toks) (o:=.tup (xs++ys)) (λb ob q=>Ub _ q) (Ui _) ?_,rfl,q2 (λw=>z (r2.nil_iff.mpr w)) _ (I.hok.fresh (Ui _))⟩
 exact⟨by rw[Um];exact hz,_,r1.append r2,IsTup.new _ _⟩
end
end
section
noncomputable def ixN(n:Nat)(i:Int):Option Nat:=if 0<=i then (if i<n then some i.toNat else none) else if -(n:Int)<=i then some (i+n).toNat else none
noncomputable def atI{α:Type}(xs:List α)(i:Int):Option α:=(ixN xs.length i).bind λj=>xs[j]?
theorem Qhw{n:Nat}{i:Int}{j:Nat}(h:ixN n i=some j):seqIndex? i n=some j/\j<n /\ -(n:Int)<=i/\i<n:=by
 unfold ixN at h
 by_cases h0:0<=i
 ·rw[Ue h0]at h
  by_cases h1:i<n
  ·rw[Ue h1]at h
   have e:i.toNat=j:=Option.some.inj h
   exact⟨by rw[seqIndex_of h0 h1,e],by omega,by omega,h1⟩
  ·rw[Uh h1]at h;cases h
 ·rw[Uh h0]at h
  by_cases h1 : -(n:Int)<=i
  ·rw[Ue h1]at h
   have e:(i+n).toNat=j:=Option.some.inj h
   exact⟨by rw[seqIndex_neg (by omega) h1,e],by omega,h1,by omega⟩
  ·rw[Uh h1]at h;cases h
theorem Qe7{α:Type}{xs:List α}{i:Int}{v:α}(h:atI xs i=some v):∃j,seqIndex? i xs.length=some j/\xs[j]?=some v/\j<xs.length /\ -(xs.length:Int)<=i/\i<xs.length:=by
 unfold atI at h
 cases e:ixN xs.length i with
 |none=>rw[e]at h;cases h
 |some j =>
  rw[e]at h
  obtain⟨h1,h2,h3,h4⟩:=Qhw e
  exact⟨j,h1,h,h2,h3,h4⟩
def Qdj(b:Expr):Prop:=∀o i,subscripted b false o i=operate [o,i] (getItem o i)
noncomputable def IxR(X:Cx)(r:R2):Prop :=
 ∀(value slice:Expr)(pins:List (Addr×Obj))(s:Shared)(σ:St)(H:Hp)(x y:V)(v u:Value)(Q:VK),Inv X pins σ H s->RelV x v->RelV y u->r x y H Q ->
  subscripted slice false v u=operate [v,u] (getItem v u)->wpAny (model X.prog X.w) X.A (subscriptTail value slice v u) (EP X pins σ Q) X.xe s
noncomputable def MtR(X:Cx)(id:String)(r:V->List V->Hp->VK->Prop):Prop :=
 ∀(pins:List (Addr×Obj))(s:Shared)(σ:St)(H:Hp)(x:V)(xs:List V)(v:Value)(us:List Value)(Q:VK),Inv X pins σ H s->RelV x v->Vals xs us->r x xs H Q ->
  wpAny (model X.prog X.w) X.A (call (.builtin id) (v::us)) (EP X pins σ Q) X.xe s
section
variable{X:Cx}{a b:Expr}{ta tb:TE}{pos:Pos}
theorem IxR.or{r r':R2}(h:IxR X r)(h':IxR X r'):IxR X (λx y H Q=>r x y H Q\/r' x y H Q):=by
 intro value slice pins s σ H x y v u Q I rx ry q hs
 rcases q with q|q
 ·exact h value slice pins s σ H x y v u Q I rx ry q hs
 ·exact h' value slice pins s σ H x y v u Q I rx ry q hs
theorem MtR.or{id:String}{r r':V->List V->Hp->VK->Prop}(h:MtR X id r)(h':MtR X id r'):MtR X id (λx xs H Q=>r x xs H Q\/r' x xs H Q):=by
 intro pins s σ H x xs v us Q I rx rs q
 rcases q with q|q
 ·exact h pins s σ H x xs v us Q I rx rs q
 ·exact h' pins s σ H x xs v us Q I rx rs q
theorem QnW{r:R2}(hr:IxR X r)(ha:PE X a ta)(hb:PE X b tb)(hs:Qdj b):PE X (.Subscript a b pos) (tOp r ta tb):=by
 intro pins s σ H Q I h
 exact Subscript_ (binT ha hb I h λv u s2 x y H2 I2 rx ry q=>hr a b pins s2 σ H2 x y v u Q I2 rx ry q (hs _ _))
noncomputable def rIxL(K:Frag):R2:=λx y H Q=>∃p xs i v,x=.ref p/\y=.int i/\SqL K H p xs/\atI xs i=some v/\Q v H
noncomputable def rIxT(K:Frag):R2:=λx y H Q=>∃p xs i v,x=.ref p/\y=.int i/\SqT K H p xs/\atI xs i=some v/\Q v H
noncomputable def rIxS:R2:=λx y H Q=>∃z i c,x=.str z/\y=.int i/\z.length<=sizeLine/\atI z.cps.toList i=some c/\Q (.str ⟨#[c]⟩) H
theorem ix_list:IxR X (rIxL X.K):=by
 intro value slice pins s σ H x y v u Q I rx ry h hs
 obtain⟨p,xs,i,z,rfl,rfl,hq,he,q⟩:=h
 cases rx
 obtain⟨t,rfl⟩:=ry
 obtain⟨its,r,pl,hz⟩:=I.list hq
 obtain⟨j,h1,h2,h3,h4,h5⟩:=Qe7 he
 obtain⟨w,ew,rw'⟩:=r.get h2
 have hl:=r.length
 have hn:=Qea
 have fin:EP X pins σ Q w s:=⟨z,H,I,rw',q⟩
 by_cases h0:0<=i
 ·have hj:i.toNat=j:=by
   rw[seqIndex_of h0 h5]at h1
   exact Option.some.inj h1
  exact item_listR pl.isList h0 (by omega) (by rw[hj];simpa using ew) fin hs
 ·have hj:(i+(its.toArray.size:Int)).toNat=j:=by
   rw[seqIndex_neg (by omega) h4]at h1
   rw[Ug,<-hl]
   exact Option.some.inj h1
  exact subscriptTail_builtinR (x:=w) pl.isList.typeIs slot_list_getitem.lookup
   (wpAny_getItem_list_neg (Q:=λr s'=>r=w/\EP X pins σ Q r s') pl.isList (by omega) (by rw[Ug] <;> omega) (by omega) (by rw[hj];simpa using ew) ⟨rfl,fin⟩) hs
theorem ix_tup:IxR X (rIxT X.K):=by
 intro value slice pins s σ H x y v u Q I rx ry h hs
 obtain⟨p,xs,i,z,rfl,rfl,hq,he,q⟩:=h
 cases rx
 obtain⟨t,rfl⟩:=ry
 obtain⟨its,r,pl,hz⟩:=I.tuple hq
 obtain⟨j,h1,h2,h3,h4,h5⟩:=Qe7 he
 obtain⟨w,ew,rw'⟩:=r.get h2
 have hl:=r.length
 have hn:=Qea
 have fin:EP X pins σ Q w s:=⟨z,H,I,rw',q⟩
 exact subscriptTail_builtinR (x:=w) pl.typeIs slot_tuple_getitem.lookup
  (getItem_tuple (j:=j) (Q:=λr s'=>r=w/\EP X pins σ Q r s') pl (by omega) (by omega) (by rw[Ug,<-hl];exact h1) (by simpa using ew) ⟨rfl,fin⟩) hs
theorem QmE:IxR X rIxS:=by
 intro value slice pins s σ H x y v u Q I rx ry h hs
 obtain⟨z,i,c,rfl,rfl,hz,he,q⟩:=h
 obtain⟨t,rfl⟩:=rx
 obtain⟨t',rfl⟩:=ry
 obtain⟨j,h1,h2,h3,h4,h5⟩:=Qe7 he
 have hl:z.cps.toList.length=z.length:=by simp[Str.length]
 rw[hl]at h1 h4 h5
 have hn:=Qea
 exact tail_any (typeIs_str s z t) slot_str_getitem.lookup (getItem_str (c:=c) (by
  have e1:decide (i < -(2^63:Int))=false:=Ul (by omega)
  have e2:decide (i>=2^63)=false:=Ul (by omega)
  rw[e1,e2,RZ]) (by rw[h1];simpa using h2) ⟨.str ⟨#[c]⟩,H,I.tok _,⟨_,rfl⟩,q⟩) hs
noncomputable def rIx(K:Frag):R2:=λx y H Q=>rIxL K x y H Q\/rIxT K x y H Q\/rIxS x y H Q
theorem QmF:IxR X (rIx X.K):=ix_list.or (ix_tup.or QmE)
theorem QgA(its:List Value)(n j:Nat)(u:Value):Obj.mapSeq (·.setIfInBounds j u) {cls:=.type "list",data:=.seq its.toArray n} = {cls:=.type "list",data:=.seq (its.set j u).toArray n}:=by
 simp[Obj.mapSeq]
theorem Inv.lst{pins:List (Addr×Obj)}{σ:St}{H:Hp}{s:Shared}{p:Addr}{xs:List V}(I:Inv X pins σ H s)(h:H p=some (.lst xs)):
  ∃(its:List Value)(n:Nat),Vals xs its/\s.heap.get? p=some {cls:=.type "list",data:=.seq its.toArray n}/\xs.length<=sizeLine:=by
 obtain⟨z,its,n,r,e⟩:=I.hok p _ h
 exact⟨its,n,r,e,z⟩
theorem Inv.lstUpd{pins:List (Addr×Obj)}{σ:St}{H:Hp}{s:Shared}{p:Addr}{xs ys:List V}{its its':List Value}{n n':Nat}{f:Obj->Obj}(I:Inv X pins σ H s)(h:H p=some (.lst xs))(ho:s.heap.get? p=some {cls:=.type "list",data:=.seq its.toArray n})(hf:f {cls:=.type "list",data:=.seq its.toArray n} = {cls:=.type "list",data:=.seq its'.toArray n'})(r:Vals ys its')(hz:ys.length<=sizeLine)(t:Nat):
  Inv X pins σ (upd H p (.lst ys)) {s with heap:=s.heap.update p f,toks:=t}:=by
 have e:(s.heap.update p f).get? p=some {cls:=.type "list",data:=.seq its'.toArray n'}:=by
  rw[Rm f ho (by rw[hf] <;> rfl),hf]
 refine I.write (x:=p) (e:=p) (by rw[h];trivial) (.inl rfl) (λb u hb q=>(U6 _ _ (Ne.symm hb)).trans q) ⟨_,e⟩ ?_
 exact⟨hz,its',n',r,e⟩
noncomputable def QnX:V->V->V->Hp->(Hp->Prop)->Prop:=λo i v H Q=>∃p xs k j,o=.ref p/\i=.int k/\H p=some (.lst xs)/\ixN xs.length k=some j/\Q (upd H p (.lst (xs.set j v)))
theorem QjA:PSet X QnX:=by
 intro pins s σ H o i v ov iv u Q I ro ri rv h
 obtain⟨p,xs,k,j,rfl,rfl,hp,hj,q⟩:=h
 cases ro
 obtain⟨t,rfl⟩:=ri
 obtain⟨its,n,r,ho,hz⟩:=I.lst hp
 obtain⟨h1,h2,h3,h4⟩:=Qhw hj
 have hl:=r.length
 have hn:=Qea
 have I':Inv X pins σ (upd H p (.lst (xs.set j v))) {s with heap:=s.heap.update p (Obj.mapSeq (·.setIfInBounds j u))} :=
  I.lstUpd hp ho (QgA its n j u) (r.set rv j) (by rw[UN];exact hz) s.toks
 by_cases h0:0<=k
 ·have hk:k.toNat=j:=by
   rw[seqIndex_of h0 h4]at h1
   exact Option.some.inj h1
  exact ki_setAt ho h0 (by omega) (by rw[Ug,<-hl];exact h4) (by rw[hk];exact⟨_,I',q⟩)
 ·have hk:(k+(its.toArray.size:Int)).toNat=j:=by
   rw[seqIndex_neg (by omega) h3]at h1
   rw[Ug,<-hl]
   exact Option.some.inj h1
  exact ki_setBack ho (by omega) (by rw[Ug,<-hl];exact h3) (by omega) (by rw[hk];exact⟨_,I',q⟩)
theorem Qef(lo hi:Option Int)(n:Nat):(sliceBounds lo hi none n).1=((HT.sIx n 0 lo:Nat):Int)/\(sliceBounds lo hi none n).2.1=((HT.sIx n n hi:Nat):Int)/\(sliceBounds lo hi none n).2.2=1:=by
 refine⟨?_,?_,rfl⟩
 ·cases lo with
  |none=>simp[sliceBounds,HT.sIx]
  |some i =>
   simp only[sliceBounds,HT.sIx,Option.getD_none,show(1:Int) > 0 by decide,TX]
   by_cases h:i<0
   ·simp only[h,TX] <;> omega
   ·simp only[h,TL] <;> omega
 ·cases hi with
  |none=>simp[sliceBounds,HT.sIx]
  |some i =>
   simp only[sliceBounds,HT.sIx,Option.getD_none,show(1:Int) > 0 by decide,TX]
   by_cases h:i<0
   ·simp only[h,TX] <;> omega
   ·simp only[h,TL] <;> omega
theorem Qdk(its:List Value)(lo hi:Option Int):slicePick its.toArray lo hi none=((its.drop (HT.sIx its.length 0 lo)).take (HT.sIx its.length its.length hi-HT.sIx its.length 0 lo)).toArray:=by
 obtain⟨h1,h2,h3⟩:=Qef lo hi its.toArray.size
 unfold slicePick
 rw[h1,h2,h3]
 simp only[sliceRange_one,pick_run,Ug] <;> rfl
noncomputable def rSlL(K:Frag):V->Option Int->Option Int->Hp->VK->Prop:=λx lo hi H Q=>∃a xs,x=.ref a/\SqL K H a xs/\∀p,H p=none->Q (.ref p) (upd H p (.lst (cutV xs lo hi)))
theorem Qlg:SlR X (rSlL X.K):=by
 intro pins s σ H x v vl vu lo hi sl Q I rx hs pl pu h
 obtain⟨a,xs,rfl,hx,q⟩:=h
 cases rx
 obtain⟨its,r,ht,hz⟩:=I.list hx
 have hlen:=r.length
 refine⟨"list",_,slot_list_getitem.lookup,ht.isList.typeIs,?_⟩
 refine wpAny_getItem_list_slice ht.isList hs pl pu .none (by simp) ?_ (by rw[Ug] <;> omega)
 rw[Qdk,<-hlen]
 refine⟨.ref s.heap.objs.size,_,I.laid (t':=s.toks) (o:=.lst (cutV xs lo hi)) (λb ob q=>Ub _ q) (Ui _) ?_,rfl,q _ (I.hok.fresh (Ui _))⟩
 exact⟨Ur (QbV xs lo hi) hz,_,0,(r.drop (HT.sIx xs.length 0 lo)).take (HT.sIx xs.length xs.length hi-HT.sIx xs.length 0 lo),Us _ rfl⟩
noncomputable def QcB:V->Bool
 |.non=>true
 |.bl _=>true
 |.int _=>true
 |.str _=>true
 |_=>false
noncomputable def eqV:V->V->Bool
 |.non,.non=>true
 |.bl a,.bl b=>a == b
 |.bl a,.int b=>(if a then 1 else 0) == b
 |.int a,.bl b=>a == (if b then 1 else 0)
 |.int a,.int b=>a == b
 |.str a,.str b=>a == b
 |_,_=>false
theorem QmG{A:Around}{s:Shared}{y x:V}{u v:Value}(ry:RelV y u)(rx:RelV x v)(fy:QcB y=true)(fx:QcB x=true):SeqAt.EqAt A s u v (eqV y x):=by
 cases y with
 |non =>
  cases ry
  cases x with
  |non=>cases rx;exact Rx _
  |bl b=>cases rx;exact SeqAt.EqAt.none_bool b
  |int b=>obtain⟨t,rfl⟩:=rx;exact SeqAt.EqAt.none_int b t
  |str b=>obtain⟨t,rfl⟩:=rx;exact SeqAt.EqAt.none_str b t
  |_=>exact absurd (show false=true from fx) Uf
 |bl a =>
  cases ry
  cases x with
  |non=>cases rx;exact SeqAt.EqAt.bool_none a
  |bl b=>cases rx;exact SeqAt.EqAt.bool_bool a b
  |int b=>obtain⟨t,rfl⟩:=rx;exact SeqAt.EqAt.bool_int a b t
  |str b=>obtain⟨t,rfl⟩:=rx;exact SeqAt.EqAt.bool_str a b t
  |_=>exact absurd (show false=true from fx) Uf
 |int a =>
  obtain⟨t',rfl⟩:=ry
  cases x with
  |non=>cases rx;exact SeqAt.EqAt.int_none a t'
  |bl b=>cases rx;exact SeqAt.EqAt.int_bool a t' b
  |int b=>obtain⟨t,rfl⟩:=rx;exact SeqAt.EqAt.int_int a t' b t
  |str b=>obtain⟨t,rfl⟩:=rx;exact RH a t' b t
  |_=>exact absurd (show false=true from fx) Uf
 |str a =>
  obtain⟨t',rfl⟩:=ry
  cases x with
  |non=>cases rx;exact SeqAt.EqAt.str_none a t'
  |bl b=>cases rx;exact SeqAt.EqAt.str_bool a t' b
  |int b=>obtain⟨t,rfl⟩:=rx;exact RI a t' b t
  |str b=>obtain⟨t,rfl⟩:=rx;exact SeqAt.EqAt.str_str a t' b t
  |_=>exact absurd (show false=true from fx) Uf
 |_=>exact absurd (show false=true from fy) Uf
noncomputable def eqU(x:V)(u:Value):Bool:=match u with
 |.none=>eqV .non x
 |.bool b=>eqV (.bl b) x
 |.int i _=>eqV (.int i) x
 |.str z _=>eqV (.str z) x
 |_=>false
theorem Qku{x y:V}{u:Value}(r:RelV y u)(f:QcB y=true):eqU x u=eqV y x:=by
 cases y with
 |non=>cases r;rfl
 |bl b=>cases r;rfl
 |int i=>obtain⟨t,rfl⟩:=r;rfl
 |str z=>obtain⟨t,rfl⟩:=r;rfl
 |_=>exact absurd (show false=true from f) Uf
theorem QbW{x:V}:∀{xs:List V}{us:List Value},Vals xs us->xs.all QcB=true->us.any (eqU x)=xs.any λy=>eqV y x
 |_,_,.nil,_=>rfl
 |y::xs,u::us,.cons r t,f=>by
  rw[Rs,UD]at f
  rw[Tl,Tl,Qku r f.1,QbW t f.2]
theorem QaN{A:Around}{s:Shared}{x:V}{v:Value}(rx:RelV x v)(fx:QcB x=true):∀{xs:List V}{us:List Value},Vals xs us->xs.all QcB=true->∀u∈us,SeqAt.EqAt A s u v (eqU x u)
 |_,_,.nil,_=>λu hu=>by cases hu
 |y::xs,u::us,.cons r t,f=>λu' hu=>by
  rw[Rs,UD]at f
  rcases Uu.mp hu with rfl|hu
  ·rw[Qku r f.1];exact QmG r rx f.1 fx
  ·exact QaN rx fx t f.2 u' hu
noncomputable def inV(x:V)(xs:List V):Bool:=xs.any λy=>eqV y x
noncomputable def rIn(K:Frag)(neg:Bool):R2:=λx y H Q=>∃p xs,y=.ref p/\(SqL K H p xs\/SqT K H p xs)/\QcB x=true/\xs.all QcB=true/\Q (.bl (if neg then !inV x xs else inV x xs)) H
theorem Qeg:OpR X (compareOp .In) (rIn X.K false):=by
 intro pins s σ H x y v u Q I rx ry h
 obtain⟨p,xs,rfl,hq,fx,fs,q⟩:=h
 cases ry
 rcases hq with hq|hq
 ·obtain⟨its,r,pl,hz⟩:=I.list hq
  refine SeqAt.in_listAt (eqU x) pl.isList (λw hw=>QaN rx fx r fs w (by simpa using hw)) ⟨.bl _,H,I,rfl,?_⟩
  rw[show its.toArray.any (eqU x)=its.any (eqU x) by simp,QbW r fs]
  exact q
 ·obtain⟨its,r,pl,hz⟩:=I.tuple hq
  refine SeqAt.in_tupleAt (eqU x) pl (λw hw=>QaN rx fx r fs w (by simpa using hw)) ⟨.bl _,H,I,rfl,?_⟩
  rw[show its.toArray.any (eqU x)=its.any (eqU x) by simp,QbW r fs]
  exact q
theorem Qeh:OpR X (compareOp .NotIn) (rIn X.K true):=by
 intro pins s σ H x y v u Q I rx ry h
 obtain⟨p,xs,rfl,hq,fx,fs,q⟩:=h
 cases ry
 rcases hq with hq|hq
 ·obtain⟨its,r,pl,hz⟩:=I.list hq
  refine SeqAt.notIn_listAt (eqU x) pl.isList (λw hw=>QaN rx fx r fs w (by simpa using hw)) ⟨.bl _,H,I,rfl,?_⟩
  rw[show its.toArray.any (eqU x)=its.any (eqU x) by simp,QbW r fs]
  exact q
 ·obtain⟨its,r,pl,hz⟩:=I.tuple hq
  refine SeqAt.notIn_tupleAt (eqU x) pl (λw hw=>QaN rx fx r fs w (by simpa using hw)) ⟨.bl _,H,I,rfl,?_⟩
  rw[show its.toArray.any (eqU x)=its.any (eqU x) by simp,QbW r fs]
  exact q
theorem Qei:CallR X (.builtin "len") (λxs H Q=>∃p ys,xs=[.ref p]/\(SqL X.K H p ys\/SqT X.K H p ys)/\Q (.int ys.length) H):=by
 intro pins s σ H xs us Q I r h
 obtain⟨p,ys,rfl,hq,q⟩:=h
 obtain⟨u,rfl,rx⟩:=Qhn r
 cases rx
 have hn:=Qea
 rcases hq with hq|hq
 ·obtain⟨its,r',pl,hz⟩:=I.list hq
  have hlen:=r'.length
  exact Calls.call_len_list pl.isList (by simp only[Ug] <;> omega) ⟨.int ys.length,H,I.tok _,⟨s.toks+1,by rw[Ug,hlen]⟩,q⟩
 ·obtain⟨its,r',pl,hz⟩:=I.tuple hq
  have hlen:=r'.length
  exact len_tuple pl (by simp only[Ug] <;> omega) ⟨.int ys.length,H,I.tok _,⟨s.toks+1,by rw[Ug,hlen]⟩,q⟩
theorem CallR.or{f:Value}{r r':List V->Hp->VK->Prop}(h:CallR X f r)(h':CallR X f r'):CallR X f (λxs H Q=>r xs H Q\/r' xs H Q):=by
 intro pins s σ H xs us Q I rs q
 rcases q with q|q
 ·exact h pins s σ H xs us Q I rs q
 ·exact h' pins s σ H xs us Q I rs q
theorem Qej:CallR X (.type "list") (λxs H Q=>∃p ys,xs=[.ref p]/\(SqL X.K H p ys\/SqT X.K H p ys)/\∀l,H l=none->Q (.ref l) (upd H l (.lst ys))):=by
 intro pins s σ H xs us Q I r h
 obtain⟨p,ys,rfl,hq,q⟩:=h
 obtain⟨u,rfl,rx⟩:=Qhn r
 cases rx
 have fin:∀(its:List Value),Vals ys its->ys.length<=sizeLine->∀(h':Heap)(c':Nat),(∀b o',s.heap.get? b=some o'->h'.get? b=some o') ->
   h'.get? s.heap.objs.size=some {cls:=.type "list",dict:=none,data:=.seq its.toArray c',slots:=#[]}->EP X pins σ Q (.ref s.heap.objs.size) {s with heap:=h'}:=λits r' hz h' c' kp e =>
  ⟨.ref s.heap.objs.size,_,I.laid (t':=s.toks) kp (Ui _) (show ObjOk X.prog X.w _ h' _ (.lst ys) from ⟨hz,its,c',r',e⟩),rfl,q _ (I.hok.fresh (Ui _))⟩
 rcases hq with hq|hq
 ·obtain⟨its,r',pl,hz⟩:=I.list hq
  have hlen:=r'.length
  obtain⟨o,ho,hc,n,hd⟩:=pl.isList
  exact call_list_seq p (.inl rfl) ho hc hd (λh' c' kp e=>fin its r' hz h' c' kp e) (by simp only[Ug] <;> omega)
 ·obtain⟨its,r',pl,hz⟩:=I.tuple hq
  have hlen:=r'.length
  obtain⟨o,ho,hc,n,hd⟩:=pl
  exact call_list_seq p (.inr rfl) ho hc hd (λh' c' kp e=>fin its r' hz h' c' kp e) (by simp only[Ug] <;> omega)
theorem Qdl:CallR X (.type "tuple") (λxs H Q=>∃p ys,xs=[.ref p]/\((SqL X.K H p ys/\∀l,H l=none->Q (.ref l) (upd H l (.tup ys)))\/(SqT X.K H p ys/\Q (.ref p) H))):=by
 intro pins s σ H xs us Q I r h
 obtain⟨p,ys,rfl,h⟩:=h
 obtain⟨u,rfl,rx⟩:=Qhn r
 cases rx
 rcases h with⟨hq,q⟩|⟨hq,q⟩
 ·obtain⟨its,r',pl,hz⟩:=I.list hq
  have hlen:=r'.length
  refine call_tuple_list pl.isList (λh' kp=>?_) (by simp only[Ug] <;> omega)
  have I1:Inv X pins σ H {s with heap:=h'}:=I.kept (t':=s.toks) kp
  have I2:Inv X pins σ (upd H h'.objs.size (.tup ys)) {s with heap:=h'.push {cls:=.type "tuple",data:=.seq its.toArray} } :=
   I1.laid (t':=s.toks) (λb o e=>Ub _ e) (Ui _) (show ObjOk X.prog X.w _ _ _ (.tup ys) from ⟨hz,its,r',IsTup.new _ _⟩)
  exact⟨.ref h'.objs.size,_,I2,rfl,q _ (I1.hok.fresh (Ui _))⟩
 ·obtain⟨its,r',pl,hz⟩:=I.tuple hq
  exact call_tuple_same pl ⟨.ref p,H,I,rfl,q⟩
def tyV(K:Frag)(T:String)(x:V)(H:Hp):Prop:=match x with
 |.str _=>T = "str"
 |.int _=>T = "int"
 |.ref p=>(T = "list" /\ ∃xs,SqL K H p xs)\/(T = "tuple" /\ ∃o,K.lookup p=some o/\o.cls=.type "tuple" /\ o.dict=none) \/
   (T = "dict" /\ ((∃kvs,H p=some (.dK kvs))\/∃kvs,H p=some (.dT kvs)))\/(T = "set" /\ ∃S n,H p=some (.set S n))
 |_=>False
theorem QmH{pins:List (Addr×Obj)}{σ:St}{H:Hp}{s:Shared}{T:String}{x:V}{v:Value}(I:Inv X pins σ H s)(r:RelV x v)(ty:tyV X.K T x H):
  s.TypeIs v T/\∀a,v=.ref a->∃ob,s.heap.get? a=some ob/\ob.dict=none:=by
 cases x with
 |str z =>
  obtain⟨t,rfl⟩:=r
  cases (show T = "str" from ty)
  exact⟨typeIs_str s z t,λ_ e=>nomatch e⟩
 |int i =>
  obtain⟨t,rfl⟩:=r
  cases (show T = "int" from ty)
  exact⟨typeIs_int s i t,λ_ e=>nomatch e⟩
 |ref p =>
  cases r
  rcases ty with⟨rfl,xs,hq⟩|⟨rfl,o,hk,hc,hd⟩|⟨rfl,hk⟩|⟨rfl,S,n,hk⟩
  ·obtain⟨its,_,pl,_⟩:=I.list hq
   refine⟨pl.isList.typeIs,λa e=>?_⟩
   cases e
   obtain⟨o,n,e,c,hd,_⟩:=pl
   exact⟨o,e,hd⟩
  ·refine⟨⟨o,I.kIn p o hk,hc⟩,λa e=>?_⟩
   cases e
   exact⟨o,I.kIn _ o hk,hd⟩
  ·have z:∃o,s.heap.get? p=some o/\o.ExactDict:=by
    rcases hk with⟨kvs,hk⟩|⟨kvs,hk⟩
    ·obtain⟨_,_,_,_,o,_,_,e,ex,_⟩:=I.hok p _ hk
     exact⟨o,e,ex⟩
    ·obtain⟨_,_,_,_,o,_,_,e,ex,_⟩:=I.hok p _ hk
     exact⟨o,e,ex⟩
   obtain⟨o,e,ex⟩:=z
   refine⟨⟨o,e,ex.1⟩,λa e2=>?_⟩
   cases e2
   exact⟨o,e,ex.2.1⟩
  ·obtain⟨o,_,_,_,e,ex,_⟩:=I.hok p _ hk
   refine⟨⟨o,e,ex.1⟩,λa e2=>?_⟩
   cases e2
   exact⟨o,e,ex.2.1⟩
 |_=>exact False.elim ty
noncomputable def tBM(K:Frag)(T:String)(r:V->List V->Hp->VK->Prop)(to:TE)(t:TA):TE:=λσ H Q=>to σ H λx H1=>tyV K T x H1/\t σ H1 λxs H2=>r x xs H2 Q
variable{o e:Expr}{es:List Expr}{to:TE}{t:TA}{name:Str}{apos cpos:Pos}{T id:String}{r:V->List V->Hp->VK->Prop}
theorem QjB(pa:PlainAttrs T)(slot:Slot T name id)(hty:typeOf (.builtin id)=pure (.type "method_descriptor"))(hm:MtR X id r)(ho:PE X o to)(ha:PA X (e::es) t)(hbase:attributeBase o name X.env (eval o X.env)=eval o X.env:=by rfl)(hfew:((backTo cpos (starEach (e::es) X.env)).all (λx=>!x.1) && (backToKw cpos (keywordEach [] X.env)).all (λx=>x.1.isSome)
   && decide ((e::es).length+([]:List Keyword).length+(if ([]:List Keyword).isEmpty then 0 else 1)<30))=true:=by rfl)(hline:(apos.endLine == cpos.line)=true:=by rfl)(hs:starEach (e::es) X.env=(false,eval e X.env)::starEach es X.env:=by rfl)(hplain:(backTo cpos (starEach es X.env)).any (·.1)=false:=by rfl):
  PE X (.Call (.Attribute o name apos) (e::es) [] cpos) (tBM X.K T r to t):=by
 intro pins s σ H Q I h
 refine wpAny_Call_method_late hbase hfew hline rfl (thn (ho pins s σ H _ I h) λv s1 ⟨x,H1,I1,r1,ty,q1⟩=>?_)
 obtain⟨h1,h2⟩:=QmH I1 r1 ty
 refine⟨T,id,pa,slot,hty,h1,h2,?_⟩
 have hA:=ha cpos pins s1 σ H1 _ I1 q1
 rw[hs]at hA ⊢
 refine Calls.callWith_builtin (by show(false || (backTo cpos (starEach es X.env)).any (·.1))=false;rw[hplain] <;> rfl) (Calls.evalArgs_plain ?_)
 exact thn hA λus s2 ⟨vs,H2,I2,r2,q2⟩=>hm pins s2 σ H2 x vs v us Q I2 r1 r2 q2
end
end
section
noncomputable def MtM(X:Cx)(id:String)(r:V->List V->Hp->VK->Prop):Prop :=
 ∀(pins:List (Addr×Obj))(s:Shared)(σ:St)(H:Hp)(x:V)(xs:List V)(v:Value)(us:List Value)(Q:VK),Inv X pins σ H s->RelV x v->Vals xs us->r x xs H Q ->
  wpAny (model X.prog X.w) X.A (call (.builtin id) (v::us)) (EP X pins σ Q) X.xe s
theorem Vals.one:∀{x:V}{us:List Value},Vals [x] us->∃u,us=[u]/\RelV x u
 |_,_,.cons r .nil=>⟨_,rfl,r⟩
theorem Vals.two:∀{x y:V}{us:List Value},Vals [x,y] us->∃u v,us=[u,v]/\RelV x u/\RelV y v
 |_,_,_,.cons r (.cons q .nil)=>⟨_,_,rfl,r,q⟩
theorem Vals.zero:∀{us:List Value},Vals [] us->us=[]
 |_,.nil=>rfl
theorem Vals.dropLast{xs:List V}{us:List Value}(h:Vals xs us):Vals xs.dropLast us.dropLast:=by
 induction h with
 |nil=>exact .nil
 |cons r t ih =>
  cases t with
  |nil=>exact .nil
  |cons q t'=>exact .cons r ih
theorem Vals.reverse{xs:List V}{us:List Value}(h:Vals xs us):Vals xs.reverse us.reverse:=by
 induction h with
 |nil=>exact .nil
 |cons r t ih=>rw[List.reverse_cons,List.reverse_cons];exact Vals.append ih (.cons r .nil)
theorem Vals.rep{xs:List V}{us:List Value}(h:Vals xs us):∀k:Nat,Vals (List.replicate k xs).flatten (List.replicate k us).flatten
 |0=>.nil
 |k+1=>by
  rw[Uw,Uw,UK,UK]
  exact Vals.append h (Vals.rep h k)
theorem foldl_rep(its:List Value):∀(k:Nat)(acc:List Value),
  List.foldl (λx1 x2=>x1++x2) acc.toArray (List.replicate k its.toArray)=(acc++(List.replicate k its).flatten).toArray
 |0,acc=>by simp
 |k+1,acc=>by
  have e:acc.toArray++its.toArray=(acc++its).toArray:=by simp
  have e2:(acc++its)++(List.replicate k its).flatten=acc++(List.replicate (k+1) its).flatten:=by
   rw[Uw,UK,UH]
  rw[<-e2,<-foldl_rep its k (acc++its),<-e,Uw,List.foldl_cons]
section
variable{X:Cx}{pins:List (Addr×Obj)}{σ:St}{H:Hp}{s:Shared}{l b:Addr}{xs ys zs:List V}
theorem Inv.lset{its its':List Value}{n:Nat}{f:Array Value->Array Value}{t':Nat}(I:Inv X pins σ H s)(hH:H l=some (.lst xs))(e:s.heap.get? l=some {cls:=.type "list",data:=.seq its.toArray n})(hf:f its.toArray=its'.toArray)(hv:Vals ys its')(hz:ys.length<=sizeLine):
  Inv X pins σ (upd H l (.lst ys)) {s with heap:=s.heap.update l (Obj.mapSeq f),toks:=t'}:=by
 have q:=PySem.IsL.update e f
 rw[hf]at q
 refine I.write (x:=l) (e:=l) (by rw[hH];exact trivial) (.inl rfl) (λb' u hb hu=>(U6 s.heap (Obj.mapSeq f) (Ne.symm hb)).trans hu) ⟨_,q⟩ ?_
 exact⟨hz,its',_,hv,q⟩
theorem Inv.lnew{its:List Value}{t':Nat}(I:Inv X pins σ H s)(hv:Vals ys its)(hz:ys.length<=sizeLine):
  Inv X pins σ (upd H s.heap.objs.size (.lst ys)) {s with heap:=s.heap.push {cls:=.type "list",data:=.seq its.toArray},toks:=t'} :=
 I.laid (λ_ _ q=>Ub _ q) (Ui _) ⟨hz,its,0,hv,Us _ rfl⟩
theorem Inv.fresh(I:Inv X pins σ H s):H s.heap.objs.size=none:=I.hok.fresh (Ui _)
theorem Inv.lstM(I:Inv X pins σ H s)(hH:H l=some (.lst xs)):xs.length<=sizeLine/\∃(its:List Value)(n:Nat),Vals xs its/\xs.length=its.length/\s.heap.get? l=some {cls:=.type "list",data:=.seq its.toArray n}:=by
 obtain⟨z,its,n,r,e⟩:=I.hok l _ hH
 exact⟨z,its,n,r,r.length,e⟩
theorem QfM{n:Nat}(h:n<=sizeLine):Builtin.List.listTooLong n=false:=by
 unfold Builtin.List.listTooLong
 exact Ul (by omega)
end
section
variable{X:Cx}
noncomputable def Qlh:V->List V->Hp->VK->Prop:=λx vs H Q=>∃l xs y,x=.ref l/\vs=[y]/\H l=some (.lst xs)/\xs.length<sizeLine/\Q .non (upd H l (.lst (xs++[y])))
theorem Qhx:MtM X "list.append" Qlh:=by
 intro pins s σ H x vs v us Q I rx rv h
 obtain⟨l,xs,y,rfl,rfl,hH,hz,q⟩:=h
 cases rx
 obtain⟨u,rfl,ru⟩:=rv.one
 obtain⟨z,its,n,r,hl,e⟩:=I.lstM hH
 refine Rh F.slot_list_append ⟨_,e,rfl⟩ F.entry_list_append (F.args_list_append_2 _ _) (PySem.list_append l its.toArray n u (by rw[Ug];omega)) ⟨e,?_⟩
 refine⟨.non,_,I.lset (its':=its++[u]) hH e (by simp) (r.append (.cons ru .nil)) ?_,rfl,q⟩
 rw[Um,Wv]
 omega
noncomputable def Qhy:V->List V->Hp->VK->Prop:=λx vs H Q=>∃l b xs zs,x=.ref l/\vs=[.ref b]/\H l=some (.lst xs)/\H b=some (.lst zs)/\xs.length+zs.length<=sizeLine/\Q .non (upd H l (.lst (xs++zs)))
theorem Qhz:MtM X "list.extend" Qhy:=by
 intro pins s σ H x vs v us Q I rx rv h
 obtain⟨l,b,xs,zs,rfl,rfl,hH,hB,hz,q⟩:=h
 cases rx
 obtain⟨u,rfl,ru⟩:=rv.one
 cases ru
 obtain⟨z,its,n,r,hl,e⟩:=I.lstM hH
 obtain⟨z2,its2,n2,r2,hl2,e2⟩:=I.lstM hB
 have hsz:its.toArray.size+its2.toArray.size<=sizeLine:=by rw[Ug,Ug];omega
 have hlong:¬(!its.toArray.isEmpty && Builtin.List.listTooLong (its.toArray.size+its2.toArray.size))=true:=by
  rw[QfM hsz,Bool.and_false]
  exact Uf
 refine Rh F.slot_list_extend ⟨_,e,rfl⟩ F.entry_list_extend (F.args_list_extend_2 _ _)
  (AutoSeq1.list_extend_list_list_0 l its.toArray n b its2.toArray n2 hlong (by rw[Ug];omega) (by omega)) ⟨e,e2,?_⟩
 refine⟨.non,_,I.lset (its':=its++its2) hH e (by simp) (r.append r2) ?_,rfl,q⟩
 rw[Um]
 omega
noncomputable def rCat:R2:=λx y H Q=>∃l b xs zs,x=.ref l/\y=.ref b/\H l=some (.lst xs)/\H b=some (.lst zs)/\xs.length+zs.length<=sizeLine/\∀p,H p=none->Q (.ref p) (upd H p (.lst (xs++zs)))
theorem QmI:OpR X (binaryOp .Add) rCat:=by
 intro pins s σ H x y v u Q I rx ry h
 obtain⟨l,b,xs,zs,rfl,rfl,hH,hB,hz,q⟩:=h
 cases rx
 cases ry
 obtain⟨z,its,n,r,hl,e⟩:=I.lstM hH
 obtain⟨z2,its2,n2,r2,hl2,e2⟩:=I.lstM hB
 refine PySem.P.add_list e e2 ?_ (by rw[Ug,Ug];omega)
 have ea:its.toArray++its2.toArray=(its++its2).toArray:=by simp
 rw[ea]
 exact⟨.ref _,_,I.lnew (t':=s.toks) (r.append r2) (by rw[Um];omega),rfl,q _ I.fresh⟩
theorem Qli{α:Type}(xs:List α)(k:Nat):(List.replicate k xs).flatten.length=k*xs.length:=by
 induction k with
 |zero=>simp
 |succ k ih=>rw[Uw,UK,Um,ih,Wo,Wp]
end
section
variable{prog:Program}{w:World}{A:Around}{E:Value->Shared->Prop}{s:Shared}
end
section
variable{X:Cx}
end
end
end L2
namespace Att
open PySem PySem.W PySem.Calls PyProof.Rows
theorem QbX{P:Params}{h:Heap}:∀(ns:List Int)(vs:List Value),WellAll P h vs (ns.map WData.int)->IntsAre vs ns:=by
 intro ns
 induction ns with
 |nil =>
  intro vs w
  rw[List.map_nil]at w
  cases w
  exact .nil
 |cons n ns ih =>
  intro vs w
  rw[UJ]at w
  cases w with
  |cons a b =>
   cases a
   exact .cons _ _ (ih _ b)
theorem QhA{l:OpenLaw}{n:Nat}(hn:l.most=some n){P:Params}{h:Heap}{args:List WData}{vals:List Value}(hpre:l.row.toRowW.claim.pre args=true)(hwl:WellAll P h vals args):
  ∃a vs ns,vals=[Value.ref a]/\args=[WData.list (ns.map WData.int)]/\h.get? a=some {cls:=.type "list",data:=.seq vs.toArray}/\IntsAre vs ns/\ns.length<=n:=by
 have hsh:WShape.hasAll [] args [.list .int]=true:=(pre_splitW hpre).1
 have hc:l.pre.holds [] {args:=args}=true:=(pre_splitW hpre).2
 obtain⟨d,r,rfl,h1,h2⟩:=hasAllW_cons hsh
 obtain rfl:=hasAllW_nil h2
 obtain⟨xs,rfl,h3⟩:=hasW_list h1
 obtain⟨ns,rfl⟩:=items_int h3
 have hlen:ns.length<=n:=by
  unfold OpenLaw.pre at hc
  have h4:(WTm.not (.lt (.lit (.int (n:Int))) (.len (.arg 0)))).holds [] {args:=[.list (ns.map .int)]}=true:=by
   have h4:=(holds_andW hc).1
   rw[hn]at h4
   exact h4
  have h5:=condW_of h4 (w_not (w_lt w_lit (w_len_list (w_arg rfl))))
  rw[Uc]at h5
  refine TR λq=>?_
  have q':(n:Int)<((ns.length:Nat):Int):=by omega
  first
   | (rw[Uz q']at h5;exact absurd h5 (by decide))
   | (simp at h5;omega)
 cases hwl with
 |cons w1 w2 =>
  cases w2
  cases w1 with
  |list ho hall=>exact⟨_,_,ns,rfl,rfl,ho,QbX ns _ hall,hlen⟩
theorem QhB(l:OpenLaw)(args:List WData):l.row.toRowW.claim.post args (.bool true) args=true :=
 postW_of (r:=l.row.toRowW) (X:=(true == true))
  (show WShape.has [] (.bool true) .bool=true by first|rfl|decide|simp[WShape.has,WShape.arms,WShape.armsAll])
  (show(WTm.eq .res (.lit (.bool true))).value [] {args:=args,res:=some (.bool true),after:=args}=some (.bool (true == true)) from w_eq_bool (w_res rfl) w_lit) rfl
theorem attach_call{l:OpenLaw}{n:Nat}{q:Program}{loose:List Str}{XP:(Str->Option Value)->Heap->Prop}{YP:World->Heap->Prop}{d:DefRec}(hn:l.most=some n)(hdf:d.params.defaults=[])(call:∀(w:World) (s₀ s₁:Shared) (mg mb:Str->Option Value) (fa:Addr) (o:Obj) (pm cd doc:Value) (a:Addr) (vs:List Value) (ns:List Int),
   Ground q loose [] XP w s₀ mg mb s₁.heap->YP w s₁.heap ->
   s₁.heap.get? fa=some o->o.data=.func (docDef d.name d.params d.body d.scope pm cd doc)->s₁.heap.CodeRec cd d.name->mg d.name=some (.ref fa) ->
   s₁.heap.get? a=some {cls:=.type "list",data:=.seq vs.toArray}->IntsAre vs ns->ns.length<=n->s₁.gens = #[] ->
   codeAny (model l.prog w) callerA (.call (.ref fa) ⟨[.ref a],[]⟩) (λr s'=>r=.ok (.ret (.bool true))/\OldK s₁.heap s'.heap/\s'.os=s₁.os/\AllBare s'.gens) s₁):
  WalkO q loose XP YP l.row.toRowW d [] (λf vs=>PySem.call f vs):=by
 intro w s₀ s₁ mg mb G Y fa o pm cd doc dV kV ho hd hcd hD hmg hg args vals as hpre hlay hrd hwl hlo
 obtain rfl:dV=.none:=Dflts.none hD hdf
 obtain rfl:kV=.none:=Dflts.noKw hD
 obtain⟨a,vs,ns,rfl,rfl,hobj,hints,hlen⟩:=QhA hn hpre hwl
 refine enter_call (Wq (call w s₀ s₁ mg mb fa o pm cd doc a vs ns G Y ho (fd_plain hd) hcd hmg hobj hints hlen hg) λr s' hq=>?_)
 obtain⟨rfl,h2,h3,h4⟩:=hq
 exact⟨.inl ⟨.bool true,.bool true,[],rfl,λ_=>rfl,.bool true,QhB l _,λ_=>⟨List.Pairwise.nil,λ_ hm=>(nomatch hm)⟩⟩,h2,h3,h4⟩
section
variable{prog:Program}{w:World}{A:Around}{E:Value->Shared->Prop}{s:Shared}{K:Frag}
end
end Att
namespace L2
open PySem PySem.Spec PyProof.Rows
section
theorem Qek:∀{vs:List Value}{ns:List Int},IntsAre vs ns->Vals (ns.map V.int) vs
 |_,_,.nil=>.nil
 |_,_,.cons n t h=>.cons ⟨t,rfl⟩ (Qek h)
def Only(H:Hp):Prop:=∀b,H b=none\/∃o xs,H b=some (.frz o (.lst xs))
theorem QjC{P:Program}{w:World}{K:Frag}{mg mb:Str->Option Value}{CX:CXT}{k:Nat}{fa a:Addr}{fd:FuncData}{x:Str}{sp:Sp}{s₁:Shared}{vs:List Value}{ns:List Int}(KX:K.In s₁.heap)(hns:s₁.heap.Ns mainGlobals mg)(hb:s₁.heap.Ns builtinsNs mb)(hbb:∀x:Str,x ≠ "__name__" -> mb x=bootBuiltins x)(hlim:s₁.heap.NoLimit)(hg:s₁.gens = #[])(ha:s₁.heap.get? a=some {cls:=.type "list",data:=.seq vs.toArray})(hi:IntsAre vs ns)(hl:ns.length<=sizeLine)(hr:Room k callerA)(F:∀base:Heap,K.In base->base.Ns mainGlobals mg->FnOk P w K mg base CX k fa fd [x] sp)(hbind:∀(s:Shared) (u:Value),BindsTo s fd ⟨[u],[]⟩ [(x,u)])(hsp:∀H:Hp,Only H->SqL K H a (ns.map V.int)->sp [.ref a] H (λv _=>v=.bl true) λ_ _ _=>False)(hCX:∀H e s',CX [] H s₁ (λ_ _ _=>False) e s'->False):
  codeAny (model P w) callerA (.call (.ref fa) ⟨[.ref a],[]⟩) (λr s'=>r=.ok (.ret (.bool true))/\OldK s₁.heap s'.heap/\s'.os=s₁.os/\AllBare s'.gens) s₁:=by
 have rv:=Qek hi
 have lenV:=hi.length
 -- from an abstract heap in which nothing but the script may be tracked
 have core:∀H:Hp,Only H->SqL K H a (ns.map V.int)->HOk P w H s₁.heap->(∀b,H b≠none->b=a)->(H a≠none->K.lookup a=none) ->
   codeAny (model P w) callerA (.call (.ref fa) ⟨[.ref a],[]⟩) (λr s'=>r=.ok (.ret (.bool true))/\OldK s₁.heap s'.heap/\s'.os=s₁.os/\AllBare s'.gens) s₁:=by
  intro H hO hS hok hA hK
  have base_of:∀{b:Addr}{o:Obj},s₁.heap.get? b=some o->H b=none->(hidT s₁.heap H).get? b=some o:=λe n=>Qjp e n
  have noA:∀{b:Addr}{o:Obj}{es:Array DictEntry}{ep:Nat},s₁.heap.get? b=some o->o.data=.dict es ep->H b=none:=λ{b o es ep} e d=>by
   cases q:H b with
   |none=>rfl
   |some u =>
    have e':b=a:=hA b (by rw[q];simp)
    subst e'
    rw[ha]at e;cases e
    have d':Data.seq vs.toArray _=Data.dict es ep:=d
    cases d'
  have nsK:∀{b:Addr}{m:Str->Option Value},s₁.heap.Ns b m->(hidT s₁.heap H).Ns b m:=λ{b m} ⟨o,es,ep,e,d,r⟩=>⟨o,es,ep,base_of e (noA e d),d,r⟩
  have hKb:K.In (hidT s₁.heap H):=λb o e=>base_of (KX b o e) (by
   cases q:H b with
   |none=>rfl
   |some u =>
    have e':b=a:=hA b (by rw[q];simp)
    subst e'
    rw[hK (by rw[q];simp)]at e;cases e)
  have hM:Mod K mg (hidT s₁.heap H):=⟨hKb,nsK hns,⟨mb,nsK hb,hbb⟩,let ⟨mc,h1,h2⟩:=hlim;⟨mc,nsK h1,h2⟩⟩
  have e0:Env0 P w K mg (hidT s₁.heap H) callerA [] s₁ H:=⟨rfl,hM,λb o e=>QkY e,Nat.le_of_eq (Qhf _ _),trivial,λb hb=>absurd (show b∈([]:List Addr) from hb) (by simp),hok,.of_eq hg⟩
  refine Wq ((F _ hKb (nsK hns)).run callerA [] s₁ H ⟨[.ref a],[]⟩ [.ref a] [.ref a] _ _ hr e0 (hbind s₁ (.ref a)) (.cons rfl .nil) (hsp H hO hS)) λr s' h=>?_
  cases r with
  |error e=>exact(hCX H e s' h).elim
  |ok fl =>
   cases fl with
   |next=>exact False.elim h
   |brk=>exact False.elim h
   |cont=>exact False.elim h
   |ret u =>
    obtain⟨v,H',os,bare,un,hok',r',q⟩:=h
    have q':v=.bl true:=q
    subst q'
    obtain rfl:u=Value.bool true:=r'
    refine⟨rfl,OldK.of_keep λb o e=>?_,os,bare⟩
    cases q:H b with
    |none=>exact un.keep b o e q (by intro z;exact absurd (show b∈([]:List Addr) from z) (by simp)) (by simp)
    |some u =>
     rcases hO b with z|⟨ob,xs,z⟩
     ·rw[q]at z;cases z
     ·have z2:=un.frzs b ob _ z
      obtain⟨e1,_⟩:=hok b _ z
      obtain⟨e2,_⟩:=hok' b _ z2
      rw[e]at e1;cases e1
      exact e2
 cases hk:K.lookup a with
 |some o =>
  -- the script is one of the module's own objects
  have e:=KX a o hk
  rw[ha]at e
  cases e
  refine core (λ_=>none) (λ_=>.inl rfl) (.inr ⟨_,vs.toArray,_,hk,rfl,rfl,rfl,by rw[Ug,lenV];exact hl,by simpa using rv⟩) (λb u z=>by have z':(none:Option HO)=some u:=z;cases z') (λb z=>absurd rfl z) λz=>absurd rfl z
 |none =>
  refine core (λb=>if b=a then some (.frz {cls:=.type "list",data:=.seq vs.toArray} (.lst (ns.map V.int))) else none) (λb=>?_) (.inl (.inr ⟨{cls:=.type "list",data:=.seq vs.toArray},Ue rfl⟩)) (λb u z=>?_) (λb z=>?_) λ_=>hk
  ·by_cases hb:b=a
   ·exact .inr ⟨_,_,Ue hb⟩
   ·exact .inl (Uh hb)
  ·by_cases hb:b=a
   ·have z':=(Ue hb).symm.trans z
    cases z'
    subst hb
    exact⟨ha,by rw[Uc];exact hl,vs,_,rv,ha⟩
   ·have z':=(Uh hb).symm.trans z
    cases z'
  ·by_cases hb:b=a
   ·exact hb
   ·exact absurd (Uh hb) z
end
section
theorem walk_of{l:PySem.W.OpenLaw}{n k:Nat}{q:Program}{loose:List Str}{XP:(Str->Option Value)->Heap->Prop}{YP:World->Heap->Prop}{d:DefRec}{K:Params->Frag}{CX:World->CXT}{sp:World->Sp}{x:Str}(hn:l.most=some n)(hn2:n<=sizeLine)(hdf:d.params.defaults=[])(hr:Room k callerA)(hY:∀(w:World) (h:Heap),YP w h->(K w.params).In h)(F:∀(w:World) (mg:Str->Option Value) (fa:Addr) (h:Heap),(K w.params).In h->h.Ns mainGlobals mg->mg d.name=some (.ref fa) ->
   ∃fd:FuncData,(∀(s:Shared) (u:Value),BindsTo s fd ⟨[u],[]⟩ [(x,u)]) /\
    ∀base:Heap,(K w.params).In base->base.Ns mainGlobals mg->FnOk l.prog w (K w.params) mg base (CX w) k fa fd [x] (sp w))(hsp:∀(w:World) (H:Hp) (a:Addr) (ns:List Int),ns.length<=n->Only H->SqL (K w.params) H a (ns.map V.int)->sp w [.ref a] H (λv _=>v=.bl true) λ_ _ _=>False)(hCX:∀(w:World) (H:Hp) (s:Shared) (e:Value) (s':Shared),CX w [] H s (λ_ _ _=>False) e s'->False):
  PySem.W.WalkO q loose XP YP l.row.toRowW d [] (λf vs=>PySem.call f vs):=by
 refine Att.attach_call hn hdf λw s₀ s₁ mg mb fa o pm cd doc a vs ns G Y ho hd hcd hmg hobj hints hlen hg=>?_
 have KX:=hY w _ Y
 obtain⟨fd,hb,hF⟩:=F w mg fa _ KX G.T.g hmg
 exact QjC KX G.T.g G.T.b G.T.builtins G.T.nolimit hg hobj hints (Ur hlen hn2) hr hF hb (λH hO hS=>hsp w H a ns hlen hO hS) λH e s'=>hCX w H s₁ e s'
end
section
noncomputable def Qlj(s:Stmt)(j:Nat):Stmt:=match s with
 |.ClassDef _ _ _ body _ _ _ _ _ _ _=>body.getD j (.Pass ⟨0,0,0,0⟩)
 |_=>.Pass ⟨0,0,0,0⟩
noncomputable def JN(s:Stmt):Arguments:=match s with
 |.FunctionDef _ a _ _ _ _ _ _ _ _=>a
 |_=>{posonlyargs:=[],args:=[],vararg:=none,kwonlyargs:=[],kw_defaults:=[],kwarg:=none,defaults:=[]}
noncomputable def YI(s:Stmt):List Stmt:=match s with
 |.FunctionDef _ _ b _ _ _ _ _ _ _=>b
 |_=>[]
noncomputable def Qh(s:Stmt):Scope:=match s with
 |.FunctionDef _ _ _ _ _ _ sc _ _ _=>sc
 |_=>{kind:=.function,names:=[],isGenerator:=false,isCoroutine:=false}
noncomputable abbrev CX0:CXT:=λ_ _ _ _ _ _=>False
structure Fun(K:Frag)(x qual:Str)(st:Stmt)(f:Addr)(fd:FuncData):Prop where
 ex:∃(oc:Value)(od:Option Addr)(kV doc pm:Value)(an:Option Addr)(cdv ct:Value)(osl:Array (Option Value)),
  fd=fnOf x qual (JN st) (YI st) (Qh st) .none kV doc pm an cdv ct/\K.lookup f=some ⟨oc,od,.func fd,osl⟩/\codeIn K cdv qual=true
 kp:keepIn K (.ref f)=true
section
variable{P:Program}{w:World}{K:Frag}{mg:Str->Option Value}{base:Heap}
theorem Fun.ok{x qual:Str}{st:Stmt}{f:Addr}{fd:FuncData}{N ps:List Str}{k:Nat}{sp:Sp}(F:Fun K x qual st f fd)(S:FnScope N ps (Qh st))(len:∀vs H Q E,sp vs H Q E->vs.length=ps.length)(hbody:∀(cdv:Value) (A:Around) (outer:List Env) (s:Shared) (H:Hp) (vs:List V) (Q:VK) (E:XK),Room k (A.deeper (envOfC qual (Qh st) s.heap.objs.size f cdv))->sp vs H Q E ->
   ∃t,PSs (cxOf CX0 P w K mg base N qual (Qh st) f cdv A outer s H E).nox (YI st) t/\t {nx:=λ_ H'=>Q .non H',rt:=Q} (start N vs) H):FnOk P w K mg base CX0 (k+1) f fd ps sp:=by
 obtain⟨oc,od,kV,doc,pm,an,cdv,ct,osl,rfl,lk,hcd⟩:=F.ex
 refine QmB lk hcd S len λA outer s H vs Q E hr hsp=>?_
 obtain⟨t,h,q⟩:=hbody cdv A outer s H vs Q E hr hsp
 exact⟨t,h.nox,q⟩
theorem Fun.binds{x qual:Str}{st:Stmt}{f:Addr}{fd:FuncData}{ps:List Str}(F:Fun K x qual st f fd)(h:∀(kV doc pm:Value) (an:Option Addr) (cdv ct:Value) (us:List Value),us.length=ps.length->bindArgs (fnOf x qual (JN st) (YI st) (Qh st) .none kV doc pm an cdv ct) ⟨us,[]⟩=pure (ps.zip us)):Binds K fd ps []:=by
 obtain⟨oc,od,kV,doc,pm,an,cdv,ct,osl,rfl,lk,hcd⟩:=F.ex
 exact .all (h kV doc pm an cdv ct)
theorem Qkv{x qual:Str}{st:Stmt}{f:Addr}{oc:Value}{od an:Option Addr}{osl:Array (Option Value)}{kV doc pm cdv ct:Value}(l:K.lookup f=some ⟨oc,od,.func (fnOf x qual (JN st) (YI st) (Qh st) .none kV doc pm an cdv ct),osl⟩)(c:codeIn K cdv qual=true)(k:keepIn K (.ref f)=true):Fun K x qual st f (fnOf x qual (JN st) (YI st) (Qh st) .none kV doc pm an cdv ct):=⟨⟨oc,od,kV,doc,pm,an,cdv,ct,osl,rfl,l,c⟩,k⟩
end
section
variable{X:Cx}
end
def Same(H H':Hp):Prop:=∀b o,H b=some o->H' b=some o
theorem Same.refl(H:Hp):Same H H:=λ_ _ h=>h
theorem Same.trans{H H1 H2:Hp}(a:Same H H1)(b:Same H1 H2):Same H H2:=λc o h=>b c o (a c o h)
theorem Same.free{H H':Hp}(e:Same H H'){l:Addr}(h:H' l=Option.none):H l=Option.none:=by
 cases q:H l with
 |none=>rfl
 |some o =>
  rw[e l o q]at h
  cases h
theorem Same.seq{K:Frag}{H H':Hp}{a:Addr}{xs:List V}(e:Same H H')(h:SqL K H a xs):SqL K H' a xs:=by
 rcases h with(h|⟨o,h⟩)|h
 ·exact .inl (.inl (e _ _ h))
 ·exact .inl (.inr ⟨o,e _ _ h⟩)
 ·exact .inr h
end
end L2
set_option maxHeartbeats 4000000
section
namespace HT
open PySem PySem.Spec PyProof.Rows
set_option maxRecDepth 100000
theorem Qby:fillsNumberSlot (.type "tuple") "mul" = pure false :=
 PySem.fillsNumberSlot_seq (id:="tuple.__mul__") (r:=some (.builtin "tuple.__rmul__")) T5.lookup (by decide +kernel) F.slot_tuple_rmul.lookup (by decide +kernel)
theorem Qel:seqRepeat? (.type "tuple")=pure (some (.builtin "tuple.__mul__")):=by
 unfold seqRepeat?
 rw[PySem.seqSlot_of (T:="tuple") (name:="__mul__") (id:="tuple.__mul__") T5.lookup (by decide +kernel),PySem.seqSlot_of (T:="tuple") (name:="__rmul__") (id:="tuple.__rmul__") F.slot_tuple_rmul.lookup (by decide +kernel)]
 rfl
theorem QcC(a:Int)(t:Tok)(l:Addr)(items:Array Value)(n:Nat)(dd:Option Addr)(sl):
  Meets (Builtin.«int.__rmul__» ⟨[.int a t,.ref l],[]⟩) (λ_ R s=>s.heap.get? l=some {cls:=.type "tuple",dict:=dd,data:=.seq items n,slots:=sl}/\R (.ok (.ret Value.notImplemented)) s) :=
 .of_wp λprog w A R s h=>by obtain⟨hp,g,d,tk,os⟩:=s;obtain⟨hl,h⟩:=h;wp_walk;exact⟨_,rfl,h⟩
theorem QgB(l:Addr)(items:Array Value)(n:Nat)(dd:Option Addr)(sl)(k:Int)(t:Tok)(hi:¬items.isEmpty=true)(h1:¬(k == 1)=true)(h0:0<k)(hk:k<2^63)(hz:items.size*k.toNat<=sizeLine):
  Meets (Builtin.«tuple.__mul__» ⟨[.ref l,.int k t],[]⟩) (λ_ R s=>s.heap.get? l=some {cls:=.type "tuple",dict:=dd,data:=.seq items n,slots:=sl}/\R (.ok (.ret (Value.ref s.heap.objs.size))) {s with heap:=s.heap.push {cls:=Value.type "tuple",data:=Data.seq (List.foldl (λx1 x2=>x1++x2) #[] (List.replicate k.toNat items))},toks:=s.toks}) :=
 .of_wp λprog w A R s h=>by
  obtain⟨hp,g,d,tk,os⟩:=s;obtain⟨hl,h⟩:=h
  have f1:=Ro
  have hz':(items.size:Int)*k<=(sizeLine:Int):=by
   have e:((items.size*k.toNat:Nat):Int)=(items.size:Int)*k:=by rw[Int.natCast_mul,Int.toNat_of_nonneg (by omega)]
   omega
  have hl':((sizeLine:Nat):Int)<=(2^63-1) / 8:=by decide
  have hi':items.isEmpty=false:=by cases h:items.isEmpty <;> simp_all
  have h1':(k == 1)=false:=by cases h:(k == 1) <;> simp_all
  have hc0:¬(decide (k < -2^63) || decide (k>=2^63))=true:=by rw[Ul (p:=k < -2^63) (by omega),Ul (p:=k>=2^63) (by omega)];exact Uf
  have hc1:¬(items.isEmpty || k == 1)=true:=by rw[hi',h1'];exact Uf
  have hc2:¬(decide (k<=0) || items.isEmpty)=true:=by rw[hi',Ul (p:=k<=0) (by omega)];exact Uf
  have hc3:¬(items.size:Int)*k > (2^63-1) / 8:=by omega
  have hc4:¬Builtin.Tuple.tupleTooMany (items.size*k)=true:=by unfold Builtin.Tuple.tupleTooMany;rw[Ul (p:=(items.size:Int)*k > (sizeLine:Int)) (by omega)];exact Uf
  have hsz:(List.foldl (λx1 x2=>x1++x2) #[] (List.replicate k.toNat items)).size<=sizeLine:=by
   have e:∀(m:Nat)(a:Array Value),(List.foldl (λx1 x2=>x1++x2) a (List.replicate m items)).size=a.size+items.size*m:=λm=>by
    induction m with
    |zero=>intro a;simp
    |succ m ih=>intro a;rw[Uw,List.foldl_cons,ih,Array.size_append,Nat.mul_succ];omega
   rw[e];simp;exact hz
  wp_walk
  refine Wt (Ul hc0) ?_
  wp_walk using wpAny_loadPart' hl
  refine Wt (Ul hc3) ?_
  wp_walk
  exact⟨_,rfl,h⟩
theorem QgC(l:Addr)(items:Array Value)(n:Nat)(dd:Option Addr)(sl)(k:Int)(t:Tok)(h1:(items.isEmpty || k == 1)=true)(h0:0<=k)(hk:k<2^63):
  Meets (Builtin.«tuple.__mul__» ⟨[.ref l,.int k t],[]⟩) (λ_ R s=>s.heap.get? l=some {cls:=.type "tuple",dict:=dd,data:=.seq items n,slots:=sl}/\R (.ok (.ret (Value.ref l))) {s with heap:=s.heap,toks:=s.toks}) :=
 .of_wp λprog w A R s h=>by
  obtain⟨hp,g,d,tk,os⟩:=s;obtain⟨hl,h⟩:=h
  have f1:=Ro
  have hc0:¬(decide (k < -2^63) || decide (k>=2^63))=true:=by rw[Ul (p:=k < -2^63) (by omega),Ul (p:=k>=2^63) (by omega)];exact Uf
  wp_walk
  refine Wt (Ul hc0) ?_
  wp_walk using wpAny_loadPart' hl
  exact⟨_,rfl,h⟩
theorem QgD(l:Addr)(items:Array Value)(n:Nat)(dd:Option Addr)(sl)(t:Tok)(hi:¬items.isEmpty=true):
  Meets (Builtin.«tuple.__mul__» ⟨[.ref l,.int 0 t],[]⟩) (λ_ R s=>s.heap.get? l=some {cls:=.type "tuple",dict:=dd,data:=.seq items n,slots:=sl}/\R (.ok (.ret (Value.ref s.heap.objs.size))) {s with heap:=s.heap.push {cls:=Value.type "tuple",data:=Data.seq #[]},toks:=s.toks}) :=
 .of_wp λprog w A R s h=>by
  obtain⟨hp,g,d,tk,os⟩:=s;obtain⟨hl,h⟩:=h
  have f1:=Ro
  have hi':items.isEmpty=false:=by cases h:items.isEmpty <;> simp_all
  have hc1:¬(items.isEmpty || (0:Int) == 1)=true:=by rw[hi'];exact Uf
  wp_walk using wpAny_loadPart' hl
  exact⟨_,rfl,h⟩
section
variable{prog:Program}{w:World}{A:Around}{E:Value->Shared->Prop}{s:Shared}
theorem rep_tup{l:Addr}{its:List Value}{k:Int}{t:Tok}{Q:Value->Shared->Prop}(ht:IsTup s.heap l its.toArray)(h0:0<=k)(hk:k<2^63)(hz:its.length*k.toNat<=sizeLine)(h1:its=[]\/k=1->Q (.ref l) s)(h2:its≠[]->k≠1->Q (.ref s.heap.objs.size) {s with heap:=s.heap.push {cls:=.type "tuple",data:=.seq (List.replicate k.toNat its).flatten.toArray} }):wpAny (model prog w) A (binaryOp .Mult (.ref l) (.int k t)) Q E s:=by
 obtain⟨⟨cls,dd,data,sl⟩,ho,hc,n,hd⟩:=id ht
 simp only at hc hd
 subst hc hd
 refine wpAny_binaryOp_repeat_ref (T:="tuple") (U:="int") (by decide) ⟨_,ho,rfl⟩ (λs'=>typeIs_int s' k t) Qby F.fills_int_mul F.slot_int_rmul Qel F.slot_int_index.lookup
  (Rh F.slot_int_rmul (typeIs_int s k t) F.entry_int_rmul (F.args_int_rmul_2 _ _) (QcC k t l its.toArray n dd sl) ⟨ho,rfl,⟨_,ho,rfl⟩,?_⟩)
 by_cases hc:its=[]\/k=1
 ·refine Rh T5 ⟨_,ho,rfl⟩ RT (RM _ _) (QgC l its.toArray n dd sl k t ?_ h0 hk) ⟨ho,h1 hc⟩
  rcases hc with rfl|rfl
  ·rfl
  ·simp
 ·have hi:its≠[]:=λz=>hc (.inl z)
  have h3:k≠1:=λz=>hc (.inr z)
  have hia:¬its.toArray.isEmpty=true:=by simpa using hi
  have f0:∀m:Nat,List.foldl (λx1 x2=>x1++x2) #[] (List.replicate m its.toArray)=(List.replicate m its).flatten.toArray:=λm=>by
   have:=L2.foldl_rep its m []
   rw[List.nil_append]at this
   exact this
  by_cases hk0:k=0
  ·subst hk0
   exact Rh T5 ⟨_,ho,rfl⟩ RT (RM _ _) (QgD l its.toArray n dd sl t hia) ⟨ho,h2 hi h3⟩
  ·refine Rh T5 ⟨_,ho,rfl⟩ RT (RM _ _) (QgB l its.toArray n dd sl k t hia (by simpa using h3) (by omega) hk (by rw[Ug];exact hz)) ⟨ho,?_⟩
   rw[f0]
   exact h2 hi h3
end
end HT
namespace L2
open PySem PySem.Spec PyProof.Rows
section
variable{X:Cx}
noncomputable def QmJ(K:Frag):R2:=λx y H Q=>∃a k xs,x=.ref a/\y=.int k/\SqT K H a xs/\0<=k/\k<2^63/\xs.length*k.toNat<=sizeLine /\
 (xs=[]\/k=1->Q (.ref a) H)/\(xs≠[]->k≠1->∀p,H p=none->Q (.ref p) (upd H p (.tup (List.replicate k.toNat xs).flatten)))
theorem Qlk:OpR X (binaryOp .Mult) (QmJ X.K):=by
 intro pins s σ H x y v u Q I rx ry h
 obtain⟨a,k,xs,rfl,rfl,ha,h0,hk,hz,q1,q2⟩:=h
 cases rx
 obtain⟨t,rfl⟩:=ry
 obtain⟨its,r1,p1,_⟩:=I.tuple ha
 refine HT.rep_tup p1 h0 hk (by rw[<-r1.length];exact hz) (λz=>⟨.ref a,H,I,rfl,q1 (z.imp r1.nil_iff.mp id)⟩) (λz z2=>?_)
 refine⟨.ref s.heap.objs.size,_,I.laid (t':=s.toks) (o:=.tup (List.replicate k.toNat xs).flatten) (λb ob q=>Ub _ q) (Ui _) ?_,rfl,q2 (λw=>z (r1.nil_iff.mpr w)) z2 _ (I.hok.fresh (Ui _))⟩
 exact⟨by rw[Qli,Nat.mul_comm];exact hz,_,r1.rep k.toNat,IsTup.new _ _⟩
end
end L2
end
section
namespace HT
open PySem PySem.Spec PyProof.Rows
set_option maxRecDepth 100000
theorem list_extendT(l:Addr)(items:Array Value)(n:Nat)(b:Addr)(items2:Array Value)(n2:Nat)(dd:Option Addr)(sl)(hs0:¬(!items.isEmpty && Builtin.List.listTooLong (items.size+items2.size))=true)(hs1:items.size<=sizeLine)(hs2:items.size+items2.size<=sizeLine+1):
  Meets (Builtin.«list.extend» ⟨[.ref l,.ref b],[]⟩) (λ_ R s=>s.heap.get? l=some {cls:=.type "list",dict:=none,data:=.seq items n,slots:=#[]}/\s.heap.get? b=some {cls:=.type "tuple",dict:=dd,data:=.seq items2 n2,slots:=sl}/\R (.ok (.ret Value.none)) {s with heap:=s.heap.update l (Obj.mapSeq λx=>x++items2),toks:=s.toks}) :=
 .of_wp λprog w A R s h=>by
  obtain⟨hp,g,d,tk,os⟩:=s;obtain⟨hl,hb,h⟩:=h;have f1:=Ro;have f2:=AutoSeq1.sub_tuple_tuple;have f3:=AutoSeq1.sub_list_list;have f4:=AutoSeq1.sub_tuple_list;have f5:=AutoSeq1.sub_list_tuple;
  have hz':(items++items2).size<=sizeLine+1:=by rw[Array.size_append];exact hs2
  wp_walk using (wpAny_updateSeq hl rfl (hz:=hs1) (_hz':=hz')),wpAny_loadPart' hl,wpAny_loadPart' hb
  exact⟨_,rfl,h⟩
end HT
namespace L2
open PySem PySem.Spec PyProof.Rows
section
variable{X:Cx}
noncomputable def QfN(K:Frag):V->List V->Hp->VK->Prop:=λx vs H Q=>∃l b xs zs,x=.ref l/\vs=[.ref b]/\H l=some (.lst xs)/\SqT K H b zs/\xs.length+zs.length<=sizeLine/\Q .non (upd H l (.lst (xs++zs)))
theorem QgE:MtM X "list.extend" (QfN X.K):=by
 intro pins s σ H x vs v us Q I rx rv h
 obtain⟨l,b,xs,zs,rfl,rfl,hH,hB,hz,q⟩:=h
 cases rx
 obtain⟨u,rfl,ru⟩:=rv.one
 cases ru
 obtain⟨z,its,n,r,hl,e⟩:=I.lstM hH
 obtain⟨its2,r2,p2,_⟩:=I.tuple hB
 obtain⟨⟨cls,dd,data,sl⟩,ho,hc,n2,hd⟩:=id p2
 simp only at hc hd
 subst hc hd
 have hl2:=r2.length
 have hsz:its.toArray.size+its2.toArray.size<=sizeLine:=by rw[Ug,Ug];omega
 have hlong:¬(!its.toArray.isEmpty && Builtin.List.listTooLong (its.toArray.size+its2.toArray.size))=true:=by
  rw[QfM hsz,Bool.and_false]
  exact Uf
 refine Rh F.slot_list_extend ⟨_,e,rfl⟩ F.entry_list_extend (F.args_list_extend_2 _ _)
  (HT.list_extendT l its.toArray n b its2.toArray n2 dd sl hlong (by rw[Ug];omega) (by omega)) ⟨e,ho,?_⟩
 refine⟨.non,_,I.lset (its':=its++its2) hH e (by simp) (r.append r2) ?_,rfl,q⟩
 rw[Um]
 omega
theorem QgF:MtM X "list.extend" (λx vs H Q=>Qhy x vs H Q\/QfN X.K x vs H Q):=by
 intro pins s σ H x vs v us Q I rx rv h
 rcases h with h|h
 ·exact Qhz pins s σ H x vs v us Q I rx rv h
 ·exact QgE pins s σ H x vs v us Q I rx rv h
end
end L2
end
namespace L3
open PySem
noncomputable abbrev Xc:=Nat×Option Nat
inductive D where
 |non|bl (b:Bool)|int (i:Int)|str (s:Str)|ref (n:Nat)|tup (ds:List D)|fl (ds:List D)
inductive GO where
 |lst (ds:List D)|ins (c:Nat) (fs:List (Str×D))|dct (kvs:List (Sum Int Str×D))|exc (x:Xc)|dfz (kvs:List (Sum Int Str×D))
noncomputable abbrev G:=List GO
noncomputable abbrev S3:=List (Option D)
inductive Res(α:Type) where
 |ok (a:α) (g:G)|raise (x:Xc) (g:G)|stuck
noncomputable def Res.bind{α β:Type}:Res α->(α->G->Res β)->Res β
 |.ok a g,k=>k a g
 |.raise e g,_=>.raise e g
 |.stuck,_=>.stuck
inductive Out where
 |nx (σ:S3) (g:G)|rt (d:D) (g:G)|bk (σ:S3) (g:G)|ct (σ:S3) (g:G)|raise (x:Xc) (σ:S3) (g:G)|stuck
noncomputable abbrev ME:=S3->G->Res D
noncomputable abbrev MT:=S3->G->Res Bool
noncomputable abbrev MA:=S3->G->Res (List D)
noncomputable abbrev MS:=S3->G->Out
noncomputable abbrev MF:=List D->G->Res D
theorem Res.bind_ok{α β:Type}(a:α)(g:G)(k:α->G->Res β):(Res.ok a g).bind k=k a g:=rfl
noncomputable def SZ:Nat:=1000000
noncomputable def mVar(i:Nat):ME:=λσ g=>match σ[i]? with
 |some (some d)=>.ok d g
 |_=>.stuck
noncomputable def mLit(d:D):ME:=λ_ g=>.ok d g
noncomputable def mOp1(f:D->G->Res D)(a:ME):ME:=λσ g=>(a σ g).bind f
noncomputable def mOp2(f:D->D->G->Res D)(a b:ME):ME:=λσ g=>(a σ g).bind λx g1=>(b σ g1).bind λy g2=>f x y g2
noncomputable def mNil:MA:=λ_ g=>.ok [] g
noncomputable def Qb(a:ME)(r:MA):MA:=λσ g=>(a σ g).bind λx g1=>(r σ g1).bind λxs g2=>.ok (x::xs) g2
noncomputable def mOpA(f:List D->G->Res D)(a:MA):ME:=λσ g=>(a σ g).bind f
noncomputable def Qj(a:ME):MT:=λσ g=>(a σ g).bind λd g1=>match d with
 |.bl b=>.ok b g1
 |_=>.stuck
noncomputable def ZK(a:MT):MT:=λσ g=>(a σ g).bind λb g1=>.ok (!b) g1
noncomputable def JK(a b:MT):MT:=λσ g=>(a σ g).bind λc g1=>if c=true then b σ g1 else .ok false g1
noncomputable def mOrT(a b:MT):MT:=λσ g=>(a σ g).bind λc g1=>if c=true then .ok true g1 else b σ g1
noncomputable def mNot(a:ME):ME:=λσ g=>(a σ g).bind λd g1=>match d with
 |.bl b=>.ok (.bl (!b)) g1
 |_=>.stuck
noncomputable def mAnd(a b:ME):ME:=λσ g=>(a σ g).bind λd g1=>match d with
 |.bl c=>if c=true then b σ g1 else .ok (.bl false) g1
 |_=>.stuck
noncomputable def mIfE(c:MT)(a b:ME):ME:=λσ g=>(c σ g).bind λt g1=>if t=true then a σ g1 else b σ g1
noncomputable def QcS(f f':D->D->G->Res D)(a b c:ME):ME:=λσ g=>(a σ g).bind λx g1=>(b σ g1).bind λy g2=>(f x y g2).bind λz g3=>match z with
 |.bl true=>(c σ g3).bind λw g4=>f' y w g4
 |.bl false=>.ok (.bl false) g3
 |_=>.stuck
noncomputable def QA:MS:=λσ g=>.nx σ g
noncomputable def mSeq(a b:MS):MS:=λσ g=>match a σ g with
 |.nx σ' g'=>b σ' g'
 |o=>o
noncomputable def Z7(a:ME):MS:=λσ g=>match a σ g with
 |.ok _ g'=>.nx σ g'
 |.raise e g'=>.raise e σ g'
 |.stuck=>.stuck
noncomputable def mRet(a:ME):MS:=λσ g=>match a σ g with
 |.ok d g'=>.rt d g'
 |.raise e g'=>.raise e σ g'
 |.stuck=>.stuck
noncomputable def QnY:MS:=λ_ g=>.rt .non g
noncomputable def mIf(c:MT)(a b:MS):MS:=λσ g=>match c σ g with
 |.ok t g'=>if t=true then a σ g' else b σ g'
 |.raise e g'=>.raise e σ g'
 |.stuck=>.stuck
noncomputable def Ze(c:Nat)(a:MA):MS:=λσ g=>match a σ g with
 |.ok ds g'=>if ds.length<=SZ then .raise (c,none) σ g' else .stuck
 |.raise e g'=>.raise e σ g'
 |.stuck=>.stuck
structure MH where
 cs:List Nat
 no:List Nat
 nm:Option Nat
 suite:MS
noncomputable def QmK(i:Nat):Out->Out
 |.nx σ g=>.nx (σ.set i none) g
 |.rt d g=>.rt d g
 |_=>.stuck
noncomputable def runH:List MH->Xc->S3->G->Out
 |[],x,σ,g=>.raise x σ g
 |h::r,x,σ,g=>if x.1∈h.cs then (match h.nm with
  |none=>(match h.suite σ g with
   |.nx σ' g'=>.nx σ' g'
   |.rt d g'=>.rt d g'
   |_=>.stuck)
  |some i=>QmK i (h.suite (σ.set i (some (.ref g.length))) (g++[.exc x]))) else if x.1∈h.no then runH r x σ g else .stuck
noncomputable def mTry(b:MS)(hs:List MH):MS:=λσ g=>match b σ g with
 |.raise x σ' g'=>runH hs x σ' g'
 |o=>o
noncomputable abbrev MG:=D->S3->Option S3
noncomputable def gSet(i:Nat):MG:=λd σ=>some (σ.set i (some d))
noncomputable def QgG:List MG->List D->S3->Option S3
 |[],[],σ=>some σ
 |t::ts,d::ds,σ=>(t d σ).bind λσ'=>QgG ts ds σ'
 |_,_,_=>none
noncomputable def QcD(ts:List MG):MG:=λd σ=>match d with
 |.tup ds=>QgG ts ds σ
 |_=>none
noncomputable def mAsg(t:MG)(a:ME):MS:=λσ g=>match a σ g with
 |.ok d g'=>(match t d σ with
  |some σ'=>.nx σ' g'
  |none=>.stuck)
 |.raise e g'=>.raise e σ g'
 |.stuck=>.stuck
structure Src where
 at':G->Nat->Option (Option D)
 top:Nat
noncomputable abbrev MI:=S3->G->Res Src
noncomputable def forL(src:Src)(t:MG)(body:MS):Nat->Nat->S3->G->Out
 |0,_,_,_=>.stuck
 |f+1,i,σ,g=>match src.at' g i with
  |some (some d)=>(match t d σ with
   |some σ1=>(match body σ1 g with
    |.nx σ2 g2=>forL src t body f (i+1) σ2 g2
    |.ct σ2 g2=>forL src t body f (i+1) σ2 g2
    |.bk σ2 g2=>.nx σ2 g2
    |o=>o)
   |none=>.stuck)
  |some none=>.nx σ g
  |none=>.stuck
noncomputable def mFor(it:MI)(t:MG)(body:MS):MS:=λσ g=>match it σ g with
 |.ok src g'=>forL src t body (src.top+1) 0 σ g'
 |.raise e g'=>.raise e σ g'
 |.stuck=>.stuck
noncomputable def ZJ(c:MT)(body:MS):Nat->S3->G->Out
 |0,_,_=>.stuck
 |f+1,σ,g=>match c σ g with
  |.ok true g1=>(match body σ g1 with
   |.nx σ2 g2=>ZJ c body f σ2 g2
   |.ct σ2 g2=>ZJ c body f σ2 g2
   |.bk σ2 g2=>.nx σ2 g2
   |o=>o)
  |.ok false g1=>.nx σ g1
  |.raise e g1=>.raise e σ g1
  |.stuck=>.stuck
open Classical in
noncomputable def QcT(c:MT)(body:MS):MS:=λσ g=>if h:∃f,ZJ c body f σ g≠.stuck then ZJ c body h.choose σ g else .stuck
noncomputable def Y7(src:Src)(t:MG)(c:MT)(e:ME):Nat->Nat->S3->G->List D->Res (List D)
 |0,_,_,_,_=>.stuck
 |f+1,i,σ,g,acc=>match src.at' g i with
  |some (some d)=>(match t d σ with
   |some σ1=>(match c σ1 g with
    |.ok b g1=>if b=true then (match e σ1 g1 with
     |.ok y g2=>Y7 src t c e f (i+1) σ1 g2 (acc++[y])
     |_=>.stuck) else Y7 src t c e f (i+1) σ1 g1 acc
    |_=>.stuck)
   |none=>.stuck)
  |some none=>.ok acc g
  |none=>.stuck
noncomputable def capt(n:Nat)(cap:List Nat)(σ:S3):S3:=List.replicate n none++cap.map λi=>(σ[i]?).getD none
noncomputable def newL(ds:List D)(g:G):Res D:=if ds.length<=SZ then .ok (.ref g.length) (g++[.lst ds]) else .stuck
noncomputable def pTup(xs:List D)(g:G):Res D:=if xs.length<=SZ then .ok (.tup xs) g else .stuck
noncomputable def Yf(it:MI)(n:Nat)(cap:List Nat)(t:MG)(c:MT)(e:ME):ME:=λσ g=>match it σ g with
 |.ok src g1=>if src.top<=SZ then (match Y7 src t c e (src.top+1) 0 (capt n cap σ) g1 []with
  |.ok ds g2=>.ok (.ref g2.length) (g2++[.lst ds])
  |_=>.stuck) else .stuck
 |_=>.stuck
noncomputable def ZS:MT:=λ_ g=>.ok true g
noncomputable def mDef(k n:Nat)(body:MS):MF:=λds g=>if ds.length=k then (match body (ds.map some++List.replicate n none) g with
 |.nx _ g'=>.ok .non g'
 |.rt d g'=>.ok d g'
 |.raise e _ g'=>.raise e g'
 |_=>.stuck) else .stuck
noncomputable def Ql(f:MF)(a:MA):ME:=λσ g=>(a σ g).bind f
noncomputable def QhC(c:Nat)(f:MF)(a:MA):ME:=λσ g=>(a σ g).bind λxs g1=>(f (.ref g1.length::xs) (g1++[.ins c []])).bind λd g2=>match d with
 |.non=>.ok (.ref g1.length) g2
 |_=>.stuck
noncomputable def QcE(cs:List Nat)(f:Str)(o:ME):ME:=mOp1 (λx g=>match x with
 |.ref n=>(match g[n]? with
  |some (.ins c fs)=>if c∈cs then (match fs.lookup f with
   |some d=>.ok d g
   |none=>.stuck) else .stuck
  |_=>.stuck)
 |_=>.stuck) o
noncomputable def putG(f:Str)(v:D):List (Str×D)->List (Str×D)
 |[]=>[(f,v)]
 | (g,x)::r=>if g=f then (g,v)::r else (g,x)::putG f v r
noncomputable def QbF(cs:List Nat)(f:Str)(o v:ME):MS:=λσ g=>match v σ g with
 |.ok y g1=>(match o σ g1 with
  |.ok (.ref n) g2=>(match g2[n]? with
   |some (.ins c fs)=>if c∈cs/\fs.length<100 then .nx σ (g2.set n (.ins c (putG f y fs))) else .stuck
   |_=>.stuck)
  |.raise e g'=>.raise e σ g'
  |_=>.stuck)
 |.raise e g'=>.raise e σ g'
 |.stuck=>.stuck
noncomputable def ixD(n:Nat)(i:Int):Option Nat:=if 0<=i then (if i<n then some i.toNat else none) else if -(n:Int)<=i then some (i+n).toNat else none
noncomputable def YJ(o i v:ME):MS:=λσ g=>match v σ g with
 |.ok y g1=>(match o σ g1 with
  |.ok (.ref n) g2=>(match i σ g2 with
   |.ok (.int k) g3=>(match g3[n]? with
    |some (.lst ds)=>(match ixD ds.length k with
     |some j=>.nx σ (g3.set n (.lst (ds.set j y)))
     |none=>.stuck)
    |_=>.stuck)
   |.raise e g'=>.raise e σ g'
   |_=>.stuck)
  |.raise e g'=>.raise e σ g'
  |_=>.stuck)
 |.raise e g'=>.raise e σ g'
 |.stuck=>.stuck
noncomputable def QcU(d:D)(g:G):Res Src:=match d with
 |.tup ds=>.ok ⟨λ_ i=>some ds[i]?,ds.length⟩ g
 |.fl ds=>.ok ⟨λ_ i=>some ds[i]?,ds.length⟩ g
 |.ref n=>(match g[n]? with
  |some (.lst ds)=>.ok ⟨λg i=>(match g[n]? with|some (.lst es)=>some es[i]? | _=>none),ds.length⟩ g
  |_=>.stuck)
 |_=>.stuck
noncomputable def QN(a:ME):MI:=λσ g=>(a σ g).bind QcU
noncomputable def Q1(lo:Int)(n:Nat):Src:=⟨λ_ i=>some (if i<n then some (.int (lo+i)) else none),n⟩
def inR(j:Int):Prop:=-(2^62)<=j/\j<2^62
noncomputable instance (j:Int):Decidable (inR j):=inferInstanceAs (Decidable (_/\_))
noncomputable def QO(a:ME):MI:=λσ g=>(a σ g).bind λd g1=>match d with
 |.int j=>if inR j then .ok (Q1 0 j.toNat) g1 else .stuck
 |_=>.stuck
noncomputable def QK(g:G):D->Option (Bool×List D)
 |.tup ds=>some (false,ds)
 |.fl ds=>some (true,ds)
 |.ref n=>(match g[n]? with
  |some (.lst ds)=>some (true,ds)
  |_=>none)
 |_=>none
noncomputable def QfO(d1 d2:D)(g:G):Res Src:=match QK g d1,QK g d2 with
 |some (_,xs),some (_,ys)=>.ok ⟨λg i=>(match QK g d1,QK g d2 with
  |some (_,xs),some (_,ys)=>(match xs[i]?,ys[i]? with
   |some x,some y=>some (some (.tup [x,y]))
   |_,_=>some none)
  |_,_=>none),min xs.length ys.length⟩ g
 |_,_=>.stuck
noncomputable def Qem(a b:ME):MI:=λσ g=>(a σ g).bind λx g1=>(b σ g1).bind λy g2=>QfO x y g2
noncomputable def pAdd(x y:D)(g:G):Res D:=match x,y with
 |.int i,.int j=>.ok (.int (i+j)) g
 |.tup xs,.tup ys=>if xs.length+ys.length<=SZ then .ok (.tup (xs++ys)) g else .stuck
 |.ref n,.ref m=>(match g[n]?,g[m]? with
  |some (.lst xs),some (.lst ys)=>if xs.length+ys.length<=SZ then .ok (.ref g.length) (g++[.lst (xs++ys)]) else .stuck
  |_,_=>.stuck)
 |_,_=>.stuck
noncomputable def pSub(x y:D)(g:G):Res D:=match x,y with
 |.int i,.int j=>.ok (.int (i-j)) g
 |_,_=>.stuck
def cM(i:Int):Prop:=-(2^64)<i/\i<2^64
noncomputable instance (j:Int):Decidable (cM j):=inferInstanceAs (Decidable (_/\_))
noncomputable def pMul(x y:D)(g:G):Res D:=match x,y with
 |.int i,.int j=>if cM i\/cM j then .ok (.int (i*j)) g else .stuck
 |.tup ds,.int k=>if (0<=k/\k<1073741824)/\ds.length*k.toNat<=SZ then .ok (.tup (List.replicate k.toNat ds).flatten) g else .stuck
 |_,_=>.stuck
noncomputable def Q5(x y:D)(g:G):Res D:=match x,y with
 |.int i,.int j=>if 0<j/\j<1073741824 then .ok (.int (i/j)) g else .stuck
 |_,_=>.stuck
noncomputable def pMod(x y:D)(g:G):Res D:=match x,y with
 |.int i,.int j=>if 0<j then .ok (.int (i%j)) g else .stuck
 |_,_=>.stuck
noncomputable def pNeg(x:D)(g:G):Res D:=match x with
 |.int i=>.ok (.int (-i)) g
 |_=>.stuck
noncomputable def pCmp(r:Int->Int->Bool)(x y:D)(g:G):Res D:=match x,y with
 |.int i,.int j=>.ok (.bl (r i j)) g
 |_,_=>.stuck
noncomputable def pLt:=pCmp λi j=>decide (i<j)
noncomputable def pLe:=pCmp λi j=>decide (i<=j)
noncomputable def pGt:=pCmp λi j=>decide (j<i)
noncomputable def pGe:=pCmp λi j=>decide (j<=i)
noncomputable def b2I(b:Bool):Int:=if b then 1 else 0
noncomputable def eqGs(eq:D->D->Option Bool):List D->List D->Option Bool
 |[],[]=>some true
 |x::xs,y::ys=>(match eq x y,eqGs eq xs ys with
  |some a,some b=>some (a && b)
  |_,_=>none)
 |_,_=>some false
noncomputable def lstF(g:G)(n:Nat):Option Bool:=match g[n]? with
 |some (.lst _)=>some false
 |_=>none
noncomputable def eqN(g:G):Nat->D->D->Option Bool
 |0,_,_=>none
 |f+1,x,y=>(match x,y with
  |.non,.non=>some true
  |.bl a,.bl b=>some (a == b)
  |.int i,.int j=>some (i == j)
  |.str s,.str t=>some (s == t)
  |.bl a,.int j=>some (b2I a == j)
  |.int i,.bl b=>some (i == b2I b)
  |.tup xs,.tup ys=>eqGs (eqN g f) xs ys
  |.ref n,.ref m=>(match g[n]?,g[m]? with
   |some (.lst xs),some (.lst ys)=>if xs.length=ys.length then eqGs (eqN g f) xs ys else some false
   |_,_=>none)
  |.fl _,_=>none
  |_,.fl _=>none
  |.ref n,_=>lstF g n
  |_,.ref m=>lstF g m
  |_,_=>some false)
noncomputable def pEq(x y:D)(g:G):Res D:=match eqN g 8 x y with
 |some b=>.ok (.bl b) g
 |none=>.stuck
noncomputable def Qdm:List D->Option (List Int)
 |[]=>some []
 |.int i::r=>(Qdm r).map (i :: ·)
 |_::_=>none
noncomputable def pNe(x y:D)(g:G):Res D:=match eqN g 8 x y with
 |some b=>.ok (.bl (!b)) g
 |none=>.stuck
noncomputable def isNon:D->Bool
 |.non=>true
 |_=>false
noncomputable def pIs(x y:D)(g:G):Res D:=match y with
 |.non=>.ok (.bl (isNon x)) g
 |_=>.stuck
noncomputable def QcV(x y:D)(g:G):Res D:=match y with
 |.non=>.ok (.bl (!isNon x)) g
 |_=>.stuck
noncomputable def atD{α:Type}(xs:List α)(i:Int):Option α:=(ixD xs.length i).bind λj=>xs[j]?
noncomputable def pIx(x y:D)(g:G):Res D:=match x,y with
 |.tup ds,.int i=>(match atD ds i with
  |some d=>.ok d g
  |none=>.stuck)
 |.fl ds,.int i=>(match atD ds i with
  |some d=>.ok d g
  |none=>.stuck)
 |.ref n,.int i=>(match g[n]? with
  |some (.lst ds)=>(match atD ds i with
   |some d=>.ok d g
   |none=>.stuck)
  |_=>.stuck)
 |.str s,.int i=>if s.length<=SZ then (match atD s.cps.toList i with
  |some c=>.ok (.str ⟨#[c]⟩) g
  |none=>.stuck) else .stuck
 |_,_=>.stuck
noncomputable def sIxD(n d:Nat):Option Int->Nat
 |none=>d
 |some v=>if v<0 then (v+(n:Int)).toNat else min v.toNat n
noncomputable def cutD{α:Type}(xs:List α)(lo hi:Option Int):List α:=(xs.drop (sIxD xs.length 0 lo)).take (sIxD xs.length xs.length hi-sIxD xs.length 0 lo)
noncomputable def Qen(x:D)(lo hi:Option Int)(g:G):Res D:=match x with
 |.tup ds=>.ok (.tup (cutD ds lo hi)) g
 |.fl ds=>.ok (.ref g.length) (g++[.lst (cutD ds lo hi)])
 |.ref n=>(match g[n]? with
  |some (.lst ds)=>.ok (.ref g.length) (g++[.lst (cutD ds lo hi)])
  |_=>.stuck)
 |_=>.stuck
noncomputable abbrev MO:=S3->G->Res (Option Int)
noncomputable def QB:MO:=λ_ g=>.ok none g
noncomputable def Zp(a:ME):MO:=λσ g=>(a σ g).bind λd g1=>match d with
 |.int i=>.ok (some i) g1
 |_=>.stuck
noncomputable def QM(a:ME)(lo hi:MO):ME:=λσ g=>(a σ g).bind λx g1=>(lo σ g1).bind λl g2=>(hi σ g2).bind λh g3=>Qen x l h g3
noncomputable def pLen(x:D)(g:G):Res D:=match x with
 |.tup ds=>.ok (.int ds.length) g
 |.fl ds=>.ok (.int ds.length) g
 |.ref n=>(match g[n]? with
  |some (.lst ds)=>.ok (.int ds.length) g
  |_=>.stuck)
 |_=>.stuck
noncomputable def Zq(x:D)(g:G):Res D:=match x with
 |.tup ds=>.ok (.tup ds) g
 |.fl ds=>.ok (.tup ds) g
 |.ref n=>(match g[n]? with
  |some (.lst ds)=>.ok (.tup ds) g
  |_=>.stuck)
 |_=>.stuck
noncomputable def Qeo(x:D)(g:G):Res D:=match x with
 |.tup ds=>.ok (.ref g.length) (g++[.lst ds])
 |.fl ds=>.ok (.ref g.length) (g++[.lst ds])
 |.ref n=>(match g[n]? with
  |some (.lst ds)=>.ok (.ref g.length) (g++[.lst ds])
  |_=>.stuck)
 |_=>.stuck
noncomputable def pInt(x:D)(g:G):Res D:=match x with
 |.int i=>.ok (.int i) g
 |.bl b=>.ok (.int (if b then 1 else 0)) g
 |_=>.stuck
noncomputable def Yg(o e:ME):ME:=λσ g=>(o σ g).bind λx g1=>match x with
 |.ref n=>(match g1[n]? with
  |some (.lst _)=>(e σ g1).bind λy g2=>(match g2[n]? with
   |some (.lst ds)=>if ds.length<SZ then .ok .non (g2.set n (.lst (ds++[y]))) else .stuck
   |_=>.stuck)
  |_=>.stuck)
 |_=>.stuck
inductive Ty where
 |non|bool|int|str|tuple|list|dict
 deriving DecidableEq
noncomputable def Ty.name:Ty->String
 |.non => "NoneType" |.bool => "bool" |.int => "int" |.str => "str" |.tuple => "tuple" |.list => "list" |.dict => "dict"
noncomputable def tyLe(t c:Ty):Bool:=t == c || (t == .bool && c == .int)
noncomputable def tyOf(g:G):D->Option Ty
 |.non=>some .non
 |.bl _=>some .bool
 |.int _=>some .int
 |.str _=>some .str
 |.tup _=>some .tuple
 |.fl _=>some .list
 |.ref n=>(match g[n]? with
  |some (.lst _)=>some .list
  |some (.dct _)=>some .dict
  |_=>none)
noncomputable def ZT(c:Ty)(x:D)(g:G):Res D:=match tyOf g x with
 |some t=>.ok (.bl (tyLe t c)) g
 |none=>.stuck
noncomputable def allB:List D->Option Bool
 |[]=>some true
 |.bl b::r=>(allB r).map (b && ·)
 |_::_=>none
noncomputable def pAll(x:D)(g:G):Res D:=match x with
 |.ref n=>(match g[n]? with
  |some (.lst ds)=>(match allB ds with
   |some b=>.ok (.bl b) g
   |none=>.stuck)
  |_=>.stuck)
 |_=>.stuck
noncomputable def QbY:D->Bool
 |.non=>true
 |.bl _=>true
 |.int _=>true
 |.str _=>true
 |_=>false
noncomputable def eqF(x y:D):Bool:=match x,y with
 |.non,.non=>true
 |.bl a,.bl b=>a == b
 |.int i,.int j=>i == j
 |.str s,.str t=>s == t
 |.bl a,.int j=>b2I a == j
 |.int i,.bl b=>i == b2I b
 |_,_=>false
noncomputable def pIn(neg:Bool)(x y:D)(g:G):Res D:=match QK g y with
 |some (_,ds)=>if QbY x=true/\ds.all QbY=true then .ok (.bl (if neg=true then !(ds.any λd=>eqF d x) else ds.any λd=>eqF d x)) g else .stuck
 |none=>.stuck
end L3
namespace L3
open PySem PySem.Spec PyProof.Rows L2
def SqF(K:Frag)(H:Hp)(a:Addr)(xs:List V):Prop:=(∃o,H a=some (.frz o (.lst xs)))\/SqL K (λ_=>none) a xs
theorem SqF.sq{K:Frag}{H:Hp}{a:Addr}{xs:List V}(h:SqF K H a xs):SqL K H a xs:=by
 rcases h with⟨o,h⟩|(h|⟨o,h⟩)|h
 ·exact .inl (.inr ⟨o,h⟩)
 ·cases h
 ·cases h
 ·exact .inr h
mutual
inductive Den(K:Frag)(μ:List Addr)(H:Hp):V->D->Prop where
 |non:Den K μ H .non .non
 |bl (b:Bool):Den K μ H (.bl b) (.bl b)
 |int (i:Int):Den K μ H (.int i) (.int i)
 |str (x:Str):Den K μ H (.str x) (.str x)
 |ref {n:Nat} {a:Addr} (h:μ[n]?=some a):Den K μ H (.ref a) (.ref n)
 |tup {a:Addr} {vs:List V} {ds:List D} (h:SqT K H a vs) (hs:Dens K μ H vs ds):Den K μ H (.ref a) (.tup ds)
 |fl {a:Addr} {vs:List V} {ds:List D} (h:SqF K H a vs) (hs:Dens K μ H vs ds):Den K μ H (.ref a) (.fl ds)
inductive Dens(K:Frag)(μ:List Addr)(H:Hp):List V->List D->Prop where
 |nil:Dens K μ H [] []
 |cons {v:V} {d:D} {vs:List V} {ds:List D} (h:Den K μ H v d) (hs:Dens K μ H vs ds):Dens K μ H (v::vs) (d::ds)
end
structure Ext(K:Frag)(μ:List Addr)(H:Hp)(μ':List Addr)(H':Hp):Prop where
 pre:∃t,μ'=μ++t
 tup:∀a xs,SqT K H a xs->SqT K H' a xs
 fl:∀a xs,SqF K H a xs->SqF K H' a xs
 frz:∀a o u,H a=some (.frz o u)->H' a=some (.frz o u)
section
variable{K:Frag}{ca:Nat->Addr}{μ μ' μ'':List Addr}{H H' H'':Hp}
theorem Ext.refl:Ext K μ H μ H:=⟨⟨[],by simp⟩,λ_ _ h=>h,λ_ _ h=>h,λ_ _ _ h=>h⟩
theorem Ext.trans(a:Ext K μ H μ' H')(b:Ext K μ' H' μ'' H''):Ext K μ H μ'' H'':=by
 obtain⟨t,e⟩:=a.pre
 obtain⟨u,f⟩:=b.pre
 exact⟨⟨t++u,by rw[f,e,UH]⟩,λx xs h=>b.tup x xs (a.tup x xs h),λx xs h=>b.fl x xs (a.fl x xs h),λx o u h=>b.frz x o u (a.frz x o u h)⟩
theorem Ext.at(e:Ext K μ H μ' H'){n:Nat}{a:Addr}(h:μ[n]?=some a):μ'[n]?=some a:=by
 obtain⟨t,rfl⟩:=e.pre
 have hl:n<μ.length:=(Ud.mp h).1
 rw[Ut hl]
 exact h
mutual
theorem Den.mono(e:Ext K μ H μ' H'):∀{v:V}{d:D},Den K μ H v d->Den K μ' H' v d
 |_,_,.non=>.non
 |_,_,.bl b=>.bl b
 |_,_,.int i=>.int i
 |_,_,.str x=>.str x
 |_,_,.ref h=>.ref (e.at h)
 |_,_,.tup h hs=>.tup (e.tup _ _ h) (Dens.mono e hs)
 |_,_,.fl h hs=>.fl (e.fl _ _ h) (Dens.mono e hs)
theorem Dens.mono(e:Ext K μ H μ' H'):∀{vs:List V}{ds:List D},Dens K μ H vs ds->Dens K μ' H' vs ds
 |_,_,.nil=>.nil
 |_,_,.cons h hs=>.cons (Den.mono e h) (Dens.mono e hs)
end
theorem Dens.length:∀{vs:List V}{ds:List D},Dens K μ H vs ds->vs.length=ds.length
 |_,_,.nil=>rfl
 |_,_,.cons _ t=>by rw[UI,UI,Dens.length t]
theorem Dens.get:∀{vs:List V}{ds:List D}{i:Nat}{d:D},Dens K μ H vs ds->ds[i]?=some d->∃v,vs[i]?=some v/\Den K μ H v d
 |_,_,_,_,.nil,e=>by simp at e
 |_,_,0,_,.cons r _,e=>by simp at e;subst e;exact⟨_,rfl,r⟩
 |_,_,i+1,x,.cons _ t,e=>by
  obtain⟨u,h1,h2⟩:=Dens.get (i:=i) (d:=x) t (by simpa using e)
  exact⟨u,by simpa using h1,h2⟩
theorem Dens.getV:∀{vs:List V}{ds:List D}{i:Nat}{v:V},Dens K μ H vs ds->vs[i]?=some v->∃d,ds[i]?=some d/\Den K μ H v d
 |_,_,_,_,.nil,e=>by simp at e
 |_,_,0,_,.cons r _,e=>by simp at e;subst e;exact⟨_,rfl,r⟩
 |_,_,i+1,x,.cons _ t,e=>by
  obtain⟨u,h1,h2⟩:=Dens.getV (i:=i) (v:=x) t (by simpa using e)
  exact⟨u,by simpa using h1,h2⟩
theorem Dens.append:∀{vs ws:List V}{ds es:List D},Dens K μ H vs ds->Dens K μ H ws es->Dens K μ H (vs++ws) (ds++es)
 |_,_,_,_,.nil,h=>h
 |_,_,_,_,.cons a b,h=>.cons a (Dens.append b h)
theorem Dens.set{x:V}{u:D}(r:Den K μ H x u):∀{xs:List V}{us:List D}(i:Nat),Dens K μ H xs us->Dens K μ H (xs.set i x) (us.set i u)
 |_,_,_,.nil=>.nil
 |_,_,0,.cons _ t=>.cons r t
 |_,_,i+1,.cons q t=>.cons q (Dens.set r i t)
theorem Dens.take:∀{xs:List V}{us:List D}(n:Nat),Dens K μ H xs us->Dens K μ H (xs.take n) (us.take n)
 |_,_,0,_=>.nil
 |_,_,_+1,.nil=>.nil
 |_,_,n+1,.cons r t=>.cons r (Dens.take n t)
theorem Dens.drop:∀{xs:List V}{us:List D}(n:Nat),Dens K μ H xs us->Dens K μ H (xs.drop n) (us.drop n)
 |_,_,0,r=>r
 |_,_,_+1,.nil=>.nil
 |_,_,n+1,.cons _ t=>Dens.drop n t
theorem Dens.ints(ns:List Int):Dens K μ H (ns.map V.int) (ns.map D.int):=by
 induction ns with
 |nil=>exact .nil
 |cons n r ih=>exact .cons (.int n) ih
noncomputable def FRel(K:Frag)(μ:List Addr)(H:Hp):List (Str×V)->List (Str×D)->Prop:=Paired λp q=>p.1=q.1/\Den K μ H p.2 q.2
noncomputable def KRel(K:Frag)(μ:List Addr)(H:Hp):List (Key×V)->List (Key×D)->Prop:=Paired λp q=>p.1=q.1/\Den K μ H p.2 q.2
def XOb(ca:Nat->Addr)(x:Xc)(o:Obj):Prop:=o.cls=.ref (ca x.1)/\o.dict=none
theorem XOb.map{ca:Nat->Addr}{x:Xc}{o:Obj}(h:XOb ca x o)(f:Array Value->Array Value):XOb ca x (o.mapFields f):=by
 obtain⟨c,d,dt,sl⟩:=o
 cases dt <;> exact h
noncomputable def XO(ca:Nat->Addr)(a:Addr)(x:Xc):HO:=.ext λh=>∃o vs,h.get? a=some o/\XOb ca x o/\o.data=.fields vs
noncomputable def ORep(K:Frag)(ca:Nat->Addr)(μ:List Addr)(H:Hp)(a:Addr):GO->Prop
 |.dct ks=>∃kv,H a=some (.dK kv)/\KRel K μ H kv ks
 |.exc x=>H a=some (XO ca a x)
 |.dfz ks=>∃o kv,H a=some (.frz o (.dK kv))/\KRel K μ H kv ks
 |.lst ds=>∃vs,H a=some (.lst vs)/\Dens K μ H vs ds
 |.ins c fs=>∃dx fv,H a=some (.ins (ca c) dx fv)/\FRel K μ H fv fs
structure GRep(K:Frag)(ca:Nat->Addr)(μ:List Addr)(H:Hp)(g:G):Prop where
 len:μ.length=g.length
 nd:μ.Nodup
 obj:∀(n:Nat)(a:Addr)(o:GO),μ[n]?=some a->g[n]?=some o->ORep K ca μ H a o
structure Rep(K:Frag)(ca:Nat->Addr)(μ:List Addr)(σ3:S3)(g:G)(σ:L2.St)(H:Hp):Prop where
 g:GRep K ca μ H g
 len:σ.length=σ3.length
 st:∀(i:Nat)(d:D),σ3[i]?=some (some d)->∃v,σ[i]?=some (some v)/\Den K μ H v d
theorem FRel.mono(e:Ext K μ H μ' H'){fv:List (Str×V)}{fs:List (Str×D)}(h:FRel K μ H fv fs):FRel K μ' H' fv fs:=Paired.imp' (λ_ _ q=>⟨q.1,q.2.mono e⟩) h
theorem KRel.mono(e:Ext K μ H μ' H'){fv:List (Key×V)}{fs:List (Key×D)}(h:KRel K μ H fv fs):KRel K μ' H' fv fs:=Paired.imp' (λ_ _ q=>⟨q.1,q.2.mono e⟩) h
theorem Rep.go{σ3:S3}{g g':G}{σ:L2.St}(r:Rep K ca μ σ3 g σ H)(e:Ext K μ H μ' H')(h:GRep K ca μ' H' g'):Rep K ca μ' σ3 g' σ H' :=
 ⟨h,r.len,λi d z=>by obtain⟨v,h1,h2⟩:=r.st i d z;exact⟨v,h1,h2.mono e⟩⟩
theorem GRep.addr{g:G}(r:GRep K ca μ H g){n:Nat}{o:GO}(h:g[n]?=some o):∃a,μ[n]?=some a/\ORep K ca μ H a o:=by
 have hl:n<g.length:=(Ud.mp h).1
 have hm:n<μ.length:=by rw[r.len];exact hl
 exact⟨μ[n],by simp[hm],r.obj n _ o (by simp[hm]) h⟩
theorem ORep.is{a:Addr}{o:GO}(h:ORep K ca μ H a o):∃u,H a=some u:=by
 cases o with
 |lst ds=>obtain⟨_,h,_⟩:=h;exact⟨_,h⟩
 |ins c fs=>obtain⟨_,_,h,_⟩:=h;exact⟨_,h⟩
 |dct ks=>obtain⟨_,h,_⟩:=h;exact⟨_,h⟩
 |exc x=>exact⟨_,h⟩
 |dfz ks=>obtain⟨_,_,h,_⟩:=h;exact⟨_,h⟩
theorem GRep.known{g:G}(r:GRep K ca μ H g){a:Addr}(h:a∈μ):∃u,H a=some u:=by
 obtain⟨n,hn⟩:=List.getElem?_of_mem h
 have hl:n<μ.length:=(Ud.mp hn).1
 have hg:n<g.length:=by rw[<-r.len];exact hl
 exact(r.obj n a g[n] hn (by simp[hg])).is
theorem Zc{p:Addr}{o:HO}(hp:H p=none):Ext K μ H μ (upd H p o):=⟨⟨[],by simp⟩,λa xs h=>by
 rcases h with(h|⟨u,h⟩)|h
 ·exact .inl (.inl (by rw[QF (Q3 h hp)];exact h))
 ·exact .inl (.inr ⟨u,by rw[QF (Q3 h hp)];exact h⟩)
 ·exact .inr h,λa xs h=>by
 rcases h with⟨u,h⟩|h
 ·exact .inl ⟨u,by rw[QF (Q3 h hp)];exact h⟩
 ·exact .inr h,λa o u h=>by rw[QF (Q3 h hp)];exact h⟩
theorem ORep.mono{a:Addr}{o:GO}(e:Ext K μ H μ' H')(ha:∀u,H a=some u->H' a=some u)(h:ORep K ca μ H a o):ORep K ca μ' H' a o:=by
 cases o with
 |lst ds=>obtain⟨vs,h,q⟩:=h;exact⟨vs,ha _ h,q.mono e⟩
 |ins c fs=>obtain⟨dx,fv,h,q⟩:=h;exact⟨dx,fv,ha _ h,q.mono e⟩
 |dct ks=>obtain⟨kv,h,q⟩:=h;exact⟨kv,ha _ h,q.mono e⟩
 |exc x=>exact ha _ h
 |dfz ks=>obtain⟨o,kv,h,q⟩:=h;exact⟨o,kv,ha _ h,q.mono e⟩
theorem GRep.new{g:G}{p:Addr}{o:HO}(r:GRep K ca μ H g)(hp:H p=none):GRep K ca μ (upd H p o) g :=
 ⟨r.len,r.nd,λn a u h1 h2=>(r.obj n a u h1 h2).mono (Zc hp) λz hz=>by rw[QF (Q3 hz hp)];exact hz⟩
theorem QS{p:Addr}{o:HO}(hp:H p=none):Ext K μ H (μ++[p]) (upd H p o):=⟨⟨[p],rfl⟩,(Zc (μ:=μ) hp).tup,(Zc (μ:=μ) hp).fl,(Zc (K:=K) (μ:=μ) hp).frz⟩
theorem GRep.push{g:G}{p:Addr}{o:HO}{u:GO}(r:GRep K ca μ H g)(hp:H p=none)(ho:ORep K ca (μ++[p]) (upd H p o) p u):GRep K ca (μ++[p]) (upd H p o) (g++[u]):=by
 have nm:p∉μ:=λh=>by
  obtain⟨z,hz⟩:=r.known h
  rw[hp]at hz;cases hz
 refine⟨by rw[Um,Um,r.len];rfl,?_,λn a w h1 h2=>?_⟩
 ·rw[List.nodup_append]
  exact⟨r.nd,by simp,λx hx y hy e=>nm (by rw[Up.mp hy]at e;rw[<-e];exact hx)⟩
 ·by_cases hn:n<g.length
  ·rw[Ut hn]at h2
   rw[Ut (by rw[r.len];exact hn)]at h1
   exact(r.obj n a w h1 h2).mono (QS hp) λz hz=>by rw[QF (Q3 hz hp)];exact hz
  ·rw[Ux (by omega)]at h2
   rw[Ux (by rw[r.len];omega)]at h1
   have e0:n-g.length=0:=by
    have:=(Ud.mp h2).1
    simp at this;omega
   rw[e0]at h2
   rw[r.len,e0]at h1
   simp at h1 h2
   subst h1 h2
   exact ho
theorem Jn{a:Addr}{o o':HO}(h:H a=some o)(no:∀xs,o≠.tup xs)(nf:∀b u,o≠.frz b u):Ext K μ H μ (upd H a o'):=⟨⟨[],by simp⟩,λb xs hb=>by
 rcases hb with(z|⟨u,z⟩)|z
 ·exact .inl (.inl (by rw[QF (Qjo z h (Ne.symm (no xs)))];exact z))
 ·exact .inl (.inr ⟨u,by rw[QF (Qjo z h (Ne.symm (nf u _)))];exact z⟩)
 ·exact .inr z,λb xs hb=>by
 rcases hb with⟨u,z⟩|z
 ·exact .inl ⟨u,by rw[QF (Qjo z h (Ne.symm (nf u _)))];exact z⟩
 ·exact .inr z,λb u v z=>by rw[QF (Qjo z h (Ne.symm (nf u v)))];exact z⟩
theorem GRep.set{g:G}{n:Nat}{a:Addr}{o o':HO}{u:GO}(r:GRep K ca μ H g)(hn:μ[n]?=some a)(h:H a=some o)(no:∀xs,o≠.tup xs)(nf:∀b u,o≠.frz b u)(ho:ORep K ca μ (upd H a o') a u):
  GRep K ca μ (upd H a o') (g.set n u):=by
 refine⟨by rw[UN,r.len],r.nd,λm b w h1 h2=>?_⟩
 by_cases e:m=n
 ·subst e
  rw[hn]at h1;cases h1
  have hl:m<g.length:=by
   rw[<-r.len];exact(Ud.mp hn).1
  rw[U0 hl]at h2;cases h2
  exact ho
 ·rw[Uo (Ne.symm e)]at h2
  have nb:b≠a:=λz=>by
   subst z
   have e1:=(Ud.mp h1)
   have e2:=(Ud.mp hn)
   obtain⟨l1,q1⟩:=e1
   obtain⟨l2,q2⟩:=e2
   exact e ((Wf r.nd).mp (q1.trans q2.symm))
  exact(r.obj m b w h1 h2).mono (Jn h no nf) λz hz=>by rw[QF nb];exact hz
noncomputable abbrev XS:=Xc->L2.St->Hp->Prop
noncomputable def FpW(X:Cx)(pins:List (Addr×Obj))(H:Hp)(b:Addr):Prop :=
 H b=none/\b≠X.env.locals/\b∉X.fs/\(b∈X.ex\/X.s₀.heap.get? b=none)/\(∀x c,X.env.cells.lookup x=some c->c≠b)/\∀p∈X.pn++pins,p.1≠b
structure Fl(X:Cx)(ca:Nat->Addr)(a:Addr)(x:Xc)(H:Hp)(h:Heap):Prop where
 fp:FpW X [] H a
 ln:x.2=none
 ex:∃oe vs,h.get? a=some oe/\XOb ca x oe/\oe.data=.fields vs/\1<vs.size /\
  (vs[1]?=some .none\/∃T oT ts,vs[1]?=some (.ref T)/\T≠a/\FpW X [] H T/\h.get? T=some oT/\oT.data=.fields ts/\3<ts.size/\(ts[3]?=some .none\/ts[3]?=some (rawInt X.env.locals)))
noncomputable def XE(X:Cx)(ca:Nat->Addr)(Φ:XS):Value->Shared->Prop:=λv s=>∃a x σ H,v=.ref a/\Inv X [] σ H s/\Fl X ca a x H s.heap/\Φ x σ H
noncomputable abbrev xon(X:Cx)(pn:List (Addr×Obj)):Cx:={X with pn:=pn,xe:=λ_ _=>False}
noncomputable abbrev xat(X:Cx)(ca:Nat->Addr)(pn:List (Addr×Obj))(Φ:XS):Cx:={X with pn:=pn,xe:=XE (xon X pn) ca Φ}
def RaP(K:Frag)(ca:Nat->Addr)(Φ:XS)(σ:L2.St)(H:Hp)(μ:List Addr)(x:Xc)(g':G):Prop:=∀H' μ',Ext K μ H μ' H'->GRep K ca μ' H' g'->Φ x σ H'
noncomputable def Post(K:Frag)(ca:Nat->Addr)(Φ:XS)(σ:L2.St)(Q:VK)(H:Hp)(μ:List Addr):Res D->Prop
 |.ok d g'=>∀v H' μ',Ext K μ H μ' H'->GRep K ca μ' H' g'->Den K μ' H' v d->Q v H'
 |.raise x g'=>RaP K ca Φ σ H μ x g'
 |.stuck=>False
noncomputable def PostT(K:Frag)(ca:Nat->Addr)(Φ:XS)(σ:L2.St)(Q:Bool->Hp->Prop)(H:Hp)(μ:List Addr):Res Bool->Prop
 |.ok b g'=>∀H' μ',Ext K μ H μ' H'->GRep K ca μ' H' g'->Q b H'
 |.raise x g'=>RaP K ca Φ σ H μ x g'
 |.stuck=>False
noncomputable def PostA(K:Frag)(ca:Nat->Addr)(Φ:XS)(σ:L2.St)(Q:List V->Hp->Prop)(H:Hp)(μ:List Addr):Res (List D)->Prop
 |.ok ds g'=>∀vs H' μ',Ext K μ H μ' H'->GRep K ca μ' H' g'->Dens K μ' H' vs ds->Q vs H'
 |.raise x g'=>RaP K ca Φ σ H μ x g'
 |.stuck=>False
noncomputable def PostS(K:Frag)(ca:Nat->Addr)(Φ:XS)(E:Ends)(H:Hp)(μ:List Addr):Out->Prop
 |.nx σ3 g'=>∀σ' H' μ',Ext K μ H μ' H'->Rep K ca μ' σ3 g' σ' H'->E.nx σ' H'
 |.bk σ3 g'=>∀σ' H' μ',Ext K μ H μ' H'->Rep K ca μ' σ3 g' σ' H'->E.bk σ' H'
 |.ct σ3 g'=>∀σ' H' μ',Ext K μ H μ' H'->Rep K ca μ' σ3 g' σ' H'->E.ct σ' H'
 |.rt d g'=>∀v H' μ',Ext K μ H μ' H'->GRep K ca μ' H' g'->Den K μ' H' v d->E.rt v H'
 |.raise x σ3 g'=>∀σ' H' μ',Ext K μ H μ' H'->Rep K ca μ' σ3 g' σ' H'->Φ x σ' H'
 |.stuck=>False
noncomputable def up(K:Frag)(ca:Nat->Addr)(Φ:XS)(m:ME):TE:=λσ H Q=>∃σ3 g μ,Rep K ca μ σ3 g σ H/\Post K ca Φ σ Q H μ (m σ3 g)
noncomputable def upT(K:Frag)(ca:Nat->Addr)(Φ:XS)(m:MT):TT:=λσ H Q=>∃σ3 g μ,Rep K ca μ σ3 g σ H/\PostT K ca Φ σ Q H μ (m σ3 g)
noncomputable def upA(K:Frag)(ca:Nat->Addr)(Φ:XS)(m:MA):TA:=λσ H Q=>∃σ3 g μ,Rep K ca μ σ3 g σ H/\PostA K ca Φ σ Q H μ (m σ3 g)
noncomputable def upS(K:Frag)(ca:Nat->Addr)(Φ:XS)(m:MS):TS:=λE σ H=>∃σ3 g μ,Rep K ca μ σ3 g σ H/\PostS K ca Φ E H μ (m σ3 g)
def PE3(ca:Nat->Addr)(X:Cx)(e:Expr)(m:ME):Prop:=∀pn Φ,PE (xat X ca pn Φ) e (up X.K ca Φ m)
def PT3(ca:Nat->Addr)(X:Cx)(e:Expr)(m:MT):Prop:=∀pn Φ,PT (xat X ca pn Φ) e (upT X.K ca Φ m)
def PW3(ca:Nat->Addr)(X:Cx)(e:Expr)(m:MT):Prop:=∀pn Φ,PW (xat X ca pn Φ) e (upT X.K ca Φ m)
def PA3(ca:Nat->Addr)(X:Cx)(es:List Expr)(m:MA):Prop:=∀pn Φ,PA (xat X ca pn Φ) es (upA X.K ca Φ m)
def PS3(ca:Nat->Addr)(X:Cx)(st:Stmt)(m:MS):Prop:=∀pn Φ,PS (xat X ca pn Φ) st (upS X.K ca Φ m)
def PSs3(ca:Nat->Addr)(X:Cx)(sts:List Stmt)(m:MS):Prop:=∀pn Φ,PSs (xat X ca pn Φ) sts (upS X.K ca Φ m)
variable{Φ:XS}{σ:L2.St}
theorem RaP.go{x:Xc}{g':G}(e:Ext K μ H μ' H')(h:RaP K ca Φ σ H μ x g'):RaP K ca Φ σ H' μ' x g':=λH2 μ2 e2=>h H2 μ2 (e.trans e2)
theorem Post.go{Q:VK}{r:Res D}(e:Ext K μ H μ' H')(h:Post K ca Φ σ Q H μ r):Post K ca Φ σ Q H' μ' r:=by
 cases r with
 |ok d g'=>exact λv H2 μ2 e2=>h v H2 μ2 (e.trans e2)
 |raise _ _=>exact RaP.go e h
 |stuck=>exact h
theorem PostT.go{Q:Bool->Hp->Prop}{r:Res Bool}(e:Ext K μ H μ' H')(h:PostT K ca Φ σ Q H μ r):PostT K ca Φ σ Q H' μ' r:=by
 cases r with
 |ok d g'=>exact λH2 μ2 e2=>h H2 μ2 (e.trans e2)
 |raise _ _=>exact RaP.go e h
 |stuck=>exact h
theorem PostA.go{Q:List V->Hp->Prop}{r:Res (List D)}(e:Ext K μ H μ' H')(h:PostA K ca Φ σ Q H μ r):PostA K ca Φ σ Q H' μ' r:=by
 cases r with
 |ok d g'=>exact λv H2 μ2 e2=>h v H2 μ2 (e.trans e2)
 |raise _ _=>exact RaP.go e h
 |stuck=>exact h
theorem PostS.go{E:Ends}{r:Out}(e:Ext K μ H μ' H')(h:PostS K ca Φ E H μ r):PostS K ca Φ E H' μ' r:=by
 cases r with
 |nx _ _=>exact λv H2 μ2 e2=>h v H2 μ2 (e.trans e2)
 |bk _ _=>exact λv H2 μ2 e2=>h v H2 μ2 (e.trans e2)
 |ct _ _=>exact λv H2 μ2 e2=>h v H2 μ2 (e.trans e2)
 |rt _ _=>exact λv H2 μ2 e2=>h v H2 μ2 (e.trans e2)
 |raise _ _ _=>exact λv H2 μ2 e2=>h v H2 μ2 (e.trans e2)
 |stuck=>exact h
theorem Post.pure{Q:VK}{g:G}{v:V}{d:D}(h:Post K ca Φ σ Q H μ (.ok d g))(r:GRep K ca μ H g)(q:Den K μ H v d):Q v H:=h v H μ .refl r q
theorem RaP.stmt{x:Xc}{σ3:S3}{g g':G}{E:Ends}(R:Rep K ca μ σ3 g σ H)(h:PostS K ca Φ E H μ (.raise x σ3 g')):RaP K ca Φ σ H μ x g':=λH' μ' e r=>h σ H' μ' e (R.go e r)
theorem Qe8{m:ME}{α:Type}{k:D->G->Res α}{σ3:S3}{g:G}(R:Rep K ca μ σ3 g σ H){P:Res α->Hp->List Addr->Prop}(hp:P ((m σ3 g).bind k) H μ)(hst:∀H μ,¬P .stuck H μ)(hra:∀e g H μ,P (.raise e g) H μ->RaP K ca Φ σ H μ e g)(hgo:∀r H μ H' μ',Ext K μ H μ' H'->P r H μ->P r H' μ'):
  up K ca Φ m σ H λx H1=>∃d g1 μ1,Ext K μ H μ1 H1/\Rep K ca μ1 σ3 g1 σ H1/\Den K μ1 H1 x d/\P (k d g1) H1 μ1:=by
 refine⟨σ3,g,μ,R,?_⟩
 cases hm:m σ3 g with
 |ok d g1 =>
  rw[hm]at hp
  exact λv H1 μ1 e1 r1 d1=>⟨d,g1,μ1,e1,R.go e1 r1,d1,hgo _ _ _ _ _ e1 hp⟩
 |raise e g1=>rw[hm]at hp;exact hra _ _ _ _ hp
 |stuck=>rw[hm]at hp;exact(hst _ _ hp).elim
theorem Qar{m:ME}{k:D->G->Res D}{σ3:S3}{g:G}{Q:VK}(R:Rep K ca μ σ3 g σ H)(hp:Post K ca Φ σ Q H μ ((m σ3 g).bind k)):
  up K ca Φ m σ H λx H1=>∃d g1 μ1,Ext K μ H μ1 H1/\Rep K ca μ1 σ3 g1 σ H1/\Den K μ1 H1 x d/\Post K ca Φ σ Q H1 μ1 (k d g1) :=
 Qe8 (P:=λr H μ=>Post K ca Φ σ Q H μ r) R hp (λ_ _ h=>h) (λ_ _ _ _ h=>h) λ_ _ _ _ _ e h=>h.go e
theorem QmL{m:ME}{k:D->G->Res Bool}{σ3:S3}{g:G}{Q:Bool->Hp->Prop}(R:Rep K ca μ σ3 g σ H)(hp:PostT K ca Φ σ Q H μ ((m σ3 g).bind k)):
  up K ca Φ m σ H λx H1=>∃d g1 μ1,Ext K μ H μ1 H1/\Rep K ca μ1 σ3 g1 σ H1/\Den K μ1 H1 x d/\PostT K ca Φ σ Q H1 μ1 (k d g1) :=
 Qe8 (P:=λr H μ=>PostT K ca Φ σ Q H μ r) R hp (λ_ _ h=>h) (λ_ _ _ _ h=>h) λ_ _ _ _ _ e h=>h.go e
theorem QnZ{m:ME}{k:D->G->Res (List D)}{σ3:S3}{g:G}{Q:List V->Hp->Prop}(R:Rep K ca μ σ3 g σ H)(hp:PostA K ca Φ σ Q H μ ((m σ3 g).bind k)):
  up K ca Φ m σ H λx H1=>∃d g1 μ1,Ext K μ H μ1 H1/\Rep K ca μ1 σ3 g1 σ H1/\Den K μ1 H1 x d/\PostA K ca Φ σ Q H1 μ1 (k d g1) :=
 Qe8 (P:=λr H μ=>PostA K ca Φ σ Q H μ r) R hp (λ_ _ h=>h) (λ_ _ _ _ h=>h) λ_ _ _ _ _ e h=>h.go e
theorem QfP{m:MT}{α:Type}{k:Bool->G->Res α}{σ3:S3}{g:G}(R:Rep K ca μ σ3 g σ H){P:Res α->Hp->List Addr->Prop}(hp:P ((m σ3 g).bind k) H μ)(hst:∀H μ,¬P .stuck H μ)(hra:∀e g H μ,P (.raise e g) H μ->RaP K ca Φ σ H μ e g)(hgo:∀r H μ H' μ',Ext K μ H μ' H'->P r H μ->P r H' μ'):
  upT K ca Φ m σ H λb H1=>∃g1 μ1,Ext K μ H μ1 H1/\Rep K ca μ1 σ3 g1 σ H1/\P (k b g1) H1 μ1:=by
 refine⟨σ3,g,μ,R,?_⟩
 cases hm:m σ3 g with
 |ok d g1 =>
  rw[hm]at hp
  exact λH1 μ1 e1 r1=>⟨g1,μ1,e1,R.go e1 r1,hgo _ _ _ _ _ e1 hp⟩
 |raise e g1=>rw[hm]at hp;exact hra _ _ _ _ hp
 |stuck=>rw[hm]at hp;exact(hst _ _ hp).elim
theorem QmM{m:MT}{k:Bool->G->Res D}{σ3:S3}{g:G}{Q:VK}(R:Rep K ca μ σ3 g σ H)(hp:Post K ca Φ σ Q H μ ((m σ3 g).bind k)):
  upT K ca Φ m σ H λb H1=>∃g1 μ1,Ext K μ H μ1 H1/\Rep K ca μ1 σ3 g1 σ H1/\Post K ca Φ σ Q H1 μ1 (k b g1) :=
 QfP (P:=λr H μ=>Post K ca Φ σ Q H μ r) R hp (λ_ _ h=>h) (λ_ _ _ _ h=>h) λ_ _ _ _ _ e h=>h.go e
theorem QhD{m:MT}{k:Bool->G->Res Bool}{σ3:S3}{g:G}{Q:Bool->Hp->Prop}(R:Rep K ca μ σ3 g σ H)(hp:PostT K ca Φ σ Q H μ ((m σ3 g).bind k)):
  upT K ca Φ m σ H λb H1=>∃g1 μ1,Ext K μ H μ1 H1/\Rep K ca μ1 σ3 g1 σ H1/\PostT K ca Φ σ Q H1 μ1 (k b g1) :=
 QfP (P:=λr H μ=>PostT K ca Φ σ Q H μ r) R hp (λ_ _ h=>h) (λ_ _ _ _ h=>h) λ_ _ _ _ _ e h=>h.go e
theorem QfQ{m:MA}{α:Type}{k:List D->G->Res α}{σ3:S3}{g:G}(R:Rep K ca μ σ3 g σ H){P:Res α->Hp->List Addr->Prop}(hp:P ((m σ3 g).bind k) H μ)(hst:∀H μ,¬P .stuck H μ)(hra:∀e g H μ,P (.raise e g) H μ->RaP K ca Φ σ H μ e g)(hgo:∀r H μ H' μ',Ext K μ H μ' H'->P r H μ->P r H' μ'):
  upA K ca Φ m σ H λxs H1=>∃ds g1 μ1,Ext K μ H μ1 H1/\Rep K ca μ1 σ3 g1 σ H1/\Dens K μ1 H1 xs ds/\P (k ds g1) H1 μ1:=by
 refine⟨σ3,g,μ,R,?_⟩
 cases hm:m σ3 g with
 |ok d g1 =>
  rw[hm]at hp
  exact λv H1 μ1 e1 r1 d1=>⟨d,g1,μ1,e1,R.go e1 r1,d1,hgo _ _ _ _ _ e1 hp⟩
 |raise e g1=>rw[hm]at hp;exact hra _ _ _ _ hp
 |stuck=>rw[hm]at hp;exact(hst _ _ hp).elim
theorem QfR{m:MA}{k:List D->G->Res D}{σ3:S3}{g:G}{Q:VK}(R:Rep K ca μ σ3 g σ H)(hp:Post K ca Φ σ Q H μ ((m σ3 g).bind k)):
  upA K ca Φ m σ H λxs H1=>∃ds g1 μ1,Ext K μ H μ1 H1/\Rep K ca μ1 σ3 g1 σ H1/\Dens K μ1 H1 xs ds/\Post K ca Φ σ Q H1 μ1 (k ds g1) :=
 QfQ (P:=λr H μ=>Post K ca Φ σ Q H μ r) R hp (λ_ _ h=>h) (λ_ _ _ _ h=>h) λ_ _ _ _ _ e h=>h.go e
theorem QmN{m:MA}{k:List D->G->Res (List D)}{σ3:S3}{g:G}{Q:List V->Hp->Prop}(R:Rep K ca μ σ3 g σ H)(hp:PostA K ca Φ σ Q H μ ((m σ3 g).bind k)):
  upA K ca Φ m σ H λxs H1=>∃ds g1 μ1,Ext K μ H μ1 H1/\Rep K ca μ1 σ3 g1 σ H1/\Dens K μ1 H1 xs ds/\PostA K ca Φ σ Q H1 μ1 (k ds g1) :=
 QfQ (P:=λr H μ=>PostA K ca Φ σ Q H μ r) R hp (λ_ _ h=>h) (λ_ _ _ _ h=>h) λ_ _ _ _ _ e h=>h.go e
theorem Zs{m:ME}{Q Q':VK}(h:up K ca Φ m σ H Q)(i:∀x H1,Q x H1->Q' x H1):up K ca Φ m σ H Q':=by
 obtain⟨σ3,g,μ,R,p⟩:=h
 refine⟨σ3,g,μ,R,?_⟩
 cases hm:m σ3 g with
 |ok d g1=>rw[hm]at p;exact λv H1 μ1 e r q=>i _ _ (p v H1 μ1 e r q)
 |raise e g1=>rw[hm]at p;exact p
 |stuck=>rw[hm]at p;exact p
theorem QbG{m:MT}{Q Q':Bool->Hp->Prop}(h:upT K ca Φ m σ H Q)(i:∀x H1,Q x H1->Q' x H1):upT K ca Φ m σ H Q':=by
 obtain⟨σ3,g,μ,R,p⟩:=h
 refine⟨σ3,g,μ,R,?_⟩
 cases hm:m σ3 g with
 |ok d g1=>rw[hm]at p;exact λH1 μ1 e r=>i _ _ (p H1 μ1 e r)
 |raise e g1=>rw[hm]at p;exact p
 |stuck=>rw[hm]at p;exact p
theorem QaO{m:MA}{Q Q':List V->Hp->Prop}(h:upA K ca Φ m σ H Q)(i:∀x H1,Q x H1->Q' x H1):upA K ca Φ m σ H Q':=by
 obtain⟨σ3,g,μ,R,p⟩:=h
 refine⟨σ3,g,μ,R,?_⟩
 cases hm:m σ3 g with
 |ok d g1=>rw[hm]at p;exact λv H1 μ1 e r q=>i _ _ (p v H1 μ1 e r q)
 |raise e g1=>rw[hm]at p;exact p
 |stuck=>rw[hm]at p;exact p
end
theorem Zu{X:Cx}{e:Expr}{t t':TE}(h:PE X e t)(i:∀σ H Q,t' σ H Q->t σ H Q):PE X e t':=λpins s σ H Q I q=>h pins s σ H Q I (i σ H Q q)
theorem Qe9{X:Cx}{e:Expr}{t t':TT}(h:PT X e t)(i:∀σ H Q,t' σ H Q->t σ H Q):PT X e t':=λpins s σ H Q I q=>h pins s σ H Q I (i σ H Q q)
theorem QhE{X:Cx}{e:Expr}{t t':TT}(h:PW X e t)(i:∀σ H Q,t' σ H Q->t σ H Q):PW X e t':=λw pins s σ H Q I q=>h w pins s σ H Q I (i σ H Q q)
theorem QhF{X:Cx}{e:List Expr}{t t':TA}(h:PA X e t)(i:∀σ H Q,t' σ H Q->t σ H Q):PA X e t':=λp pins s σ H Q I q=>h p pins s σ H Q I (i σ H Q q)
theorem Y8{X:Cx}{e:Stmt}{t t':TS}(h:PS X e t)(i:∀D σ H,t' D σ H->t D σ H):PS X e t':=λpins s σ H D I q=>h pins s σ H D I (i D σ H q)
theorem QfS{X:Cx}{e:List Stmt}{t t':TS}(h:PSs X e t)(i:∀D σ H,t' D σ H->t D σ H):PSs X e t':=λpins s σ H D I q=>h pins s σ H D I (i D σ H q)
section
variable{X:Cx}{ca:Nat->Addr}{a b c e:Expr}{es rest:List Expr}{ma mb me:ME}{tc ta tb:MT}{mr:MA}{pos:Pos}
theorem Qa(i:Nat){x:Str}(hN:X.N[i]?=some x:=by rfl)(hv:Vis X.env.scope x:=by first|exact Or.inl rfl|exact Or.inr (Or.inl rfl)|exact Or.inr (Or.inr rfl))(hd:(x == ("__debug__" : Str))=false:=by decide)(hcd:(x == ("__classdict__" : Str))=false:=by decide):PE3 ca X (.Name x pos) (mVar i) :=
 λpn Φ=>Zu (Ql8 (X:=xat X ca pn Φ) hN hv hd hcd) λσ H Q hQ=>by
  obtain⟨σ3,g,μ,R,p⟩:=hQ
  unfold mVar at p
  cases e:σ3[i]? with
  |none=>rw[e]at p;exact p.elim
  |some o =>
   cases o with
   |none=>rw[e]at p;exact p.elim
   |some d =>
    rw[e]at p
    obtain⟨v,h1,h2⟩:=R.st i d e
    exact⟨v,h1,p v H μ .refl R.g h2⟩
theorem QhG{v:V}{d:D}(h:∀pn Φ,PE (xat X ca pn Φ) e (tC v))(hd:∀K μ H,Den K μ H v d):PE3 ca X e (mLit d) :=
 λpn Φ=>Zu (h pn Φ) λ_ H _ ⟨_,_,μ,R,p⟩=>p v H μ .refl R.g (hd _ _ _)
theorem Qe{i:Int}{j:Nat}:PE3 ca X (.Constant (.int i) j pos) (mLit (.int i)):=QhG (λ_ _=>Ql9) λ_ _ _=>.int i
theorem QL{x:Str}{j:Nat}:PE3 ca X (.Constant (.str x) j pos) (mLit (.str x)):=QhG (λ_ _=>Qmb) λ_ _ _=>.str x
theorem r_bl{x:Bool}{j:Nat}:PE3 ca X (.Constant (.bool x) j pos) (mLit (.bl x)):=QhG (λ_ _=>QnI) λ_ _ _=>.bl x
theorem JO{j:Nat}:PE3 ca X (.Constant .none j pos) (mLit .non):=QhG (λ_ _=>Qma) λ_ _ _=>.non
theorem Qkw{x:Str}{v:V}{u:Value}{d:D}(hm:X.mg x=some u)(r:RelV v u)(hd':∀K μ H,Den K μ H v d)(hg:Gl X x:=by rfl)(hd:(x == ("__debug__" : Str))=false:=by decide):PE3 ca X (.Name x pos) (mLit d) :=
 QhG (λpn Φ=>Qhh (X:=xat X ca pn Φ) hg hm r hd) hd'
noncomputable def Jo(K:Frag)(ca:Nat->Addr)(r:R2)(f:D->D->G->Res D):Prop :=
 ∀(Φ:XS)(σ:L2.St)(H:Hp)(μ:List Addr)(g:G)(x y:V)(dx dy:D)(Q:VK),GRep K ca μ H g->Den K μ H x dx->Den K μ H y dy->Post K ca Φ σ Q H μ (f dx dy g)->r x y H Q
theorem QfT{K:Frag}{Φ:XS}{r:R2}{f:D->D->G->Res D}(hp:Jo K ca r f)(σ:L2.St)(H:Hp)(Q:VK)(h:up K ca Φ (mOp2 f ma mb) σ H Q):tOp r (up K ca Φ ma) (up K ca Φ mb) σ H Q:=by
 obtain⟨σ3,g,μ,R,p⟩:=h
 refine Zs (Qar R p) λx H1 ⟨dx,g1,μ1,e1,R1,q1,p1⟩=>?_
 refine Zs (Qar R1 p1) λy H2 ⟨dy,g2,μ2,e2,R2,q2,p2⟩=>?_
 exact hp Φ σ H2 μ2 g2 x y dx dy Q R2.g (q1.mono e2) q2 p2
theorem QhH{op:Operator}{r:R2}{f:D->D->G->Res D}(ho:∀pn Φ,OpR (xat X ca pn Φ) (binaryOp op) r)(hp:Jo X.K ca r f)(ha:PE3 ca X a ma)(hb:PE3 ca X b mb):PE3 ca X (.BinOp a op b pos) (mOp2 f ma mb) :=
 λpn Φ=>Zu (QnR (ho pn Φ) (ha pn Φ) (hb pn Φ)) (QfT hp)
theorem QjD{op:CmpOp}{r:R2}{f:D->D->G->Res D}(ho:∀pn Φ,OpR (xat X ca pn Φ) (compareOp op) r)(hp:Jo X.K ca r f)(ha:PE3 ca X a ma)(hb:PE3 ca X b mb)(hm:behindInMarks op b=false):PE3 ca X (.Compare a [op] [b] pos) (mOp2 f ma mb) :=
 λpn Φ=>Zu (Qk7 (ho pn Φ) (ha pn Φ) (hb pn Φ) hm) (QfT hp)
theorem r_ix{r:R2}{f:D->D->G->Res D}(ho:∀pn Φ,IxR (xat X ca pn Φ) r)(hp:Jo X.K ca r f)(ha:PE3 ca X a ma)(hb:PE3 ca X b mb)(hs:Qdj b:=by exact λ_ _=>rfl):PE3 ca X (.Subscript a b pos) (mOp2 f ma mb) :=
 λpn Φ=>Zu (QnW (ho pn Φ) (ha pn Φ) (hb pn Φ) hs) (QfT hp)
theorem r_un{op:UnaryOp}{r:V->Hp->VK->Prop}{f:D->G->Res D}(ho:∀pn Φ,UnR (xat X ca pn Φ) (unaryOp op) r)(hp:∀(Φ:XS) (σ:L2.St) (H:Hp) (μ:List Addr) (g:G) (x:V) (dx:D) (Q:VK),GRep X.K ca μ H g->Den X.K μ H x dx->Post X.K ca Φ σ Q H μ (f dx g)->r x H Q)(ha:PE3 ca X a ma):PE3 ca X (.UnaryOp op a pos) (mOp1 f ma) :=
 λpn Φ=>Zu (QnS (ho pn Φ) (ha pn Φ)) λσ H Q ⟨σ3,g,μ,R,p⟩=>Zs (Qar R p) λx H1 ⟨dx,g1,μ1,e1,R1,q1,p1⟩=>hp Φ σ H1 μ1 g1 x dx Q R1.g q1 p1
theorem Qi:PA3 ca X [] mNil:=λpn Φ=>QhF (QfK (X:=xat X ca pn Φ)) λ_ H _ ⟨_,_,μ,R,p⟩=>p [] H μ .refl R.g .nil
theorem Jd(ha:PE3 ca X e me)(hr:PA3 ca X es mr)(hs:starEach (e::es) X.env=(false,eval e X.env)::starEach es X.env:=by rfl):PA3 ca X (e::es) (Qb me mr) :=
 λpn Φ=>QhF (QaE (X:=xat X ca pn Φ) (ha pn Φ) (hr pn Φ) hs) λσ H Q ⟨σ3,g,μ,R,p⟩=>Zs (QnZ R p) λx H1 ⟨d,g1,μ1,e1,R1,q1,p1⟩ =>
  QaO (QmN R1 p1) λxs H2 ⟨ds,g2,μ2,e2,R2,q2,p2⟩=>p2 (x::xs) H2 μ2 .refl R2.g (.cons (q1.mono e2) q2)
theorem Zl(ha:PE3 ca X a ma)(he:∀whole,isTrue a X.env whole=(do let v <-whole;standAt a.pos;holding [v] (truthy v)):=by intro _;rfl):PT3 ca X a (Qj ma) :=
 λpn Φ=>Qe9 (Qmc (X:=xat X ca pn Φ) (ha pn Φ) he) λσ H Q ⟨σ3,g,μ,R,p⟩=>Zs (QmL R p) λx H1 hQ=>by
  obtain⟨d,g1,μ1,e1,R1,q1,p1⟩:=hQ
  cases q1 with
  |bl b=>exact⟨b,rfl,p1 H1 μ1 .refl R1.g⟩
  |_=>exact p1.elim
theorem Y9{op:CmpOp}{r:R2}{f:D->D->G->Res D}(ho:∀pn Φ,OpR (xat X ca pn Φ) (compareOp op) r)(hp:Jo X.K ca r f)(ha:PE3 ca X a ma)(hb:PE3 ca X b mb)(hm:behindInMarks op b=false):PT3 ca X (.Compare a [op] [b] pos) (Qj (mOp2 f ma mb)) :=
 λpn Φ=>Qe9 (Qk8 (ho pn Φ) (ha pn Φ) (hb pn Φ) hm) λσ H Q hQ=>by
  obtain⟨σ3,g,μ,R,p⟩:=hQ
  have q:up X.K ca Φ (mOp2 f ma mb) σ H λx H'=>∃k,x=.bl k/\Q k H':=Zs (QmL R p) λx H1 hQ=>by
   obtain⟨d,g1,μ1,e1,R1,q1,p1⟩:=hQ
   cases q1 with
   |bl b=>exact⟨b,rfl,p1 H1 μ1 .refl R1.g⟩
   |_=>exact p1.elim
  exact QfT hp σ H _ q
theorem ZW(ha:PT3 ca X a ta):PT3 ca X (.UnaryOp .Not a pos) (ZK ta) :=
 λpn Φ=>Qe9 (Qmf (X:=xat X ca pn Φ) (ha pn Φ)) λσ H Q ⟨σ3,g,μ,R,p⟩=>QbG (QhD R p) λb H1 ⟨g1,μ1,e1,R1,p1⟩=>p1 H1 μ1 .refl R1.g
theorem Qbb(ha:PT3 ca X a ta):PW3 ca X (.BoolOp .And [a] pos) ta:=λpn Φ=>Qk0 (X:=xat X ca pn Φ) (ha pn Φ)
theorem JG(ha:PT3 ca X a ta):PW3 ca X (.BoolOp .Or [a] pos) ta:=λpn Φ=>Qmd (X:=xat X ca pn Φ) (ha pn Φ)
theorem QcW(ha:PT3 ca X a ta)(hb:PW3 ca X (.BoolOp .And (b::rest) pos) tb):PW3 ca X (.BoolOp .And (a::b::rest) pos) (JK ta tb) :=
 λpn Φ=>QhE (Qme (X:=xat X ca pn Φ) (ha pn Φ) (hb pn Φ)) λσ H Q ⟨σ3,g,μ,R,p⟩=>QbG (QhD R p) λb H1 hQ=>by
  obtain⟨g1,μ1,e1,R1,p1⟩:=hQ
  cases b with
  |true=>rw[Ue rfl]at p1 ⊢;exact⟨σ3,g1,μ1,R1,p1⟩
  |false=>rw[Uh Uf]at p1 ⊢;exact p1 H1 μ1 .refl R1.g
theorem Qbc(ha:PT3 ca X a ta)(hb:PW3 ca X (.BoolOp .Or (b::rest) pos) tb):PW3 ca X (.BoolOp .Or (a::b::rest) pos) (mOrT ta tb) :=
 λpn Φ=>QhE (QnJ (X:=xat X ca pn Φ) (ha pn Φ) (hb pn Φ)) λσ H Q ⟨σ3,g,μ,R,p⟩=>QbG (QhD R p) λb H1 hQ=>by
  obtain⟨g1,μ1,e1,R1,p1⟩:=hQ
  cases b with
  |true=>rw[Ue rfl]at p1 ⊢;exact p1 H1 μ1 .refl R1.g
  |false=>rw[Uh Uf]at p1 ⊢;exact⟨σ3,g1,μ1,R1,p1⟩
theorem r_w(h:PW3 ca X e ta):PT3 ca X e ta:=λpn Φ=>(h pn Φ).pt
theorem QmO(ha:PE3 ca X a ma):PE3 ca X (.UnaryOp .Not a pos) (mNot ma) :=
 λpn Φ=>Zu (Qmi (X:=xat X ca pn Φ) (ha pn Φ)) λσ H Q ⟨σ3,g,μ,R,p⟩=>Zs (Qar R p) λx H1 hQ=>by
  obtain⟨d,g1,μ1,e1,R1,q1,p1⟩:=hQ
  cases q1 with
  |bl b=>exact⟨b,rfl,p1 _ H1 μ1 .refl R1.g (.bl _)⟩
  |_=>exact p1.elim
theorem QbZ{op:BoolOp}(ha:PE3 ca X a ma):PE3 ca X (.BoolOp op [a] pos) ma:=λpn Φ=>Qmg (X:=xat X ca pn Φ) (ha pn Φ)
theorem Qas(ha:PE3 ca X a ma)(hb:PE3 ca X (.BoolOp .And (b::rest) pos) mb):PE3 ca X (.BoolOp .And (a::b::rest) pos) (mAnd ma mb) :=
 λpn Φ=>Zu (Qmh (X:=xat X ca pn Φ) (ha pn Φ) (hb pn Φ)) λσ H Q ⟨σ3,g,μ,R,p⟩=>Zs (Qar R p) λx H1 hQ=>by
  obtain⟨d,g1,μ1,e1,R1,q1,p1⟩:=hQ
  cases q1 with
  |bl b =>
   refine⟨b,rfl,?_⟩
   cases b with
   |true=>rw[Ue rfl];exact⟨σ3,g1,μ1,R1,p1⟩
   |false=>rw[Uh Uf];exact p1 _ H1 μ1 .refl R1.g (.bl _)
  |_=>exact p1.elim
theorem JP(hc:PT3 ca X c tc)(ha:PE3 ca X a ma)(hb:PE3 ca X b mb):PE3 ca X (.IfExp c a b pos) (mIfE tc ma mb) :=
 λpn Φ=>Zu (Qjq (X:=xat X ca pn Φ) (hc pn Φ) (ha pn Φ) (hb pn Φ)) λσ H Q ⟨σ3,g,μ,R,p⟩=>QbG (QmM R p) λb H1 hQ=>by
  obtain⟨g1,μ1,e1,R1,p1⟩:=hQ
  cases b with
  |true=>rw[Ue rfl]at p1 ⊢;exact⟨σ3,g1,μ1,R1,p1⟩
  |false=>rw[Uh Uf]at p1 ⊢;exact⟨σ3,g1,μ1,R1,p1⟩
theorem YK:SZ<=sizeLine:=by rw[Ri];decide
theorem Dens.sz{K:Frag}{μ:List Addr}{H:Hp}{vs:List V}{ds:List D}(h:Dens K μ H vs ds)(z:ds.length<=SZ):vs.length<=sizeLine:=by rw[h.length];exact Ur z YK
theorem Q4{k:Nat}(h:PA3 ca X es mr):PE3 ca X (.Tuple es k pos) (mOpA pTup mr) :=
 λpn Φ=>Zu (Qkt (X:=xat X ca pn Φ) (h pn Φ)) λσ H Q ⟨σ3,g,μ,R,p⟩=>QaO (QfR R p) λxs H1 hQ=>by
  obtain⟨ds,g1,μ1,e1,R1,q1,p1⟩:=hQ
  unfold pTup at p1
  by_cases z:ds.length<=SZ
  ·rw[Ue z]at p1
   exact⟨q1.sz z,λt ht=>p1 _ _ μ1 (Zc ht) (R1.g.new ht) (.tup (.of Qr) (q1.mono (Zc ht)))⟩
  ·rw[Uh z]at p1;exact p1.elim
theorem Jp(h:PA3 ca X es mr):PE3 ca X (.List es pos) (mOpA newL mr) :=
 λpn Φ=>Zu (QmA (X:=xat X ca pn Φ) (h pn Φ)) λσ H Q ⟨σ3,g,μ,R,p⟩=>QaO (QfR R p) λxs H1 hQ=>by
  obtain⟨ds,g1,μ1,e1,R1,q1,p1⟩:=hQ
  unfold newL at p1
  by_cases z:ds.length<=SZ
  ·rw[Ue z]at p1
   refine⟨q1.sz z,λt ht=>p1 _ _ (μ1++[t]) (QS ht) (R1.g.push ht ⟨xs,Qr,q1.mono (QS ht)⟩) (.ref ?_)⟩
   rw[<-R1.g.len];simp
  ·rw[Uh z]at p1;exact p1.elim
end
section
variable{X:Cx}{ca:Nat->Addr}{pins:List (Addr×Obj)}{σ:L2.St}{H:Hp}{s:Shared}{a:Addr}{x:Xc}{E:Value->Shared->Prop}
theorem Qkx{pn:List (Addr×Obj)}{Φ:XS}(I:Inv (xat X ca pn Φ) pins σ H s):Inv (xon X pn) pins σ H s:=(Inv.wish I λ_ _=>False)
theorem QfU{b:Addr}{H':Hp}(I:Inv X pins σ H s)(hb:s.heap.get? b=none)(hn:H' b=none):FpW X pins H' b:=by
 refine⟨hn,λz=>?_,λz=>?_,?_,λx c e z=>?_,λp hp z=>?_⟩
 ·obtain⟨m,⟨o,_,_,ho,_⟩,_⟩:=I.loc
  rw[z,ho]at hb;cases hb
 ·obtain⟨_,o,ho,_⟩:=I.funs.mem z
  rw[ho]at hb;cases hb
 ·by_cases hx:b∈X.ex
  ·exact .inl hx
  ·refine .inr ?_
   cases q:X.s₀.heap.get? b with
   |none=>rfl
   |some o =>
    obtain⟨o',e'⟩:=I.base.there b o q hx
    rw[e']at hb;cases hb
 ·obtain⟨v,o,ho,_⟩:=I.cell x c e
  rw[z,hb]at ho;cases ho
 ·rw[<-z,(I.pin p hp).1]at hb;cases hb
theorem QhI{H':Hp}{h':Heap}{g':Array GenState}{t':Nat}{d':Drawn}{ch:List Addr}(I:Inv X pins σ H s)(hch:∀b∈ch,(b∈X.ex\/X.s₀.heap.get? b=none)/\b≠X.env.locals/\(∀x c,X.env.cells.lookup x=some c->c≠b)/\∀p∈X.pn++pins,p.1≠b)(keep:∀b o,b≠X.env.locals->b∉X.fs->b∉ch->s.heap.get? b=some o->H b=none->h'.get? b=some o)(slot:∀b o,b≠X.env.locals->b∈X.fs->b∉ch->s.heap.get? b=some o->H b=none->∃sl,h'.get? b=some {o with slots:=sl})(free:∀b o,b∉ch->s.heap.get? b=some o->H b=none->H' b=none)(there:∀b o,b∉ch->s.heap.get? b=some o->∃o',h'.get? b=some o')(tups:∀b xs,H b=some (.tup xs)->H' b=some (.tup xs))(frzs:∀b o u,H b=some (.frz o u)->H' b=some (.frz o u))(tbls:∀b ps,H b=some (.tbl ps)->∃more,H' b=some (.tbl (ps++more)))(ns:∀m,s.heap.Ns X.env.locals m->h'.Ns X.env.locals m)(hok:HOk X.prog X.w H' h')(hg:AllBare g'):
  Inv X pins σ H' {s with heap:=h',gens:=g',drawn:=d',toks:=t'}:=by
 have neL:∀b o,X.s₀.heap.get? b=some o->b≠X.env.locals:=λb o e=>UP (UC (Uk e) I.ok.above)
 have neC:∀b o,X.s₀.heap.get? b=some o->b∉X.ex->b∉ch:=λb o e hx hb=>by
  rcases(hch b hb).1 with z|z
  ·exact hx z
  ·rw[z]at e;cases e
 have cellK:∀x c,X.env.cells.lookup x=some c->∀v,s.heap.IsCell c v->h'.IsCell c v:=λx c e v hQ=>by
  obtain⟨o,ho,hd⟩:=hQ
  have nch:c∉ch:=λz=>(hch c z).2.2.1 x c e rfl
  by_cases hc:c∈X.fs
  ·obtain⟨sl,q⟩:=slot c o (I.cne x c e) hc nch ho (I.freeC x c e)
   exact⟨_,q,hd⟩
  ·exact⟨o,keep c o (I.cne x c e) hc nch ho (I.freeC x c e),hd⟩
 refine⟨I.ok,I.os,hg,⟨λb o e n hb hx=>?_,λb o e n hb hx=>?_,λb o e n hx=>?_,λb o e hx=>?_,λb xs e=>tups b xs (I.base.tups b xs e),λb o xs e=>frzs b o xs (I.base.frzs b o xs e),λb ps e=>?_⟩,?_,λx c e=>?_,?_,λx c e=>?_,λp hp=>?_,hok,I.len⟩
 ·exact keep b o (neL b o e) hb (neC b o e hx) (I.base.keep b o e n hb hx) (I.base.free b o e n hx)
 ·obtain⟨sl,e1⟩:=I.base.slot b o e n hb hx
  obtain⟨sl',e2⟩:=slot b _ (neL b o e) hb (neC b o e hx) e1 (I.base.free b o e n hx)
  exact⟨sl',e2⟩
 ·obtain⟨o',e1⟩:=I.base.there b o e hx
  exact free b o' (neC b o e hx) e1 (I.base.free b o e n hx)
 ·obtain⟨o',e1⟩:=I.base.there b o e hx
  exact there b o' (neC b o e hx) e1
 ·obtain⟨m1,e1⟩:=I.base.tbls b ps e
  obtain⟨m2,e2⟩:=tbls b _ e1
  exact⟨m1++m2,by rw[e2,RJ]⟩
 ·obtain⟨m,hn,hl⟩:=I.loc
  refine⟨m,ns m hn,λi x v e1 e2 e3=>?_⟩
  obtain⟨u,r,l⟩:=hl i x v e1 e2 e3
  refine⟨u,r,?_⟩
  rcases l with l|⟨k,c,e,z⟩
  ·exact .inl l
  ·exact .inr ⟨k,c,e,cellK x c e _ z⟩
 ·obtain⟨v,z⟩:=I.cell x c e
  exact⟨v,cellK x c e v z⟩
 ·obtain⟨m,⟨o,_,_,ho,_⟩,_⟩:=I.loc
  exact free _ o (λz=>(hch _ z).2.1 rfl) ho I.free
 ·obtain⟨v,o,ho,hd⟩:=I.cell x c e
  exact free c o (λz=>(hch c z).2.2.1 x c e rfl) ho (I.freeC x c e)
 ·obtain⟨e,n,ne,nf,d⟩:=I.pin p hp
  have nch:p.1∉ch:=λz=>(hch p.1 z).2.2.2 p hp rfl
  exact⟨keep p.1 p.2 ne nf nch e n,free p.1 p.2 nch e n,ne,nf,d⟩
theorem QfV{ch:List Addr}{h':Heap}(I:Inv X pins σ H s)(hch:∀b∈ch,FpW X pins H b)(keep:∀b o,b∉ch->b≠X.env.locals->b∉X.fs->s.heap.get? b=some o->h'.get? b=some o)(slot:∀b o,b∉ch->s.heap.get? b=some o->∃sl,h'.get? b=some {o with slots:=sl}):Inv X pins σ H {s with heap:=h'}:=by
 have nl:X.env.locals∉ch:=λz=>(hch _ z).2.1 rfl
 have nt:∀b v,H b=some v->b∉ch:=λb v e z=>by rw[(hch b z).1]at e;cases e
 have nf:∀b v,H b=some v->b∉X.fs:=λb v e z=>by
  obtain⟨_,o,ho,_⟩:=I.ok.funs.mem z
  have:=I.base.free b o ho (I.ok.frf b z) λq=>I.ok.exfs b q z
  rw[this]at e;cases e
 have nL:∀b v,H b=some v->b≠X.env.locals:=λb v e z=>by rw[z,I.free]at e;cases e
 refine QhI (h':=h') (H':=H) (g':=s.gens) (t':=s.toks) (d':=s.drawn) (ch:=ch) I (λb hb=>⟨(hch b hb).2.2.2.1,(hch b hb).2.1,(hch b hb).2.2.2.2.1,(hch b hb).2.2.2.2.2⟩) (λb o h1 h2 h3 e _=>keep b o h3 h1 h2 e) (λb o _ _ h3 e _=>slot b o h3 e)
  (λb o _ _ n=>n) (λb o h e=>let ⟨sl,q⟩:=slot b o h e;⟨_,q⟩) (λb v e=>e) (λb o v e=>e) (λb ps e=>⟨#[],by rw[e];simp⟩) (λm hm=>?_) (λb v e=>?_) I.bare
 ·obtain⟨o,es,ep,ho,rr⟩:=hm
  obtain⟨sl,q⟩:=slot _ o nl ho
  exact⟨_,es,ep,q,rr⟩
 ·refine(I.hok b v e).stay (λc' v' hc' q=>?_) (λc' q=>q) λc' xs' q=>q
  rcases hc' with rfl|hc'
  ·exact keep _ _ (nt _ _ e) (nL _ _ e) (nf _ _ e) q
  ·exact keep _ _ (nt _ _ hc') (nL _ _ hc') (nf _ _ hc') q
noncomputable def FlN(X:Cx)(ca:Nat->Addr)(a:Addr)(x:Xc)(H:Hp)(h:Heap):Prop :=
 FpW X [] H a/\x.2=none/\∃oe vs T oT ts,h.get? a=some oe/\XOb ca x oe/\oe.data=.fields vs/\vs[1]?=some (.ref T)/\T≠a/\FpW X [] H T/\h.get? T=some oT/\oT.data=.fields ts/\ts[3]?=some (rawInt X.env.locals)
noncomputable def FlT(X:Cx)(ca:Nat->Addr)(a:Addr)(x:Xc)(H:Hp)(h:Heap):Prop :=
 FpW X [] H a/\x.2=none/\∃oe vs T oT ts,h.get? a=some oe/\XOb ca x oe/\oe.data=.fields vs/\vs[1]?=some (.ref T)/\T≠a/\FpW X [] H T/\h.get? T=some oT/\oT.data=.fields ts/\3<ts.size
theorem FlN.t{h:Heap}(f:FlN X ca a x H h):FlT X ca a x H h:=by
 obtain⟨f1,f2,oe,vs,T,oT,ts,e1,e2,e3,e4,e5,e6,e7,e8,e9⟩:=f
 exact⟨f1,f2,oe,vs,T,oT,ts,e1,e2,e3,e4,e5,e6,e7,e8,(Te.mp e9).1⟩
theorem FlN.fl{h:Heap}(f:FlN X ca a x H h):Fl X ca a x H h:=by
 obtain⟨f1,f2,oe,vs,T,oT,ts,e1,e2,e3,e4,e5,e6,e7,e8,e9⟩:=f
 exact⟨f1,f2,oe,vs,e1,e2,e3,(Te.mp e4).1,.inr ⟨T,oT,ts,e4,e5,e6,e7,e8,(Te.mp e9).1,.inr e9⟩⟩
theorem QcX{h:Heap}{b:Addr}{o:Obj}{ts:Array Value}(i:Nat)(v:Value)(e:h.get? b=some o)(d:o.data=.fields ts):
  (h.update b (Obj.mapFields (·.setIfInBounds i v))).get? b=some (o.mapFields (·.setIfInBounds i v))/\(o.mapFields (·.setIfInBounds i v)).data=.fields (ts.setIfInBounds i v)/\(o.mapFields (·.setIfInBounds i v)).cls=o.cls :=
 ⟨Rm _ e (Obj.isFreed_of_fields (Rb d _)),Rb d _,Obj.cls_mapFields _ _⟩
theorem QfW{base:Heap}{env:Env}{outer:List Env}{L:Addr}{oe:Obj}{vs:Array Value}{head:Value}{hn:Bool}{M:Model}{A:Around}{Q:Unit->Shared->Prop}(hfr:A.frames=some (env::outer))(hl:s.heap.FunFrames base (env::outer))(hf:env.frame=some L)(he:s.heap.get? a=some oe)(hd:oe.data=.fields vs)(hsz:1<vs.size)(ha:a∉(env::outer).filterMap (·.frame))(k:∀h₁ (cells:Array Value),Heap.SlotsOnly ((env::outer).filterMap (·.frame)) s.heap h₁->cells[3]?=some (rawInt L) ->
   Q () {s with heap:=(h₁.push {cls:=.type "traceback",dict:=none,data:=.fields cells}).update a (Obj.mapFields (·.setIfInBounds 1 (.ref h₁.objs.size)))}):
  wpAny M A (do let fv <-frameOf env;let pl <-entryPlaceOf L hn;let b <-EntryCells.newEntry head fv .none (rawInt L) .none pl;setField (.ref a) 1 b) Q E s:=by
 refine Ua (wpAny_frameOf_fun hfr hl hf λh₁ so=>Ua (wpAny_entryPlaceOf λpl hpl=>?_))
 unfold EntryCells.newEntry newFields
 refine Ua (Tf ?_ (hpl.sizeOk5 _ _ _ _ _))
 have e1:h₁.get? a=some oe:=(so.2.1 a ha).trans he
 refine Rk (Ub _ e1) hd hsz (k h₁ _ so ?_)
 first
  | (simp;done)
  | (rcases hpl with rfl|⟨_,_,_,_,_,_,_,rfl⟩ <;> simp)
theorem Qfa{M:Model}{Q:Unit->Shared->Prop}(I:Inv X [] σ H s)(hk:X.stack=X.env::X.outer)(hf:X.env.frame=some X.env.locals)(fl:Fl X ca a x H s.heap)(k:∀h',Inv X [] σ H {s with heap:=h'}->FlN X ca a x H h'->Q () {s with heap:=h'}):wpAny M X.A (noteFrame (.ref a) X.env) Q E s:=by
 obtain⟨fp,ln,oe,vs,he,hc,hd,hsz,hv⟩:=fl
 have hfr:X.A.frames=some (X.env::X.outer):=by rw[<-hk];exact I.ok.frames
 have hst:s.heap.FunFrames X.base (X.env::X.outer):=by rw[<-hk];exact I.stack
 have hfs:(X.env::X.outer).filterMap (·.frame)=X.env.locals::X.fs:=by rw[Tq,hf];rfl
 have ha:a∉(X.env::X.outer).filterMap (·.frame):=by
  rw[hfs]
  intro z
  rcases Uu.mp z with z|z
  ·exact fp.2.1 z
  ·exact fp.2.2.1 z
 -- an entry is laid over a heap that differs from s at ch alone
 have fin:∀(h0 h₁:Heap)(cells:Array Value)(ch:List Addr),(∀b∈ch,FpW X [] H b)->(∀b o,b∉ch->s.heap.get? b=some o->h0.get? b=some o)->h0.objs.size=s.heap.objs.size->h0.get? a=some oe ->
   Heap.SlotsOnly ((X.env::X.outer).filterMap (·.frame)) h0 h₁->cells[3]?=some (rawInt X.env.locals) ->
   Q () {s with heap:=(h₁.push {cls:=.type "traceback",dict:=none,data:=.fields cells}).update a (Obj.mapFields (·.setIfInBounds 1 (.ref h₁.objs.size)))}:=by
  intro h0 h₁ cells ch hch hk0 hz he0 so hcl
  have e1:h₁.get? a=some oe:=(so.2.1 a ha).trans he0
  obtain⟨u1,u2,u3⟩:=QcX 1 (.ref h₁.objs.size) (Ub {cls:=.type "traceback",dict:=none,data:=.fields cells} e1) hd
  have hTa:h₁.objs.size≠a:=RD (Uk e1)
  have oth:∀b o,b≠a->h₁.get? b=some o->((h₁.push {cls:=.type "traceback",dict:=none,data:=.fields cells}).update a (Obj.mapFields (·.setIfInBounds 1 (.ref h₁.objs.size)))).get? b=some o:=λb o hb e =>
   (U6 _ _ (Ne.symm hb)).trans (Ub _ e)
  refine k _ (QfV (ch:=a::ch) I (λb hb=>?_) (λb o h1 h2 h3 e=>?_) λb o h1 e=>?_) ⟨fp,ln,_,_,h₁.objs.size,_,cells,u1,hc.map _,u2,by simp[hsz],hTa,?_,(U6 _ _ (Ne.symm hTa)).trans (Us _ rfl),rfl,hcl⟩
  ·rcases Uu.mp hb with e|e
   ·rw[e];exact fp
   ·exact hch b e
  ·refine oth b o (λz=>h1 (by rw[z];exact UG)) ?_
   rw[so.2.1 b (by rw[hfs];intro z;rcases Uu.mp z with z|z;(· exact h2 z);exact h3 z)]
   exact hk0 b o (λz=>h1 (Uv _ z)) e
  ·obtain⟨sl,q⟩:=so.2.2 b o (hk0 b o (λz=>h1 (Uv _ z)) e)
   exact⟨sl,oth b _ (λz=>h1 (by rw[z];exact UG)) q⟩
  ·refine QfU I (Heap.get?_none_of_le ?_) (I.hok.fresh ?_) <;> rw[so.1,hz] <;> exact Ui _
 unfold noteFrame
 simp only[hf]
 rcases hv with hv|⟨T,oT,ts,hv,hTa,fT,hT,hdT,hs3,h3⟩
 ·refine Ua (UQ he hd hv ?_)
  rw[Uh (by decide)]
  exact QfW hfr hst hf he hd hsz ha λh₁ cells so hcl=>fin s.heap h₁ cells [] (by simp) (λ_ _ _ e=>e) rfl he so hcl
 ·refine Ua (UQ he hd hv ?_)
  rw[Ue (show(Value.ref T != Value.none)=true from by simp)]
  rcases h3 with h3|h3
  ·refine Ua (UQ hT hdT h3 ?_)
   rw[Uh (show ¬((Value.none == rawInt X.env.locals)=true) from by simp[rawInt])]
   refine Ua (Rk hT hdT hs3 ?_)
   have oth:∀b o,b≠T->s.heap.get? b=some o->(s.heap.update T (Obj.mapFields (·.setIfInBounds 3 Value.none))).get? b=some o:=λb o hb e=>(U6 _ _ (Ne.symm hb)).trans e
   have kp:∀b o,s.heap.get? b=some o->(∀vs,o.data≠.fields vs)->(s.heap.update T (Obj.mapFields (·.setIfInBounds 3 Value.none))).get? b=some o:=λb o e n=>oth b o (λz=>by rw[z,hT]at e;cases e;exact n _ hdT) e
   refine QfW (s:={s with heap:=s.heap.update T (Obj.mapFields (·.setIfInBounds 3 Value.none))}) hfr (hst.of_keeps λb o e n=>⟨o,kp b o e n,rfl⟩) hf (oth a oe (Ne.symm hTa) he) hd hsz ha λh₁ cells so hcl=>?_
   exact fin _ h₁ cells [T] (λb hb=>by rw[Up.mp hb];exact fT) (λb o hb e=>oth b o (λz=>hb (by simp[z])) e) (Heap.size_after_update ..) (oth a oe (Ne.symm hTa) he) so hcl
  ·refine Ua (UQ hT hdT h3 ?_)
   rw[Ue (show(rawInt X.env.locals == rawInt X.env.locals)=true from by simp)]
   exact Uj (k s.heap I ⟨fp,ln,oe,vs,T,oT,ts,he,hc,hd,hv,hTa,fT,hT,hdT,h3⟩)
theorem JQ{M:Model}{A:Around}{Q:Unit->Shared->Prop}{fo:Option Addr}(I:Inv X [] σ H s)(fl:FlT X ca a x H s.heap)(k:∀h' T oT ts oe vs,Inv X [] σ H {s with heap:=h'}->h'.get? a=some oe->XOb ca x oe->oe.data=.fields vs->vs[1]?=some (.ref T)->T≠a->FpW X [] H T ->
      h'.get? T=some oT->oT.data=.fields ts->3<ts.size->ts[3]?=some (fo.elim Value.none λf=>rawInt f)->Q () {s with heap:=h'}):wpAny M A (setFlight (.ref a) fo) Q E s:=by
  obtain⟨fp,ln,oe,vs,T,oT,ts,he,hc,hd,hv,hTa,fT,hT,hdT,hs3⟩:=fl
  unfold setFlight
  refine Ua (UQ he hd hv ?_)
  rw[Ue (show(Value.ref T != Value.none)=true from by simp)]
  have oth:∀b o,b≠T->s.heap.get? b=some o->(s.heap.update T (Obj.mapFields (·.setIfInBounds 3 (fo.elim Value.none λf=>rawInt f)))).get? b=some o:=λb o hb e=>(U6 _ _ (Ne.symm hb)).trans e
  obtain⟨u1,u2,u3⟩:=QcX 3 (fo.elim Value.none λf=>rawInt f) hT hdT
  refine Rk hT hdT hs3 (k _ T _ _ oe vs (QfV (ch:=[T]) I (λb hb=>by rw[Up.mp hb];exact fT) (λb o h1 _ _ e=>oth b o (λz=>h1 (by simp[z])) e) λb o h1 e=>⟨o.slots,oth b o (λz=>h1 (by simp[z])) e⟩)
    (oth a oe (Ne.symm hTa) he) hc hd hv hTa fT u1 u2 (by simpa using hs3) (by simp[hs3]))
theorem Qky(hk:X.stack=X.env::X.outer)(hf:X.env.frame=some X.env.locals)(pn:List (Addr×Obj))(Φ:XS):PassesOwn (model X.prog X.w) X.A X.env (xat X ca pn Φ).xe:=by
 rintro v s ⟨a,x,σ,H,rfl,I,fl,q⟩
 refine Qfa (X:=xon X pn) I hk hf fl λh1 I1 f1=>?_
 unfold cameBackBy
 obtain⟨fp,ln,oe,vs,T,oT,ts,he,hc,hd,hv,hTa,fT,hT,hdT,h3⟩:=id f1
 refine Ua (UQ he hd hv ?_)
 rw[Uh (show ¬((Value.ref T == Value.none)=true) from by simp)]
 refine JQ (X:=xon X pn) (fo:=X.env.frame) I1 f1.t λh2 T oT ts oe vs I2 a1 a2 a3 a4 a5 a6 a7 a8 a9 a10=>?_
 rw[hf]at a10
 exact⟨a,x,σ,H,rfl,I2,FlN.fl ⟨fp,ln,oe,vs,T,oT,ts,a1,a2,a3,a4,a5,a6,a7,a8,a10⟩,q⟩
end
noncomputable def CXW(P:Program)(w:World)(ca:Nat->Addr):CXT:=λouter H s E v s'=>∃(a:Addr)(x:Xc)(H':Hp),v=.ref a/\s'.os=s.os/\AllBare s'.gens/\Un (frs outer) [] H H' s.heap s'.heap/\HOk P w H' s'.heap/\x.2=none /\
 (∃oe vs T oT ts,s.heap.get? a=none/\H' a=none/\s'.heap.get? a=some oe/\XOb ca x oe/\oe.data=.fields vs/\vs[1]?=some (.ref T)/\T≠a/\s.heap.get? T=none/\H' T=none/\s'.heap.get? T=some oT/\oT.data=.fields ts/\ts[3]?=some .none) /\
 E (.int x.1 0) x.2 H'
section
variable{P:Program}{w:World}{K:Frag}{mg:Str->Option Value}{base:Heap}{ca:Nat->Addr}
theorem QjE{N:List Str}{qual:Str}{scope:Scope}{f:Addr}{cd:Value}{A:Around}{outer:List Env}{s s':Shared}{H:Hp}{E:XK}{v:Value}(h:XE (xon (cxOf (CXW P w ca) P w K mg base N qual scope f cd A outer s H E) []) ca (λx _ H'=>E (.int x.1 0) x.2 H') v s'):(cxOf (CXW P w ca) P w K mg base N qual scope f cd A outer s H E).xe v s':=by
 obtain⟨a,x,σ,H',rfl,I,fl,q⟩:=h
 show wpAny _ _ (leaving _ (.ref a)) _ _ s'
 unfold leaving
 refine Ua (Qfa I rfl rfl fl λh1 I1 f1=>?_)
 obtain⟨fp,ln,_⟩:=id f1
 refine JQ (fo:=none) I1 f1.t λh2 T oT ts oe vs I2 a1 a2 a3 a4 a5 a6 a7 a8 a9 a10=>?_
 refine⟨a,x,H',rfl,I2.os,I2.bare,I2.base,I2.hok,ln,⟨oe,vs,T,oT,ts,?_,fp.1,a1,a2,a3,a4,a5,?_,a6.1,a7,a8,a10⟩,q⟩
 ·rcases fp.2.2.2.1 with z|z
  ·exact absurd (show a∈([]:List Addr) from z) (by simp)
  ·exact z
 ·rcases a6.2.2.2.1 with z|z
  ·exact absurd (show T∈([]:List Addr) from z) (by simp)
  ·exact z
end
section
variable{X:Cx}{ca:Nat->Addr}{pn:List (Addr×Obj)}{Φ:XS}
theorem QhJ{pins:List (Addr×Obj)}{σ:L2.St}{H:Hp}{s s':Shared}{v:Value}(I:Inv (xat X ca pn Φ) pins σ H s)(h:CXW X.prog X.w ca X.stack H s (λc l H'=>∀x:Xc,c=.int x.1 0->l=x.2->Φ x σ H') v s'):(xat X ca pn Φ).xe v s':=by
 obtain⟨a,x,H',rfl,os,bare,un,hok,ln,⟨oe,vs,T,oT,ts,e1,e2,e3,e4,e5,e6,e7,e8,e9,e10,e11,e12⟩,q⟩:=h
 have I0:Inv (xon X pn) [] σ H s:=(Qkx I).pins_of λp hp=>absurd hp (by simp)
 have I1:Inv (xon X pn) [] σ H' s':=Inv.call' (ch:=[]) I0 os un hok bare λb z=>absurd z (by simp)
 refine⟨a,x,σ,H',rfl,I1,⟨QfU I0 e1 e2,ln,oe,vs,e3,e4,e5,(Te.mp e6).1,.inr ⟨T,oT,ts,e6,e7,QfU I0 e8 e9,e10,e11,(Te.mp e12).1,.inl e12⟩⟩,q x rfl rfl⟩
end
section
variable{X:Cx}{ca:Nat->Addr}{a b c e:Expr}{st:Stmt}{sts rest:List Stmt}{ma mb me:ME}{tc:MT}{m m':MS}{pos:Pos}
theorem Qp:PSs3 ca X [] QA:=λpn Φ=>QfS (Qhi (X:=xat X ca pn Φ)) λ_ σ H ⟨_,_,μ,R,p⟩=>p σ H μ .refl R
theorem QmP{K:Frag}{Φ:XS}(E:Ends)(σ:L2.St)(H:Hp)(h:upS K ca Φ (mSeq m m') E σ H):tSeq (upS K ca Φ m) (upS K ca Φ m') E σ H:=by
 obtain⟨σ3,g,μ,R,p⟩:=h
 refine⟨σ3,g,μ,R,?_⟩
 unfold mSeq at p
 cases hm:m σ3 g with
 |nx σ1 g1 =>
  rw[hm]at p
  exact λσ' H' μ' e' R'=>⟨σ1,g1,μ',R',PostS.go e' p⟩
 |rt d g1=>rw[hm]at p;exact p
 |bk _ _=>rw[hm]at p;exact p
 |ct _ _=>rw[hm]at p;exact p
 |raise _ _ _=>rw[hm]at p;exact p
 |stuck=>rw[hm]at p;exact p
theorem Qd(h1:PS3 ca X st m)(h2:PSs3 ca X rest m'):PSs3 ca X (st::rest) (mSeq m m'):=λpn Φ=>QfS (Qjr (X:=xat X ca pn Φ) (h1 pn Φ) (h2 pn Φ)) QmP
theorem Qg(h1:PS3 ca X st m):PSs3 ca X [st] m:=λpn Φ=>Qk1 (X:=xat X ca pn Φ) (h1 pn Φ)
theorem YV(he:PE3 ca X e me)(hs:swapsWith e none pos.line X.env=pure false:=by rfl):PS3 ca X (.Expr e pos) (Z7 me) :=
 λpn Φ=>Y8 (Qk2 (X:=xat X ca pn Φ) (he pn Φ) hs) λE σ H ⟨σ3,g,μ,R,p⟩=>⟨σ3,g,μ,R,by
  unfold Z7 at p
  cases hm:me σ3 g with
  |ok d g1=>rw[hm]at p;exact λv H' μ' e' r' _=>p σ H' μ' e' (R.go e' r')
  |raise _ _=>rw[hm]at p;exact RaP.stmt R p
  |stuck=>rw[hm]at p;exact p⟩
theorem Qy(he:PE3 ca X e me):PS3 ca X (.Return (some e) pos) (mRet me) :=
 λpn Φ=>Y8 (Qmj (X:=xat X ca pn Φ) (he pn Φ)) λE σ H ⟨σ3,g,μ,R,p⟩=>⟨σ3,g,μ,R,by
  unfold mRet at p
  cases hm:me σ3 g with
  |ok d g1=>rw[hm]at p;exact p
  |raise _ _=>rw[hm]at p;exact RaP.stmt R p
  |stuck=>rw[hm]at p;exact p⟩
theorem r_if{sa sb:List Stmt}(hc:PT3 ca X c tc)(ha:PSs3 ca X sa m)(hb:PSs3 ca X sb m'):PS3 ca X (.If c sa sb pos) (mIf tc m m') :=
 λpn Φ=>Y8 (QnO (X:=xat X ca pn Φ) (hc pn Φ) (ha pn Φ) (hb pn Φ)) λE σ H ⟨σ3,g,μ,R,p⟩=>⟨σ3,g,μ,R,by
  unfold mIf at p
  cases hm:tc σ3 g with
  |ok d g1 =>
   rw[hm]at p
   cases d with
   |true=>exact λH' μ' e' r'=>by show(if true=true then _ else _);rw[Ue rfl];exact⟨σ3,g1,μ',R.go e' r',PostS.go e' (by simpa using p)⟩
   |false=>exact λH' μ' e' r'=>by show(if false=true then _ else _);rw[Uh Uf];exact⟨σ3,g1,μ',R.go e' r',PostS.go e' (by simpa using p)⟩
  |raise _ _=>rw[hm]at p;exact RaP.stmt R p
  |stuck=>rw[hm]at p;exact p⟩
noncomputable def upG(K:Frag)(ca:Nat->Addr)(f:MG):TG:=λv σ H Q=>∃σ3 g μ d σ3',Rep K ca μ σ3 g σ H/\Den K μ H v d/\f d σ3=some σ3'/\∀σ',Rep K ca μ σ3' g σ' H->Q σ' H
def PG3(ca:Nat->Addr)(X:Cx)(tg:Expr)(f:MG):Prop:=∀pn Φ,PG (xat X ca pn Φ) tg (upG X.K ca f)
theorem QhK{X:Cx}{tg:Expr}{t t':TG}(h:PG X tg t)(i:∀v σ H Q,t' v σ H Q->t v σ H Q):PG X tg t':=λpins s σ H x u Q I r q=>h pins s σ H x u Q I r (i x σ H Q q)
theorem Rep.set{K:Frag}{μ:List Addr}{σ3:S3}{g:G}{σ:L2.St}{H:Hp}{v:V}{d:D}(R:Rep K ca μ σ3 g σ H)(h:Den K μ H v d)(i:Nat):Rep K ca μ (σ3.set i (some d)) g (σ.set i (some v)) H:=by
 refine⟨R.g,by rw[UN,UN,R.len],λj x hx=>?_⟩
 by_cases e:j=i
 ·subst e
  have hl:j<σ3.length:=by
   have:=(Ud.mp hx).1
   simpa using this
  rw[U0 hl]at hx
  cases hx
  exact⟨v,by rw[U0 (by rw[R.len];exact hl)],h⟩
 ·rw[Uo (Ne.symm e)]at hx
  obtain⟨w,h1,h2⟩:=R.st j x hx
  exact⟨w,by rw[Uo (Ne.symm e)];exact h1,h2⟩
theorem QJ(i:Nat){x:Str}(hN:X.N.Nodup)(hi:X.N[i]?=some x:=by rfl)(hx:Loc X.env.scope x:=by first|exact Or.inl rfl|exact Or.inr rfl)(hf:X.fn x=true\/X.env.scope.names.lookup x=some .local:=by first|exact .inl rfl|exact .inr rfl):PG3 ca X (.Name x pos) (gSet i) :=
 λpn Φ=>QhK (Qk3 (X:=xat X ca pn Φ) hN hi hx hf) λv σ H Q hQ=>by
  obtain⟨σ3,g,μ,d,σ3',R,q,e,k⟩:=hQ
  cases e
  exact k _ (R.set q i)
noncomputable def upGs(K:Frag)(ca:Nat->Addr)(fs:List MG):TGs:=λvs σ H Q=>∃σ3 g μ ds σ3',Rep K ca μ σ3 g σ H/\Dens K μ H vs ds/\QgG fs ds σ3=some σ3'/\∀σ',Rep K ca μ σ3' g σ' H->Q σ' H
def PGs3(ca:Nat->Addr)(X:Cx)(tgs:List Expr)(fs:List MG):Prop:=∀pn Φ,PGs (xat X ca pn Φ) tgs (upGs X.K ca fs)
theorem QfX{X:Cx}{tg:List Expr}{t t':TGs}(h:PGs X tg t)(i:∀v σ H Q,t' v σ H Q->t v σ H Q):PGs X tg t':=λpins s σ H xs us Q I r q=>h pins s σ H xs us Q I r (i xs σ H Q q)
theorem Qep:PGs3 ca X [] []:=λpn Φ=>QfX (Qk4 (X:=xat X ca pn Φ)) λvs σ H Q hQ=>by
 obtain⟨σ3,g,μ,ds,σ3',R,q,e,k⟩:=hQ
 cases q with
 |nil=>cases e;exact⟨rfl,k _ R⟩
 |cons _ _=>cases e
theorem Zy{es:List Expr}{f:MG}{fs:List MG}(h1:PG3 ca X e f)(h2:PGs3 ca X es fs)(hs:(assignEach (e::es) X.env).map (·.2)=assign e X.env::(assignEach es X.env).map (·.2):=by rfl):PGs3 ca X (e::es) (f::fs) :=
 λpn Φ=>QfX (Qjs (X:=xat X ca pn Φ) (h1 pn Φ) (h2 pn Φ) hs) λvs σ H Q hQ=>by
  obtain⟨σ3,g,μ,ds,σ3',R,q,e,k⟩:=hQ
  cases q with
  |nil=>cases e
  |@cons v d vs ds q1 q2 =>
   unfold QgG at e
   cases hf:f d σ3 with
   |none=>rw[hf]at e;cases e
   |some σ4 =>
    rw[hf]at e
    exact⟨v,vs,rfl,σ3,g,μ,d,σ4,R,q1,hf,λσ' R'=>⟨σ4,g,μ,ds,σ3',R',q2,e,k⟩⟩
theorem Qeq:∀{fs:List MG}{ds:List D}{σ σ':S3},QgG fs ds σ=some σ'->ds.length=fs.length
 |[],[],_,_,_=>rfl
 |[],_::_,_,_,h=>by cases h
 |_::_,[],_,_,h=>by cases h
 |f::fs,d::ds,σ,σ',h=>by
  unfold QgG at h
  cases hf:f d σ with
  |none=>rw[hf]at h;cases h
  |some σ4 =>
   rw[hf]at h
   rw[UI,UI,Qeq (fs:=fs) h]
theorem Qer{es:List Expr}{k:Nat}{fs:List MG}(hc:X.calm=true)(h:PGs3 ca X es fs)(hn:(assignEach es X.env).length=fs.length:=by rfl)(hst:(assignEach es X.env).findIdx? (·.1)=none:=by rfl):PG3 ca X (.Tuple es k pos) (QcD fs) :=
 λpn Φ=>QhK (Qml (X:=xat X ca pn Φ) hc (h pn Φ) hn hst) λv σ H Q hQ=>by
  obtain⟨σ3,g,μ,d,σ3',R,q,e,kk⟩:=hQ
  cases q with
  |@tup a vs ds ht hs =>
   exact⟨a,vs,rfl,ht,hs.length.trans (Qeq e),σ3,g,μ,ds,σ3',R,hs,e,kk⟩
  |_=>cases e
theorem QmQ{K:Frag}{Φ:XS}{f:MG}(E:Ends)(σ:L2.St)(H:Hp)(h:upS K ca Φ (mAsg f me) E σ H):tAsg (up K ca Φ me) (upG K ca f) E σ H:=by
 obtain⟨σ3,g,μ,R,p⟩:=h
 refine⟨σ3,g,μ,R,?_⟩
 unfold mAsg at p
 cases hm:me σ3 g with
 |ok d g1 =>
  rw[hm]at p
  dsimp only at p
  intro v H' μ' e' r' q'
  cases hf:f d σ3 with
  |none=>rw[hf]at p;exact p.elim
  |some σ4 =>
   rw[hf]at p
   exact⟨σ3,g1,μ',d,σ4,R.go e' r',q',hf,λσ' R'=>p σ' H' μ' e' R'⟩
 |raise _ _=>rw[hm]at p;exact RaP.stmt R p
 |stuck=>rw[hm]at p;exact p
theorem QjF{tg:Expr}{f:MG}(he:PE3 ca X e me)(hg:PG3 ca X tg f)(hs:swapsWithSole [tg] e pos.line X.env=pure false:=by rfl)(hw:swappedStores [tg] e X.env=pure none:=by rfl)(h1:(assignEach [tg] X.env).map (·.2)=[assign tg X.env]:=by rfl):PS3 ca X (.Assign [tg] e pos) (mAsg f me) :=
 λpn Φ=>Y8 (Qhj (X:=xat X ca pn Φ) (he pn Φ) (hg pn Φ) hs hw h1) QmQ
theorem Qn0(i:Nat){x:Str}{pos':Pos}(hN:X.N.Nodup)(he:PE3 ca X e me)(hi:X.N[i]?=some x:=by rfl)(hx:Loc X.env.scope x:=by first|exact Or.inl rfl|exact Or.inr rfl)(hs:swapsWith e (some (.Name x pos')) pos.line X.env=pure false:=by rfl)(hf:X.fn x=true\/X.env.scope.names.lookup x=some .local:=by first|exact .inl rfl|exact .inr rfl):
  PS3 ca X (.Assign [.Name x pos'] e pos) (mAsg (gSet i) me) :=
 λpn Φ=>Y8 (Qmm (X:=xat X ca pn Φ) hN hi hx (he pn Φ) hs hf) λE σ H h=>by
  obtain⟨σ3,g,μ,R,p⟩:=h
  refine⟨σ3,g,μ,R,?_⟩
  unfold mAsg gSet at p
  cases hm:me σ3 g with
  |ok d g1 =>
   rw[hm]at p
   exact λv H' μ' e' r' q'=>p _ H' μ' e' ((R.go e' r').set q' i)
  |raise _ _=>rw[hm]at p;exact RaP.stmt R p
  |stuck=>rw[hm]at p;exact p
structure FldOk(K:Frag)(ca:Nat->Addr)(cs:List Nat)(f:Str):Prop where
 cl:∀c∈cs,Cls K (ca c)
 no:∀c∈cs,NoAttr K (ca c) f
theorem FRel.look{K:Frag}{μ:List Addr}{H:Hp}{f:Str}{d:D}:∀{fv:List (Str×V)}{fs:List (Str×D)},FRel K μ H fv fs->fs.lookup f=some d->∃v,fv.lookup f=some v/\Den K μ H v d
 |_,_,.nil,h=>by cases h
 | (k,v)::r,(k',d')::r',.cons ⟨e,q⟩ t,h=>by
  have e:k=k':=e
  subst e
  cases hb:f == k with
  |true =>
   simp only[List.lookup,hb]at h ⊢
   cases h
   exact⟨v,rfl,q⟩
  |false =>
   simp only[List.lookup,hb]at h ⊢
   exact FRel.look t h
theorem FRel.no{K:Frag}{μ:List Addr}{H:Hp}{f:Str}:∀{fv:List (Str×V)}{fs:List (Str×D)},FRel K μ H fv fs->fs.lookup f=Option.none->fv.lookup f=Option.none
 |_,_,.nil,_=>rfl
 | (k,v)::r,(k',d')::r',.cons ⟨e,q⟩ t,h=>by
  have e:k=k':=e
  subst e
  cases hb:f == k with
  |true=>simp only[List.lookup,hb]at h;cases h
  |false =>
   simp only[List.lookup,hb]at h ⊢
   exact FRel.no t h
theorem FRel.put{K:Frag}{μ:List Addr}{H:Hp}{f:Str}{v:V}{d:D}(q:Den K μ H v d):∀{fv:List (Str×V)}{fs:List (Str×D)},FRel K μ H fv fs->FRel K μ H (putF f v fv) (putG f d fs)
 |_,_,.nil=>.cons ⟨rfl,q⟩ .nil
 | (k,w)::r,(k',d')::r',.cons ⟨e,z⟩ t=>by
  have e:k=k':=e
  subst e
  show FRel K μ H (if k=f then (k,v)::r else (k,w)::putF f v r) (if k=f then (k,d)::r' else (k,d')::putG f d r')
  by_cases h:k=f
  ·rw[Ue h,Ue h];exact .cons ⟨rfl,q⟩ t
  ·rw[Uh h,Uh h];exact .cons ⟨rfl,z⟩ (FRel.put q t)
theorem QfY{cs:List Nat}{f:Str}(he:PE3 ca X e me)(ok:FldOk X.K ca cs f)(hb:attributeBase e f X.env (eval e X.env)=eval e X.env:=by rfl):PE3 ca X (.Attribute e f pos) (QcE cs f me) :=
 λpn Φ=>Zu (Qmy (X:=xat X ca pn Φ) (he pn Φ) hb) λσ H Q ⟨σ3,g,μ,R,p⟩=>Zs (Qar R p) λx H1 hQ=>by
  obtain⟨d,g1,μ1,e1,R1,q1,p1⟩:=hQ
  cases q1 with
  |@ref n a hn =>
   dsimp only at p1
   cases hg:g1[n]? with
   |none=>rw[hg]at p1;exact p1.elim
   |some o =>
    rw[hg]at p1
    obtain⟨a',ha',ob⟩:=R1.g.addr hg
    rw[hn]at ha';cases ha'
    cases o with
    |ins c fs =>
     dsimp only at p1
     obtain⟨dx,fv,hH,fr⟩:=ob
     by_cases hc:c∈cs
     ·rw[Ue hc]at p1
      cases hl:fs.lookup f with
      |none=>rw[hl]at p1;exact p1.elim
      |some y =>
       rw[hl]at p1
       obtain⟨v,h1,h2⟩:=fr.look hl
       exact⟨a,ca c,dx,fv,v,rfl,hH,ok.cl c hc,ok.no c hc,h1,p1 v H1 μ1 .refl R1.g h2⟩
     ·rw[Uh hc]at p1;exact p1.elim
    |_=>exact p1.elim
  |_=>exact p1.elim
theorem QhL{o:Expr}{mo:ME}{cs:List Nat}{f:Str}{pos':Pos}(ho:PE3 ca X o mo)(he:PE3 ca X e me)(ok:FldOk X.K ca cs f)(hs:swapsWith e (some (.Attribute o f pos')) pos.line X.env=pure false:=by rfl):
  PS3 ca X (.Assign [.Attribute o f pos'] e pos) (QbF cs f mo me) :=
 λpn Φ=>Y8 (Qmz (X:=xat X ca pn Φ) (ho pn Φ) (he pn Φ) hs) λE σ H ⟨σ3,g,μ,R,p⟩=>⟨σ3,g,μ,R,by
  unfold QbF at p
  cases hm:me σ3 g with
  |ok y g1 =>
   rw[hm]at p
   dsimp only at p
   intro vy H1 μ1 e1 r1 q1
   refine⟨σ3,g1,μ1,R.go e1 r1,?_⟩
   cases hm2:mo σ3 g1 with
   |ok d g2 =>
    rw[hm2]at p
    intro vx H2 μ2 e2 r2 q2
    cases q2 with
    |@ref n a hn =>
     dsimp only at p
     cases hg:g2[n]? with
     |none=>rw[hg]at p;exact p.elim
     |some ob =>
      rw[hg]at p
      obtain⟨a',ha',orp⟩:=r2.addr hg
      rw[hn]at ha';cases ha'
      cases ob with
      |ins c fs =>
       dsimp only at p
       obtain⟨dx,fv,hH,fr⟩:=orp
       by_cases hc:c∈cs/\fs.length<100
       ·rw[Ue hc]at p
        have fl:fv.length=fs.length:=Paired.length fr
        refine⟨a,ca c,dx,fv,rfl,hH,ok.cl c hc.1,ok.no c hc.1,by omega,?_⟩
        have ex:Ext X.K μ2 H2 μ2 (upd H2 a (.ins (ca c) dx (putF f vy fv))):=Jn hH (by intro _ z;cases z) (by intro _ _ z;cases z)
        refine p σ _ μ2 ((e1.trans e2).trans ex) ((R.go (e1.trans e2) r2).go ex ?_)
        exact r2.set hn hH (by intro _ z;cases z) (by intro _ _ z;cases z) ⟨dx,_,Qr,FRel.put ((q1.mono e2).mono ex) (fr.mono ex)⟩
       ·rw[Uh hc]at p;exact p.elim
      |_=>exact p.elim
    |_=>exact p.elim
   |raise _ _=>rw[hm2]at p;exact(RaP.stmt R p).go e1
   |stuck=>rw[hm2]at p;exact p
  |raise _ _=>rw[hm]at p;exact RaP.stmt R p
  |stuck=>rw[hm]at p;exact p⟩
theorem Qdn{o i:Expr}{mo mi:ME}{pos':Pos}(ho:PE3 ca X o mo)(hi:PE3 ca X i mi)(he:PE3 ca X e me)(hs:swapsWithSole [.Subscript o i pos'] e pos.line X.env=pure false:=by rfl)(hw:swappedStores [.Subscript o i pos'] e X.env=pure none:=by rfl)(h1:(assignEach [.Subscript o i pos'] X.env).map (·.2)=[assign (.Subscript o i pos') X.env]:=by rfl)(ha:∀v,assign (.Subscript o i pos') X.env v=(do
   let ov <-holding [v] (eval o X.env)
   let iv <-holding [v,ov] (eval i X.env)
   standAt pos'
   holding [v,ov,iv] (setItem ov iv v)
   release [v,ov,iv] []):=by intro _;rfl):PS3 ca X (.Assign [.Subscript o i pos'] e pos) (YJ mo mi me) :=
 λpn Φ=>Y8 (Qhj (X:=xat X ca pn Φ) (he pn Φ) (Qkq (X:=xat X ca pn Φ) (ho pn Φ) (hi pn Φ) QjA ha) hs hw h1) λE σ H ⟨σ3,g,μ,R,p⟩=>⟨σ3,g,μ,R,by
  unfold YJ at p
  cases hm:me σ3 g with
  |ok y g1 =>
   rw[hm]at p
   dsimp only at p
   intro vy H1 μ1 e1 r1 q1
   refine⟨σ3,g1,μ1,R.go e1 r1,?_⟩
   cases hm2:mo σ3 g1 with
   |ok d g2 =>
    rw[hm2]at p
    intro vx H2 μ2 e2 r2 q2
    cases q2 with
    |@ref n a hn =>
     dsimp only at p
     refine⟨σ3,g2,μ2,R.go (e1.trans e2) r2,?_⟩
     cases hm3:mi σ3 g2 with
     |ok di g3 =>
      rw[hm3]at p
      intro vi H3 μ3 e3 r3 q3
      cases q3 with
      |int k =>
       dsimp only at p
       cases hg:g3[n]? with
       |none=>rw[hg]at p;exact p.elim
       |some ob =>
        rw[hg]at p
        obtain⟨a',ha',orp⟩:=r3.addr hg
        rw[e3.at hn]at ha';cases ha'
        cases ob with
        |lst ds =>
         dsimp only at p
         obtain⟨vs,hH,q⟩:=orp
         cases hj:ixD ds.length k with
         |none=>rw[hj]at p;exact p.elim
         |some j =>
          rw[hj]at p
          have ex:Ext X.K μ3 H3 μ3 (upd H3 a (.lst (vs.set j vy))):=Jn hH (by intro _ z;cases z) (by intro _ _ z;cases z)
          refine⟨a,vs,k,j,rfl,rfl,hH,by rw[q.length];exact hj,?_⟩
          refine p σ _ μ3 (((e1.trans e2).trans e3).trans ex) ((R.go ((e1.trans e2).trans e3) r3).go ex ?_)
          exact r3.set (e3.at hn) hH (by intro _ z;cases z) (by intro _ _ z;cases z) ⟨_,Qr,Dens.set (((q1.mono e2).mono e3).mono ex) j (q.mono ex)⟩
        |_=>exact p.elim
      |_=>exact p.elim
     |raise _ _=>rw[hm3]at p;exact(RaP.stmt R p).go (e1.trans e2)
     |stuck=>rw[hm3]at p;exact p
    |_=>exact p.elim
   |raise _ _=>rw[hm2]at p;exact(RaP.stmt R p).go e1
   |stuck=>rw[hm2]at p;exact p
  |raise _ _=>rw[hm]at p;exact RaP.stmt R p
  |stuck=>rw[hm]at p;exact p⟩
noncomputable def Sim(K:Frag)(ca:Nat->Addr)(μ0:List Addr)(H0:Hp)(src:Src)(J:It):Prop :=
 ∀(i:Nat)(H:Hp)(μ:List Addr)(g:G),Ext K μ0 H0 μ H->GRep K ca μ H g->match src.at' g i with
  |some (some d)=>J.go i H/\∀x H',J.yld i H x H'->Ext K μ H μ H'/\GRep K ca μ H' g/\Den K μ H' x d
  |some none=>J.stop i H
  |none=>True
noncomputable def upI(K:Frag)(ca:Nat->Addr)(Φ:XS)(m:MI):TI:=λσ H R=>∃σ3 g μ,Rep K ca μ σ3 g σ H/\match m σ3 g with
 |.ok src g'=>∀J H' μ',Ext K μ H μ' H'->GRep K ca μ' H' g'->Sim K ca μ' H' src J->R J H'
 |.raise x g'=>RaP K ca Φ σ H μ x g'
 |.stuck=>False
def PI3(ca:Nat->Addr)(X:Cx)(tg iter:Expr)(m:MI):Prop:=∀pn Φ,PI (xat X ca pn Φ) tg iter (upI X.K ca Φ m)
theorem QaF{tg iter:Expr}{body:List Stmt}{mi:MI}{f:MG}(hc:X.calm=true)(hi:PI3 ca X tg iter mi)(hg:PG3 ca X tg f)(hb:PSs3 ca X body m)(hs:∀x,foldedSetIterable iter X.env x=pure x:=by intro _;rfl)(hk:X.stack=X.env::X.outer:=by rfl)(hf:X.env.frame=some X.env.locals:=by rfl):
  PS3 ca X (.For tg iter body [] pos) (mFor mi f m) :=
 λpn Φ=>Y8 (Qmo (X:=xat X ca pn Φ) (Qky hk hf pn Φ) hc (hi pn Φ) (hg pn Φ) (hb pn Φ) hs) λE σ H ⟨σ3,g,μ,R,p⟩=>⟨σ3,g,μ,R,by
  unfold mFor at p
  cases hm:mi σ3 g with
  |ok src g' =>
   rw[hm]at p
   dsimp only at p ⊢
   intro J H' μ' e' r' sim
   refine⟨λi n σ1 H1=>∃σ4 g1 μ1,Ext X.K μ' H' μ1 H1/\Rep X.K ca μ1 σ4 g1 σ1 H1/\PostS X.K ca Φ E H1 μ1 (forL src f m n i σ4 g1),⟨src.top+1,σ3,g',μ',.refl,R.go e' r',p.go e'⟩,?_⟩
   rintro i n σ1 H1 ⟨σ4,g1,μ1,e1,R1,p1⟩
   have s1:=sim i H1 μ1 g1 e1 R1.g
   cases n with
   |zero=>exact p1.elim
   |succ n =>
    unfold forL at p1
    cases ha:src.at' g1 i with
    |none=>rw[ha]at p1;exact p1.elim
    |some od =>
     rw[ha]at p1 s1
     cases od with
     |none=>exact .inl ⟨s1,p1 σ1 H1 μ1 .refl R1⟩
     |some d =>
      dsimp only at p1 s1
      obtain⟨go,yl⟩:=s1
      refine .inr ⟨go,λσ2 H2=>∃σ5 g2 μ2,Ext X.K μ' H' μ2 H2/\Rep X.K ca μ2 σ5 g2 σ2 H2/\PostS X.K ca Φ E H2 μ2 (forL src f m n (i+1) σ5 g2),λσ2 H2 z=>⟨n,Td n,z⟩,λx H2 y=>?_⟩
      obtain⟨e2,r2,q2⟩:=yl x H2 y
      cases hf:f d σ4 with
      |none=>rw[hf]at p1;exact p1.elim
      |some σ5 =>
       rw[hf]at p1
       dsimp only at p1
       refine⟨σ4,g1,μ1,d,σ5,R1.go e2 r2,q2,hf,λσ6 R6=>⟨σ5,g1,μ1,R6,?_⟩⟩
       cases hb:m σ5 g1 with
       |nx σ7 g7 =>
        rw[hb]at p1
        exact λσ' H3 μ3 e3 R3=>⟨σ7,g7,μ3,(e1.trans e2).trans e3,R3,PostS.go (e2.trans e3) p1⟩
       |ct σ7 g7 =>
        rw[hb]at p1
        exact λσ' H3 μ3 e3 R3=>⟨σ7,g7,μ3,(e1.trans e2).trans e3,R3,PostS.go (e2.trans e3) p1⟩
       |bk σ7 g7 =>
        rw[hb]at p1
        exact λσ' H3 μ3 e3 R3=>p1 σ' H3 μ3 (e2.trans e3) R3
       |rt d7 g7 =>
        rw[hb]at p1
        exact λv H3 μ3 e3 r3 q3=>p1 v H3 μ3 (e2.trans e3) r3 q3
       |raise _ _ _ =>
        rw[hb]at p1
        exact λσ' H3 μ3 e3 R3=>p1 σ' H3 μ3 (e2.trans e3) R3
       |stuck=>rw[hb]at p1;exact p1
  |raise _ _=>rw[hm]at p;exact RaP.stmt R p
  |stuck=>rw[hm]at p;exact p⟩
theorem QhM{body:List Stmt}(hc:PT3 ca X c tc)(hb:PSs3 ca X body m)(hk:X.stack=X.env::X.outer:=by rfl)(hf:X.env.frame=some X.env.locals:=by rfl):PS3 ca X (.While c body [] pos) (QcT tc m) :=
 λpn Φ=>Y8 (Qjt (X:=xat X ca pn Φ) (Qky hk hf pn Φ) (hc pn Φ) (hb pn Φ)) λE σ H hQ=>by
  obtain⟨σ3,g,μ,R,p⟩:=hQ
  unfold QcT at p
  by_cases hh:∃f,ZJ tc m f σ3 g≠.stuck
  ·rw[dif_pos hh]at p
   generalize hh.choose=k at p
   refine⟨λn σ1 H1=>∃σ4 g1 μ1,Ext X.K μ H μ1 H1/\Rep X.K ca μ1 σ4 g1 σ1 H1/\PostS X.K ca Φ E H1 μ1 (ZJ tc m n σ4 g1),⟨k,σ3,g,μ,.refl,R,p⟩,?_⟩
   rintro n σ1 H1 ⟨σ4,g1,μ1,e1,R1,p1⟩
   cases n with
   |zero=>exact p1.elim
   |succ n =>
    unfold ZJ at p1
    refine⟨σ4,g1,μ1,R1,?_⟩
    cases ht:tc σ4 g1 with
    |ok t g2 =>
     rw[ht]at p1
     cases t with
     |true =>
      dsimp only at p1
      intro H2 μ2 e2 r2
      rw[Ue rfl]
      refine⟨λσ2 H3=>∃σ5 g3 μ3,Ext X.K μ H μ3 H3/\Rep X.K ca μ3 σ5 g3 σ2 H3/\PostS X.K ca Φ E H3 μ3 (ZJ tc m n σ5 g3),λσ2 H3 z=>⟨n,Td n,z⟩,σ4,g2,μ2,R1.go e2 r2,?_⟩
      cases hb:m σ4 g2 with
      |nx σ7 g7 =>
       rw[hb]at p1
       exact λσ' H3 μ3 e3 R3=>⟨σ7,g7,μ3,(e1.trans e2).trans e3,R3,PostS.go (e2.trans e3) p1⟩
      |ct σ7 g7 =>
       rw[hb]at p1
       exact λσ' H3 μ3 e3 R3=>⟨σ7,g7,μ3,(e1.trans e2).trans e3,R3,PostS.go (e2.trans e3) p1⟩
      |bk σ7 g7 =>
       rw[hb]at p1
       exact λσ' H3 μ3 e3 R3=>p1 σ' H3 μ3 (e2.trans e3) R3
      |rt d7 g7 =>
       rw[hb]at p1
       exact λv H3 μ3 e3 r3 q3=>p1 v H3 μ3 (e2.trans e3) r3 q3
      |raise _ _ _ =>
       rw[hb]at p1
       exact λσ' H3 μ3 e3 R3=>p1 σ' H3 μ3 (e2.trans e3) R3
      |stuck=>rw[hb]at p1;exact p1
     |false =>
      intro H2 μ2 e2 r2
      rw[Uh Uf]
      exact p1 σ1 H2 μ2 e2 (R1.go e2 r2)
    |raise _ _=>rw[ht]at p1;exact RaP.stmt R1 p1
    |stuck=>rw[ht]at p1;exact p1
  ·rw[dif_neg hh]at p;exact p.elim
end
noncomputable def spM(K:Frag)(ca:Nat->Addr)(n:Nat)(F:MF):Sp:=λvs H Q E=>vs.length=n/\∃ds g μ,GRep K ca μ H g/\Dens K μ H vs ds/\match F ds g with
 |.ok d g'=>∀v H' μ',Ext K μ H μ' H'->GRep K ca μ' H' g'->Den K μ' H' v d->Q v H'
 |.raise x g'=>∀H' μ',Ext K μ H μ' H'->GRep K ca μ' H' g'->E (.int x.1 0) x.2 H'
 |.stuck=>False
theorem QhN{K:Frag}{ca:Nat->Addr}{μ:List Addr}{H:Hp}{g:G}{vs:List V}{ds:List D}(N:List Str)(r:GRep K ca μ H g)(q:Dens K μ H vs ds):Rep K ca μ (ds.map some++List.replicate (N.length-vs.length) none) g (L2.start N vs) H:=by
 unfold L2.start
 refine⟨r,?_,λi d h=>?_⟩
 ·rw[Um,Um,Uc,Uc,q.length,U1,U1]
 ·by_cases hi:i<ds.length
  ·rw[Ut (by simpa using hi),Uy]at h
   cases hd:ds[i]? with
   |none=>rw[hd]at h;cases h
   |some d' =>
    rw[hd]at h;cases h
    obtain⟨v,h1,h2⟩:=q.get hd
    refine⟨v,?_,h2⟩
    rw[Ut (by simpa[q.length]using hi),Uy,h1];rfl
  ·rw[Ux (by simpa using hi),TM]at h
   split at h <;> cases h
structure FnH(P:Program)(w:World)(K:Frag)(mg:Str->Option Value)(base:Heap)(ca:Nat->Addr)(x:Str)(k n:Nat)(F:MF):Prop where
 ex:∃(f:Addr)(fd:FuncData)(ps:List Str),FnOk P w K mg base (CXW P w ca) k f fd ps (spM K ca n F)/\mg x=some (.ref f)/\keepIn K (.ref f)=true/\Binds K fd ps []
 st:∀ds g,ds.length≠n->F ds g=.stuck
structure MkH(P:Program)(w:World)(K:Frag)(mg:Str->Option Value)(base:Heap)(ca:Nat->Addr)(c:Nat)(x:Str)(k n:Nat)(F:MF):Prop where
 ex:∃(f:Addr)(fd:FuncData)(ps:List Str),FnOk P w K mg base (CXW P w ca) k f fd ps (spM K ca n F)/\Mk K (ca c) f/\mg x=some (.ref (ca c))/\Binds K fd ps []
 st:∀ds g,ds.length≠n->F ds g=.stuck
theorem Qfb(k n:Nat)(m:MS):∀ds g,ds.length≠k->mDef k n m ds g=.stuck:=λds g h=>by unfold mDef;rw[Uh h]
theorem FnH.mono{P:Program}{w:World}{K:Frag}{mg:Str->Option Value}{base:Heap}{ca:Nat->Addr}{x:Str}{j k n:Nat}{F:MF}(h:FnH P w K mg base ca x j n F)(hj:j<=k):FnH P w K mg base ca x k n F:=by
 obtain⟨f,fd,ps,a,b⟩:=h.ex
 exact⟨⟨f,fd,ps,a.mono hj,b⟩,h.st⟩
section
variable{P:Program}{w:World}{K:Frag}{mg:Str->Option Value}{base:Heap}{ca:Nat->Addr}
theorem QhO{N:List Str}{qual:Str}{scope:Scope}{f:Addr}{cd:Value}{A:Around}{outer:List Env}{s:Shared}{H:Hp}{E:XK}{body:List Stmt}{t:TS}(h:PSs (xat (cxOf (CXW P w ca) P w K mg base N qual scope f cd A outer s H E) ca [] (λx _ H'=>E (.int x.1 0) x.2 H')) body t):PSs (cxOf (CXW P w ca) P w K mg base N qual scope f cd A outer s H E) body t:=λpins s1 σ H1 D I q =>
 U3 (h pins s1 σ H1 D (Inv.wish I _) q) (λ_ _ z=>SP.unwish (X:=cxOf (CXW P w ca) P w K mg base N qual scope f cd A outer s H E) z) λ_ _ z=>QjE z
theorem QjG{x qual:Str}{st:Stmt}{f:Addr}{fd:FuncData}{N ps:List Str}{k n j:Nat}{m:MS}(F:Fun K x qual st f fd)(S:FnScope N ps (Qh st))(hj:ps.length=j)(hn:N.length-ps.length=n)(h:∀(cdv:Value) (A:Around) (outer:List Env) (s:Shared) (H:Hp) (E:XK),Room k (A.deeper (envOfC qual (Qh st) s.heap.objs.size f cdv)) ->
   PSs3 ca (cxOf (CXW P w ca) P w K mg base N qual (Qh st) f cdv A outer s H E) (YI st) m):FnOk P w K mg base (CXW P w ca) (k+1) f fd ps (spM K ca j (mDef j n m)):=by
 subst hj
 obtain⟨oc,od,kV,doc,pm,an,cdv,ct,osl,rfl,lk,hcd⟩:=F.ex
 refine QmB lk hcd S (λvs H Q E q=>q.1) λA outer s H vs Q E hr hsp=>?_
 obtain⟨hl,ds,g,μ,r,q,p⟩:=hsp
 refine⟨_,QhO (h cdv A outer s H E hr [] _),ds.map some++List.replicate n none,g,μ,?_,?_⟩
 ·have z:=QhN N r q
  rw[hl,hn]at z
  exact z
 ·unfold mDef at p
  rw[Ue (by rw[<-q.length,hl])]at p
  cases hm:m (ds.map some++List.replicate n none) g with
  |nx σ' g'=>rw[hm]at p;exact λσ'' H' μ' e' R'=>p .non H' μ' e' R'.g .non
  |rt d g'=>rw[hm]at p;exact p
  |bk _ _=>rw[hm]at p;exact p.elim
  |ct _ _=>rw[hm]at p;exact p.elim
  |raise _ _ _=>rw[hm]at p;exact λσ'' H' μ' e' R'=>p H' μ' e' R'.g
  |stuck=>rw[hm]at p;exact p.elim
noncomputable def EK(Φ:XS)(σ:L2.St):XK:=λc l H'=>∀x:Xc,c=.int x.1 0->l=x.2->Φ x σ H'
theorem Qkz{F:MF}{n:Nat}{Φ:XS}{σ:L2.St}{Q:VK}{H:Hp}{μ:List Addr}{vs:List V}{ds:List D}{g:G}(st:∀ds g,ds.length≠n->F ds g=.stuck)(r:GRep K ca μ H g)(q:Dens K μ H vs ds)(p:Post K ca Φ σ Q H μ (F ds g)):spM K ca n F vs H Q (EK Φ σ):=by
 have hl:vs.length=n:=by
  rw[q.length]
  apply Decidable.byContradiction
  intro h
  rw[st ds g h]at p
  exact p
 refine⟨hl,ds,g,μ,r,q,?_⟩
 cases hF:F ds g with
 |ok d g'=>rw[hF]at p;exact p
 |raise x g' =>
  rw[hF]at p
  intro H' μ' e r' y e1 e2
  have:x=y:=by
   obtain⟨a,b⟩:=x
   obtain⟨c,d⟩:=y
   injection e1 with e1
   have e1:(a:Int)=(c:Int):=e1
   have e3:a=c:=by omega
   rw[e3,show b=d from e2]
  rw[<-this]
  exact p H' μ' e r'
 |stuck=>rw[hF]at p;exact p
end
section
variable{X:Cx}{ca:Nat->Addr}{e o:Expr}{es:List Expr}{me mo:ME}{mr:MA}{p pos apos:Pos}{k n:Nat}{F:MF}{pn:List (Addr×Obj)}{Φ:XS}
theorem QmR{f:Addr}{fd:FuncData}{ps:List Str}{pins:List (Addr×Obj)}{σ:L2.St}{H:Hp}{s:Shared}{Q:VK}{us:List Value}{vs:List V}(G:FnOk X.prog X.w X.K X.mg X.base (CXW X.prog X.w ca) k f fd ps (spM X.K ca n F))(hr:Room k X.A)(hb:Binds X.K fd ps [])(I:Inv (xat X ca pn Φ) pins σ H s)(r:Vals vs us)(h:spM X.K ca n F vs H Q (EK Φ σ)):wpAny (model X.prog X.w) X.A (call (.ref f) us) (EP (xat X ca pn Φ) pins σ Q) (xat X ca pn Φ).xe s:=by
 have hl:(us++[]).length=ps.length:=by rw[UW,<-r.length];exact G.len _ _ _ _ h
 have b:=hb s us I.kIn hl
 rw[UW]at b
 refine wpAny_call (Wq (G.run X.A X.stack s H ⟨us,[]⟩ us vs Q (EK Φ σ) hr I.env0 b r h) λres s' hq=>?_)
 cases res with
 |error z=>exact QhJ I hq
 |ok fl =>
  cases fl with
  |ret u=>exact I.after hq
  |_=>exact False.elim hq
theorem Qm{x:Str}(h:FnH X.prog X.w X.K X.mg X.base ca x k n F)(hr:Room k X.A)(ha:PA3 ca X (e::es) mr)(hg:Gl X x:=by rfl)(hdb:(x == ("__debug__" : Str))=false:=by decide)(he:starEach (e::es) X.env=(false,eval e X.env)::starEach es X.env:=by rfl)(hpl:(backTo pos (starEach es X.env)).any (·.1)=false:=by rfl):PE3 ca X (.Call (.Name x p) (e::es) [] pos) (Ql F mr):=by
 obtain⟨f,fd,ps,F1,m1,k1,b1⟩:=h.ex
 intro pn Φ pins s σ H Q I ⟨σ3,g,μ,R,q⟩
 refine Ra (QbR I hg m1 ?_ hdb)
 have z:upA X.K ca Φ mr σ H λvs H1=>spM X.K ca n F vs H1 Q (EK Φ σ):=QaO (QfR R q) λxs H1 ⟨ds,g1,μ1,e1,R1,q1,p1⟩=>Qkz h.st R1.g q1 p1
 refine callWith_K (h₀:=X.base) I.ok.mod.kin k1 (thn (ha pn Φ pos pins s σ H _ I z) λus s1 ⟨vs,H1,I1,r,q1⟩=>⟨I1.kIn,?_⟩) he hpl
 exact QmR F1 hr b1 I1 r q1
theorem QmS{c:Nat}{x:Str}(h:MkH X.prog X.w X.K X.mg X.base ca c x k n F)(hr:Room (k+1) X.A)(ha:PA3 ca X (e::es) mr)(hg:Gl X x:=by rfl)(hdb:(x == ("__debug__" : Str))=false:=by decide)(he:starEach (e::es) X.env=(false,eval e X.env)::starEach es X.env:=by rfl)(hpl:(backTo pos (starEach es X.env)).any (·.1)=false:=by rfl):PE3 ca X (.Call (.Name x p) (e::es) [] pos) (QhC c F mr):=by
 obtain⟨f,fd,ps,F1,m1,k1,b1⟩:=h.ex
 intro pn Φ pins s σ H Q I ⟨σ3,g,μ,R,q⟩
 refine Ra (QbR I hg k1 ?_ hdb)
 have z:upA X.K ca Φ mr σ H λvs H1=>∀y dy,H1 y=none->H1 dy=none->dy≠y->spM X.K ca n F (.ref y::vs) (upd (upd H1 dy (.own y)) y (.ins (ca c) dy [])) (λv H2=>v=.non/\Q (.ref y) H2) (EK Φ σ) :=
  QaO (QfR R q) λxs H1 ⟨ds,g1,μ1,e1,R1,q1,p1⟩ y dy hy hdy ne=>by
   have hy2:(upd H1 dy (.own y)) y=none:=by rw[QF (Ne.symm ne)];exact hy
   have ex1:Ext X.K μ1 H1 μ1 (upd H1 dy (.own y)):=Zc hdy
   have g2:=R1.g.new (o:=.own y) hdy
   have ex2:Ext X.K μ1 (upd H1 dy (.own y)) (μ1++[y]) (upd (upd H1 dy (.own y)) y (.ins (ca c) dy [])):=QS hy2
   have g3:GRep X.K ca (μ1++[y]) (upd (upd H1 dy (.own y)) y (.ins (ca c) dy [])) (g1++[.ins c []]):=g2.push hy2 ⟨dy,[],Qr,.nil⟩
   have ey:(μ1++[y])[g1.length]?=some y:=by rw[<-R1.g.len];simp
   refine Qkz (Φ:=Φ) (σ:=σ) h.st g3 (.cons (.ref ey) ((q1.mono ex1).mono ex2)) ?_
   cases hF:F (D.ref g1.length::ds) (g1++[.ins c []]) with
   |stuck=>rw[hF]at p1;exact p1.elim
   |raise _ _=>rw[hF]at p1;exact RaP.go (ex1.trans ex2) p1
   |ok d g4 =>
    rw[hF,Res.bind_ok]at p1
    intro v H' μ' e' r' q'
    cases q' with
    |non=>exact⟨rfl,p1 _ H' μ' ((ex1.trans ex2).trans e') r' (.ref (e'.at ey))⟩
    |_=>exact p1.elim
 refine callWith_K (h₀:=X.base) I.ok.mod.kin m1.kp (thn (ha pn Φ pos pins s σ H _ I z) λus s1 ⟨vs,H1,I1,r,q1⟩=>⟨I1.kIn,?_⟩) he hpl
 have hq:=q1 (s1.heap.objs.size+1) s1.heap.objs.size (I1.hok.fresh (Nat.le_succ _)) (I1.hok.fresh (Ui _)) (UP (Td _))
 have I2:=Inv.made (C:=ca c) I1
 have r2:Vals (V.ref (s1.heap.objs.size+1)::vs) (Value.ref (s1.heap.objs.size+1)::us):=.cons rfl r
 have hl:(Value.ref (s1.heap.objs.size+1)::us++[]).length=ps.length:=by
  have w:=r2.length
  rw[F1.len _ _ _ _ hq]at w
  rw[UW]
  exact w.symm
 have b2:=b1 _ (Value.ref (s1.heap.objs.size+1)::us) I2.kIn hl
 rw[UW]at b2
 refine wpAny_call (Qjx (f:=f) I1.kIn m1.makes m1.init (Tt.mp m1.fn) (Wq (F1.run _ X.stack _ _ ⟨Value.ref (s1.heap.objs.size+1)::us,[]⟩ (Value.ref (s1.heap.objs.size+1)::us) _ _ (EK Φ σ) (hr.make (ca c) us [])
  (I2.env0.make (ca c) us []) b2 r2 hq) λres s' hq'=>?_))
 cases res with
 |error z=>exact QhJ I2 hq'
 |ok fl =>
  cases fl with
  |ret u =>
   obtain⟨v,H',I3,rv,ev,q3⟩:=I2.after hq'
   subst ev
   exact⟨rv,⟨V.ref (s1.heap.objs.size+1),H',I3,rfl,q3⟩⟩
  |_=>exact False.elim hq'
end
section
variable{X:Cx}{ca:Nat->Addr}{tg e:Expr}{me:ME}{mr:MA}{p pos:Pos}
theorem Qdo{X:Cx}{tg iter:Expr}{t t':TI}(h:PI X tg iter t)(i:∀σ H R,t' σ H R->t σ H R):PI X tg iter t':=λpins s σ H R I q=>h pins s σ H R I (i σ H R q)
theorem QhP(K:Frag)(μ:List Addr)(H:Hp)(lo:Int)(n:Nat):Sim K ca μ H (Q1 lo n) (Itr lo n):=by
 intro i H1 μ1 g1 e r
 unfold Q1
 dsimp only
 by_cases h:i<n
 ·rw[Ue h]
  exact⟨h,λx H' y=>by obtain⟨rfl,rfl⟩:=y;exact⟨.refl,r,.int _⟩⟩
 ·rw[Uh h]
  exact TR h
theorem Qll{K:Frag}{μ:List Addr}{H:Hp}{a:Addr}{vs:List V}{ds:List D}(h:SqT K H a vs)(q:Dens K μ H vs ds):Sim K ca μ H ⟨λ_ i=>some ds[i]?,ds.length⟩ (Itt K a):=by
 intro i H1 μ1 g1 e r
 dsimp only
 cases hd:ds[i]? with
 |none =>
  refine⟨vs,e.tup _ _ h,?_⟩
  rw[q.length]
  exact Tj.mp hd
 |some d =>
  obtain⟨v,h1,h2⟩:=q.get hd
  refine⟨⟨vs,v,e.tup _ _ h,h1⟩,λx H' y=>?_⟩
  obtain⟨rfl,y⟩:=y
  have:=y vs (e.tup _ _ h)
  rw[h1]at this;cases this
  exact⟨.refl,r,h2.mono e⟩
theorem Qlm{K:Frag}{μ:List Addr}{H:Hp}{a:Addr}{n t:Nat}(hn:μ[n]?=some a):Sim K ca μ H ⟨λg i=>(match g[n]? with|some (.lst es)=>some es[i]? | _=>none),t⟩ (Itl K a):=by
 intro i H1 μ1 g1 e r
 dsimp only
 cases hg:g1[n]? with
 |none=>trivial
 |some o =>
  cases o with
  |lst ds =>
   dsimp only
   obtain⟨a',ha',vs,hH,q⟩:=r.addr hg
   rw[e.at hn]at ha';cases ha'
   cases hd:ds[i]? with
   |none =>
    refine⟨vs,.of hH,?_⟩
    rw[q.length]
    exact Tj.mp hd
   |some d =>
    obtain⟨v,h1,h2⟩:=q.get hd
    refine⟨⟨vs,v,.of hH,h1⟩,λx H' y=>?_⟩
    obtain⟨rfl,y⟩:=y
    have:=y vs (.of hH)
    rw[h1]at this;cases this
    exact⟨.refl,r,h2⟩
  |_=>trivial
theorem QmT{K:Frag}{μ:List Addr}{H:Hp}{a:Addr}{vs:List V}{ds:List D}(h:SqF K H a vs)(q:Dens K μ H vs ds):Sim K ca μ H ⟨λ_ i=>some ds[i]?,ds.length⟩ (Itl K a):=by
 intro i H1 μ1 g1 e r
 dsimp only
 have sq:SqL K H1 a vs:=(e.fl _ _ h).sq
 cases hd:ds[i]? with
 |none =>
  refine⟨vs,sq,?_⟩
  rw[q.length]
  exact Tj.mp hd
 |some d =>
  obtain⟨v,h1,h2⟩:=q.get hd
  refine⟨⟨vs,v,sq,h1⟩,λx H' y=>?_⟩
  obtain⟨rfl,y⟩:=y
  have:=y vs sq
  rw[h1]at this;cases this
  exact⟨.refl,r,h2.mono e⟩
theorem QmU{l:Expr}{tl:TE}(hl:PE X l tl):PI X tg l (λσ H R=>tl σ H λx H1=>(∃a,x=.ref a/\(∃xs,SqL X.K H1 a xs)/\R (Itl X.K a) H1)\/∃a,x=.ref a/\(∃xs,SqT X.K H1 a xs)/\R (Itt X.K a) H1):=by
 intro pins s σ H R I h
 refine thn (hl pins s σ H _ I h) λv s1 ⟨x,H1,I1,r1,q1⟩=>?_
 rcases q1 with⟨a,e,⟨xs,hq⟩,q⟩|⟨a,e,⟨xs,hq⟩,q⟩
 ·subst e
  cases r1
  obtain⟨its,rv,p,hz⟩:=I1.list hq
  refine RU p.isList ?_
  refine⟨s1.heap.objs.size,[s1.heap.objs.size],_,_,H1,rfl,I1.kept (t':=s1.toks) λb o e=>Ub _ e,Qhk a _,⟨_,Us _ rfl,rfl,rfl⟩,λb hb=>?_,q⟩
  have e:b=s1.heap.objs.size:=by simpa using hb
  subst e
  exact I1.fpOk (Ui _) (I1.hok.fresh (Ui _))
 ·subst e
  cases r1
  obtain⟨its,rv,p,hz⟩:=I1.tuple hq
  refine RN (show s1.heap.IsTuple a its.toArray from p) ?_
  refine⟨s1.heap.objs.size,[s1.heap.objs.size],_,_,H1,rfl,I1.kept (t':=s1.toks) λb o e=>Ub _ e,Qgs a _,⟨_,Us _ rfl,rfl,rfl⟩,λb hb=>?_,q⟩
  have e:b=s1.heap.objs.size:=by simpa using hb
  subst e
  exact I1.fpOk (Ui _) (I1.hok.fresh (Ui _))
theorem Z8(he:PE3 ca X e me):PI3 ca X tg e (QN me) :=
 λpn Φ=>Qdo (QmU (X:=xat X ca pn Φ) (he pn Φ)) λσ H R hQ=>by
  obtain⟨σ3,g,μ,Rp,p⟩:=hQ
  unfold QN at p
  refine⟨σ3,g,μ,Rp,?_⟩
  cases hm:me σ3 g with
  |raise _ _=>rw[hm]at p;exact p
  |stuck=>rw[hm]at p;exact p.elim
  |ok d g1 =>
   rw[hm,Res.bind_ok]at p
   intro v H1 μ1 e1 r1 q1
   unfold QcU at p
   cases q1 with
   |@tup a vs ds ht hs =>
    exact .inr ⟨a,rfl,⟨vs,ht⟩,p _ H1 μ1 e1 r1 (Qll ht hs)⟩
   |@fl a vs ds ht hs=>exact .inl ⟨a,rfl,⟨vs,ht.sq⟩,p _ H1 μ1 e1 r1 (QmT ht hs)⟩
   |@ref n a hn =>
    dsimp only at p
    cases hg:g1[n]? with
    |none=>rw[hg]at p;exact p.elim
    |some o =>
     rw[hg]at p
     obtain⟨a',ha',orp⟩:=r1.addr hg
     rw[hn]at ha';cases ha'
     cases o with
     |lst ds=>obtain⟨vs,hH,q⟩:=orp;exact .inl ⟨a,rfl,⟨vs,.of hH⟩,p _ H1 μ1 e1 r1 (Qlm hn)⟩
     |_=>exact p.elim
   |_=>exact p.elim
theorem Yk(hm:X.mg "range" = none)(he:PE3 ca X e me)(hg:Gl X "range":=by rfl)(hs:starEach [e] X.env=[(false,eval e X.env)]:=by rfl):PI3 ca X tg (.Call (.Name "range" p) [e] [] pos) (QO me) :=
 λpn Φ=>Qdo (Qhl (X:=xat X ca pn Φ) hg hm (Jd he Qi hs pn Φ) hs) λσ H R hQ=>by
  obtain⟨σ3,g,μ,Rp,p⟩:=hQ
  refine⟨σ3,g,μ,Rp,?_⟩
  unfold QO at p
  unfold Qb mNil
  cases hm:me σ3 g with
  |raise _ _=>rw[hm]at p;exact p
  |stuck=>rw[hm]at p;exact p.elim
  |ok d g1 =>
   rw[hm,Res.bind_ok]at p
   rw[Res.bind_ok,Res.bind_ok]
   intro vs H1 μ1 e1 r1 q1
   cases q1 with
   |cons h1 h2 =>
    cases h2
    cases h1 with
    |int j =>
     dsimp only at p
     by_cases hj:inR j
     ·rw[Ue hj]at p
      exact⟨j,rfl,hj.1,hj.2,p _ H1 μ1 e1 r1 (QhP X.K μ1 H1 0 j.toNat)⟩
     ·rw[Uh hj]at p;exact p.elim
    |_=>exact p.elim
end
noncomputable def blk(X:Cx)(scope:Scope)(cl:List (Str×Addr))(C:Addr)(Nb:List Str)(s3:Shared)(H3:Hp)(ex:List Addr):Cx :=
 {X with env:=compEnvC scope cl C X.env,N:=Nb,s₀:=s3,H₀:=H3,outer:=X.stack,stack:=X.stack,ex:=ex,fn:=λ_=>false,pn:=[],xe:=λ_ _=>False}
structure BScope(X:Cx)(scope:Scope)(Nb:List Str)(no:Nat)(cap:List Nat):Prop where
 kind:scope.kind=.function
 cell:∀y∈scope.names,y.2≠.cell
 loc:∀y∈scope.names,y.2=.local->scope.names.lookup y.1=some .local
 free:∀y∈scope.names,y.2=.free->X.env.kindOf y.1=some .cell\/X.env.kindOf y.1=some .free
 len:Nb.length=no+cap.length
 cap:∀(j i:Nat),cap[j]?=some i->∃x,Nb[no+j]?=some x/\X.N[i]?=some x/\scope.names.lookup x=some .free/\Vis X.env.scope x/\X.env.kindOf x≠some .local
noncomputable def clOf(cells:List (Str×Addr)):List (Str×NameKind)->List (Str×Addr)->Option (List (Str×Addr))
 |[],cs=>some cs
 | (n,k)::r,cs=>if (k == .free)=true then (match cells.lookup n with
  |some a=>clOf cells r ((n,a)::cs)
  |none=>none) else clOf cells r cs
theorem Qbd{env:Env}:∀(names:List (Str×NameKind))(cs cl:List (Str×Addr)),clOf env.cells names cs=some cl ->
  (forIn names cs λ(x:Str×NameKind)(r:List (Str×Addr))=>(match x with
   | (name,kind)=>if (kind == .free)=true then (do let a <-cellOf env name;pure (ForInStep.yield ((name,a)::r))) else pure (ForInStep.yield r):Sem (ForInStep (List (Str×Addr)))))=(pure cl:Sem (List (Str×Addr)))
 |[],cs,cl,h=>by cases h;rfl
 | (n,k)::r,cs,cl,h=>by
  unfold clOf at h
  rw[Ry]
  by_cases hk:(k == .free)=true
  ·rw[Ue hk]at h
   cases hl:env.cells.lookup n with
   |none=>rw[hl]at h;cases h
   |some a =>
    rw[hl]at h
    dsimp only at h ⊢
    rw[Ue hk]
    unfold cellOf
    rw[hl]
    exact Qbd r _ cl h
  ·rw[Uh hk]at h
   dsimp only
   rw[Uh hk]
   exact Qbd r _ cl h
theorem QaP{scope:Scope}{env:Env}{cl:List (Str×Addr)}(h:clOf env.cells scope.names []=some cl):closureFor scope env=pure cl:=by
 have q:=Qbd (env:=env) scope.names [] cl h
 unfold closureFor
 exact Rn (λt=>t >>= λr=>(pure r:Sem _)) q
theorem QaQ{cells:List (Str×Addr)}:∀(names:List (Str×NameKind))(cs:List (Str×Addr)),(∀y∈names,y.2=.free->∃c,cells.lookup y.1=some c)->∃cl,clOf cells names cs=some cl
 |[],cs,_=>⟨cs,rfl⟩
 | (n,k)::r,cs,h=>by
  unfold clOf
  by_cases hk:(k == .free)=true
  ·rw[Ue hk]
   obtain⟨c,e⟩:=h (n,k) UG (Tt.mp hk)
   rw[show cells.lookup n=some c from e]
   exact QaQ r _ λy hy=>h y (Uv _ hy)
  ·rw[Uh hk]
   exact QaQ r _ λy hy=>h y (Uv _ hy)
theorem YW{cells:List (Str×Addr)}:∀(names:List (Str×NameKind))(cs cl:List (Str×Addr)),clOf cells names cs=some cl->(∀x c,cs.lookup x=some c->cells.lookup x=some c)->∀x c,cl.lookup x=some c->cells.lookup x=some c
 |[],cs,cl,h,hc=>by cases h;exact hc
 | (n,k)::r,cs,cl,h,hc=>by
  unfold clOf at h
  by_cases hk:(k == .free)=true
  ·rw[Ue hk]at h
   cases hl:cells.lookup n with
   |none=>rw[hl]at h;cases h
   |some a =>
    rw[hl]at h
    refine YW r _ cl h λx c e=>?_
    by_cases z:x=n
    ·subst z
     simp only[List.lookup,Rq]at e
     cases e
     exact hl
    ·have zb:(x == n)=false:=Tg.mpr z
     simp only[List.lookup,zb]at e
     exact hc x c e
  ·rw[Uh hk]at h
   exact YW r _ cl h hc
theorem QbH{cells:List (Str×Addr)}:∀(names:List (Str×NameKind))(cs cl:List (Str×Addr)),clOf cells names cs=some cl->∀x,(x∈names.filterMap λy=>if (y.2 == .free)=true then some y.1 else none)\/(∃c,cs.lookup x=some c)->∃c,cl.lookup x=some c
 |[],cs,cl,h,x,hx=>by
  cases h
  rcases hx with hx|hx
  ·simp at hx
  ·exact hx
 | (n,k)::r,cs,cl,h,x,hx=>by
  unfold clOf at h
  by_cases hk:(k == .free)=true
  ·rw[Ue hk]at h
   cases hl:cells.lookup n with
   |none=>rw[hl]at h;cases h
   |some a =>
    rw[hl]at h
    refine QbH r _ cl h x ?_
    by_cases z:x=n
    ·subst z
     exact .inr ⟨a,by simp[List.lookup]⟩
    ·have zb:(x == n)=false:=Tg.mpr z
     rcases hx with hx|⟨c,hx⟩
     ·rw[Tq]at hx
      simp only[hk,TX]at hx
      rcases Uu.mp hx with e|e
      ·exact absurd e z
      ·exact .inl e
     ·exact .inr ⟨c,by simp only[List.lookup,zb];exact hx⟩
  ·rw[Uh hk]at h
   refine QbH r _ cl h x ?_
   rcases hx with hx|hx
   ·rw[Tq]at hx
    simp only[hk]at hx
    exact .inl (by simpa using hx)
   ·exact .inr hx
theorem Qb0{names:List (Str×NameKind)}{x:Str}(h:names.lookup x=some .free):x∈names.filterMap λy=>if (y.2 == .free)=true then some y.1 else none :=
 RK.mpr ⟨(x,.free),Ts h,by simp⟩
theorem JR{env:Env}:∀{names:List (Str×NameKind)}{x:Str}{k:NameKind},(∀y∈names,y.2≠.cell) ->
  (names.map λ(n,k)=>if (k == NameKind.free && env.scope.kind == .function && env.kindOf n == some .cell) then (n,NameKind.cell) else (n,k)).lookup x=some k->(k=.cell\/k=.free)->names.lookup x=some .free
 |[],_,_,_,h,_=>by cases h
 | (n,k0)::r,x,k,hn,h,hk=>by
  have ih:=@JR env r x k λy hy=>hn y (Uv _ hy)
  rw[UJ]at h
  by_cases hc:(k0 == NameKind.free && env.scope.kind == .function && env.kindOf n == some .cell)=true
  ·have k0f:k0=.free:=by
    simp only[UD]at hc
    exact Tt.mp hc.1.1
   dsimp only at h
   rw[Ue hc]at h
   cases hx:x == n with
   |true=>simp only[List.lookup,hx];rw[k0f]
   |false=>simp only[List.lookup,hx]at h ⊢;exact ih h hk
  ·dsimp only at h
   rw[Uh hc]at h
   cases hx:x == n with
   |true =>
    simp only[List.lookup,hx]at h ⊢
    cases h
    rcases hk with e|e
    ·exact absurd e (hn (n,k0) UG)
    ·rw[e]
   |false=>simp only[List.lookup,hx]at h ⊢;exact ih h hk
theorem Qes{prog:Program}{w:World}{A:Around}{R:Result->Shared->Prop}{s:Shared}{elt target iter:Expr}{ifs:List Expr}{scope:Scope}{pos:Pos}{it acc:Value}{env:Env}(I:Nat->Shared->Prop)(turn:∀n s,I n s->wpAny (model prog w) A (pyNext it) (λr s₁=>match r with
   |none=>R (.ok .next) s₁
   |some v=>wpAny (model prog w) A (letOwnedTupleGo target it v) (λ_ s1'=>wpAny (model prog w) A (assign target env v) (λ_ s₂ =>
     wpAny (model prog w) A (forIn ifs true λc r=>if r=true then do let ok <-isTrue c env (eval c env);pure (ForInStep.yield ok) else pure (ForInStep.yield r)) (λok s₃ =>
      if ok=true then wpAny (model prog w) A (eval elt env) (λx s₄ =>
       wpAny (model prog w) A (call (.builtin "list.append") [acc,x]) (λ_ s₅=>∃m,m<n/\I m s₅) (λ_ _=>False) s₄) (λ_ _=>False) s₃
      else ∃m,m<n/\I m s₃) (λ_ _=>False) s₂) (λ_ _=>False) s1') (λ_ _=>False) s₁) (λ_ _=>False) s)(n:Nat)(h:I n s):codeAny (model prog w) A (.compLoop (.ListComp elt [⟨target,iter,ifs,0⟩] scope pos) 0 it acc env) R s:=by
 refine codeAny_loop rfl I (λn s hI=>?_) n h
 show wpAny _ A ((compTurn (.ListComp elt [⟨target,iter,ifs,0⟩] scope pos) 0 it acc env).onRaise (λx=>do noteFrame x env;theTreesLotGoes x)) _ _ s
 refine wpAny_noted ?_
 rw[compTurn_list]
 refine Ua (wpAny_standAt (Ua (U3 (turn n s hI) (λr s₁ h₁=>?_) λ_ _ h'=>h'.elim)))
 cases r with
 |none=>exact Uj h₁
 |some v =>
  refine Ua (U3 h₁ (λ_ s1' h1'=>?_) λ_ _ h'=>h'.elim)
  refine Ua (U3 h1' (λ_ s₂ h₂=>Ua (U3 h₂ (λok s₃ h₃=>?_) λ_ _ h'=>h'.elim)) λ_ _ h'=>h'.elim)
  cases ok with
  |false=>exact Uj ⟨rfl,h₃⟩
  |true =>
   exact Ua (Ua (U3 h₃ (λx s₄ h₄=>Ua (U3 h₄ (λ_ s₅ h₅=>Uj (Uj ⟨rfl,h₅⟩)) λ_ _ h'=>h'.elim)) λ_ _ h'=>h'.elim))
theorem Inv.track{X:Cx}{pins:List (Addr×Obj)}{σ:L2.St}{H:Hp}{s:Shared}{a:Addr}{o:HO}(I:Inv X pins σ H s)(ha:FpOk X pins H a)(new:ObjOk X.prog X.w (upd H a o) s.heap a o):Inv X pins σ (upd H a o) s:=by
 obtain⟨f0,f1,f2,f3,f4,f5⟩:=ha
 have ne:∀b u,H b=some u->b≠a:=λb u e=>Q3 e f0
 refine I.step (h':=s.heap) (g':=s.gens) (t':=s.toks) (d':=s.drawn) (ch:=[a]) (λb hb=>?_) (λb o _ _ _ e _=>e) (λb o _ _ _ e _=>⟨o.slots,e⟩) (λb o hb e n=>?_) (λb o _ e=>⟨o,e⟩)
  (λb xs e=>by rw[QF (ne b _ e)];exact e) (λb o u e=>by rw[QF (ne b _ e)];exact e) (λb ps e=>⟨#[],by rw[QF (ne b _ e),e];simp⟩) (λ_ h=>h) (λb u e=>?_) I.bare
 ·have e:b=a:=by simpa using hb
  subst e
  exact⟨f3,f1,f4,f5⟩
 ·rw[QF (λz=>hb (by simp[z]))];exact n
 ·by_cases hb:b=a
  ·subst hb;rw[Qr]at e;cases e;exact new
  ·rw[QF hb]at e
   exact(I.hok b u e).stay (λ_ _ _ q=>q) (λc q=>by rw[QF (ne c _ q)];exact q) λc xs q=>by rw[QF (ne c _ q)];exact q
theorem FpOk.mono{X:Cx}{pins:List (Addr×Obj)}{H H':Hp}{b:Addr}(h:FpOk X pins H b)(n:H' b=none):FpOk X pins H' b:=⟨n,h.2⟩
noncomputable abbrev F0:XS:=λ_ _ _=>False
theorem noX{α:Type}{M:Model}{A:Around}{X:Cx}{ca:Nat->Addr}{t:Sem α}{Q:α->Shared->Prop}{s:Shared}(h:wpAny M A t Q (XE X ca F0) s):wpAny M A t Q (λ_ _=>False) s:=U3 h (λ_ _ z=>z) λ_ _ ⟨_,_,_,_,_,_,_,z⟩=>z
noncomputable def PIf(ca:Nat->Addr)(X:Cx)(ifs:List Expr)(m:MT):Prop :=
 ∀(pins:List (Addr×Obj))(s:Shared)(σ:L2.St)(H:Hp)(Q:Bool->Hp->Prop),Inv (xat X ca [] F0) pins σ H s->upT X.K ca F0 m σ H Q ->
  wpAny (model X.prog X.w) X.A (forIn ifs true λc r=>if r=true then do let ok <-isTrue c X.env (eval c X.env);pure (ForInStep.yield ok) else pure (ForInStep.yield r)) (TP (xat X ca [] F0) pins σ Q) (λ_ _=>False) s
theorem QcF{X:Cx}{ca:Nat->Addr}:PIf ca X [] ZS:=by
 intro pins s σ H Q I ⟨_,_,μ,R,p⟩
 rw[RP]
 exact Uj ⟨H,I,p H μ .refl R.g⟩
theorem Qn1{X:Cx}{ca:Nat->Addr}{c:Expr}{m:MT}(h:PT3 ca X c m):PIf ca X [c] m:=by
 intro pins s σ H Q I q
 exact wpAny_tests_one (noX (h [] F0 pins s σ H Q I q))
section
variable{X:Cx}{ca:Nat->Addr}{pn:List (Addr×Obj)}
theorem QmV{scope:Scope}{Nb:List Str}{no:Nat}{cap:List Nat}{cl:List (Str×Addr)}{pins:List (Addr×Obj)}{σ:L2.St}{H:Hp}{s:Shared}{ex:List Addr}(B:BScope X scope Nb no cap)(hcl:clOf X.env.cells scope.names []=some cl)(I:Inv (xat X ca pn F0) pins σ H s)(hex:∀b∈ex,FpOk (xat X ca pn F0) pins H b)(hlt:∀b∈ex,b<s.heap.objs.size):(xat (blk X scope cl s.heap.objs.size Nb s H ex) ca [] F0).Ok where
 mod:=I.ok.mod
 kind:=B.kind
 glob:=I.ok.glob
 blt:=I.ok.blt
 above:=Ui _
 inj:=λx y c h1 h2=>I.ok.inj x y c (YW _ _ _ hcl (λ_ _ z=>by cases z) x c h1) (YW _ _ _ hcl (λ_ _ z=>by cases z) y c h2)
 has:=λx hx=>QbH _ _ _ hcl x (.inl (Qb0 (by
  rcases hx with hx|hx
  ·exact JR B.cell hx (.inl rfl)
  ·exact JR B.cell hx (.inr rfl))))
 cab:=λ_ _ z=>by cases z
 hd:=I.ok.hd
 frames:=I.ok.frames
 stk:=.inl rfl
 exf:=λb hb=>⟨UP (hlt b hb),λx c e z=>(hex b hb).2.2.2.2.1 x c (YW _ _ _ hcl (λ_ _ z=>by cases z) x c e) z⟩
 bs:=I.bs
 bsz:=Ur I.ok.bsz I.sz
 noex:=λb o e hb=>by
  rcases(hex b hb).2.2.2.1 with z|z
  ·exact I.ok.noex b o e z
  ·exact absurd (UC (Uk e) (Ur I.ok.bsz z)) (Tu _)
 exfs:=λb hb z=>by
  rcases Uu.mp (I.stkSub b z) with e|e
  ·exact(hex b hb).2.1 e
  ·exact(hex b hb).2.2.1 e
 funs:=I.stack
 frf:=I.stkFree
theorem Je{env:Env}:∀{names:List (Str×NameKind)}{x:Str},names.lookup x=some .free ->
  (names.map λ(n,k)=>if (k == NameKind.free && env.scope.kind == .function && env.kindOf n == some .cell) then (n,NameKind.cell) else (n,k)).lookup x=some .local->False
 |[],_,h,_=>by cases h
 | (n,k0)::r,x,h,h'=>by
  have ih:=@Je env r x
  rw[UJ]at h'
  dsimp only at h'
  by_cases hc:(k0 == NameKind.free && env.scope.kind == .function && env.kindOf n == some .cell)=true
  ·rw[Ue hc]at h'
   cases hx:x == n with
   |true=>simp only[List.lookup,hx]at h';cases h'
   |false=>simp only[List.lookup,hx]at h h';exact ih h h'
  ·rw[Uh hc]at h'
   cases hx:x == n with
   |true=>simp only[List.lookup,hx]at h h';rw[h']at h;cases h
   |false=>simp only[List.lookup,hx]at h h';exact ih h h'
theorem QjH{K:Frag}{ca:Nat->Addr}{μ2:List Addr}{σ3:S3}{g1:G}{σ:L2.St}{H2:Hp}(no:Nat)(cap:List Nat)(R2:Rep K ca μ2 σ3 g1 σ H2):Rep K ca μ2 (capt no cap σ3) g1 (List.replicate no none++cap.map λi=>(σ[i]?).getD none) H2:=by
 refine⟨R2.g,?_,λi d h=>?_⟩
 ·unfold capt
  rw[Um,Um,U1,U1,Uc,Uc]
 ·unfold capt at h
  have hi:no<=i:=by
   apply TR
   intro hlt
   rw[Ut (by simpa using hlt),TM,Ue hlt]at h
   cases h
  rw[Ux (by simpa using hi),U1,Uy]at h ⊢
  cases hcp:cap[i-no]? with
  |none=>rw[hcp]at h;cases h
  |some j =>
   rw[hcp]at h
   have h:(σ3[j]?).getD none=some d:=by simpa using h
   have hs:σ3[j]?=some (some d):=by
    cases z:σ3[j]? with
    |none=>rw[z]at h;cases h
    |some w=>rw[z]at h;have h:w=some d:=h;rw[h]
   obtain⟨v,h1,h2⟩:=R2.st j d hs
   exact⟨v,by simp[h1],h2⟩
theorem Qet{tg iter elt:Expr}{ifs:List Expr}{scope:Scope}{pos:Pos}{Nb:List Str}{no:Nat}{cap:List Nat}{cl:List (Str×Addr)}{f:MG}{tc:MT}{me:ME}{src:Src}{pins:List (Addr×Obj)}{σ:L2.St}{σ3:S3}{H2:Hp}{s2:Shared}{μ2:List Addr}{g1 g2:G}{ds:List D}{it:Addr}{fp:List Addr}{tn:Nat->Heap->Prop}{J:It}{RR:Value->Addr->Result->Shared->Prop}{E:Value->Shared->Prop}(B:BScope X scope Nb no cap)(hc:X.calm=true)(hb:∀cl C s3 H3 ex,PG3 ca (blk X scope cl C Nb s3 H3 ex) tg f/\PIf ca (blk X scope cl C Nb s3 H3 ex) ifs tc/\PE3 ca (blk X scope cl C Nb s3 H3 ex) elt me)(hcl:clOf X.env.cells scope.names []=some cl)(I2:Inv (xat X ca pn F0) pins σ H2 s2)(T:Turn X.prog X.w X.K tg J fp it tn)(st2:tn 0 s2.heap)(f2:∀b∈fp,FpOk (xat X ca pn F0) pins H2 b)(R2:Rep X.K ca μ2 σ3 g1 σ H2)(sim:Sim X.K ca μ2 H2 src J)(hz:src.top<=SZ)(hL:Y7 src f tc me (src.top+1) 0 (capt no cap σ3) g1 []=.ok ds g2)(fin:∀(D C:Addr) (s':Shared) (H4:Hp) (μ4:List Addr) (accV:List V) (its:List Value) (k:Nat),Inv (xat X ca pn F0) pins σ H4 s'->(∃m,s'.heap.Ns C m)->FpOk (xat X ca pn F0) pins H4 C->FpOk (xat X ca pn F0) pins H4 D->D≠C ->
   s'.heap.get? D=some {cls:=.type "list",data:=.seq its.toArray k}->Vals accV its->accV.length<=sizeLine->Ext X.K μ2 H2 μ4 H4->GRep X.K ca μ4 H4 g2->Dens X.K μ4 H4 accV ds->RR (.ref D) C (.ok .next) s'):
  wpAny (model X.prog X.w) X.A (newList []) (λacc s₃=>wpAny (model X.prog X.w) X.A (newFunctionEnv scope X.env.globals cl [] X.env.qual none .none (some X.env)) (λcenv s₄ =>
   codeAny (model X.prog X.w) X.A (.compStart (.ListComp elt [⟨tg,iter,ifs,0⟩] scope pos) 0 (.ref it) acc {cenv with scope:=relabel scope X.env}) (RR acc cenv.locals) s₄) E s₃) E s2:=by
 refine Tf (wpAny_newFunctionEnv B.cell (by intro y hy;simp at hy) (λh₁ hns₁ hsb₁=>?_) B.kind)
 dsimp only at hns₁ hsb₁ ⊢
 generalize hH2:s2.heap.push {cls:=.type "list",dict:=none,data:=.seq ([]:List Value).toArray}=hp at hns₁ hsb₁ ⊢
 have hC:hp.objs.size=s2.heap.objs.size+1:=by rw[<-hH2,Ti]
 have I3:Inv (xat X ca pn F0) pins σ H2 {s2 with heap:=hp}:=by rw[<-hH2];exact I2.kept (t':=s2.toks) λb o e=>Ub _ e
 have hD3:hp.get? s2.heap.objs.size=some {cls:=.type "list",data:=.seq ([]:List Value).toArray}:=by rw[<-hH2];exact Us _ rfl
 have fD:FpOk (xat X ca pn F0) pins H2 s2.heap.objs.size:=I2.fpOk (Ui _) (I2.hok.fresh (Ui _))
 have fC:FpOk (xat X ca pn F0) pins H2 hp.objs.size:=I3.fpOk (Ui _) (I3.hok.fresh (Ui _))
 have fplt:∀b∈fp,b<s2.heap.objs.size:=λb hb=>by
  obtain⟨o,e,_⟩:=T.obj 0 _ st2 b hb
  exact Uk e
 have DnF:s2.heap.objs.size∉fp:=λh=>Tu _ (fplt _ h)
 have DnC:s2.heap.objs.size≠hp.objs.size:=by rw[hC];exact UP (Td _)
 have exOk:∀b∈s2.heap.objs.size::fp,FpOk (xat X ca pn F0) pins H2 b:=λb hb=>by
  rcases Uu.mp hb with e|e
  ·rw[e];exact fD
  ·exact f2 b e
 have exLt:∀b∈s2.heap.objs.size::fp,b<hp.objs.size:=λb hb=>by
  rcases Uu.mp hb with e|e
  ·rw[e,hC];exact Td _
  ·rw[hC];exact Nat.lt_succ_of_lt (fplt b e)
 have okb:(xat (blk X scope cl hp.objs.size Nb {s2 with heap:=hp} H2 (s2.heap.objs.size::fp)) ca [] F0).Ok:=QmV (s:={s2 with heap:=hp}) B hcl I3 exOk exLt
 obtain⟨hgB,hiB,heB⟩:=hb cl hp.objs.size {s2 with heap:=hp} H2 (s2.heap.objs.size::fp)
 have old:∀b o,hp.get? b=some o->h₁.get? b=some o:=λb o e=>hsb₁.extBut b o (UP (Uk e)) (Ub _ e)
 -- the block's first state
 have Ib:Inv (xat (blk X scope cl hp.objs.size Nb {s2 with heap:=hp} H2 (s2.heap.objs.size::fp)) ca [] F0) [] (List.replicate no none++cap.map λi=>(σ[i]?).getD none) H2 {s2 with heap:=h₁,toks:=s2.toks+([]:List (Str×Value)).length}:=by
  refine⟨okb,rfl,I3.bare,Un.kept old,⟨_,hns₁,λi x v h1 h2 h3=>?_⟩,λx c e=>?_,fC.1,λx c e=>?_,λp hp=>absurd (show p∈([]:List (Addr×Obj)) from hp) (by simp),I3.hok.kept old,?_⟩
  ·have hi:no<=i:=by
    apply TR
    intro hlt
    rw[Ut (by simpa using hlt),TM,Ue hlt]at h2
    cases h2
   rw[Ux (by simpa using hi),U1,Uy]at h2
   cases hcp:cap[i-no]? with
   |none=>rw[hcp]at h2;cases h2
   |some j =>
    rw[hcp]at h2
    have h2:(σ[j]?).getD none=some v:=by simpa using h2
    have hs:σ[j]?=some (some v):=by
     cases z:σ[j]? with
     |none=>rw[z]at h2;cases h2
     |some w=>rw[z]at h2;have h2:w=some v:=h2;rw[h2]
    obtain⟨y,n1,n2,n3,n4,n5⟩:=B.cap (i-no) j hcp
    have e0:no+(i-no)=i:=by omega
    rw[e0]at n1
    have h1:Nb[i]?=some x:=h1
    have hxy:y=x:=Option.some.inj (n1.symm.trans h1)
    subst hxy
    obtain⟨m,hn,hl⟩:=I3.loc
    obtain⟨u,ru,lk⟩:=hl j y v n2 hs n4
    refine⟨u,ru,.inr ⟨?_,?_⟩⟩
    ·rcases h3 with z|z|z
     ·exact(Je n3 z).elim
     ·exact .inl z
     ·exact .inr z
    ·rcases lk with⟨k1,_⟩|⟨_,c,k2,k3⟩
     ·exact absurd k1 n5
     ·obtain⟨c',hc'⟩:=QbH _ _ _ hcl y (.inl (Qb0 n3))
      have:=YW _ _ _ hcl (λ_ _ z=>by cases z) y c' hc'
      have k2:X.env.cells.lookup y=some c:=k2
      have hcc:c'=c:=Option.some.inj (this.symm.trans k2)
      subst hcc
      exact⟨c',hc',k3.keeps old⟩
  ·obtain⟨v,z⟩:=I3.cell x c (YW _ _ _ hcl (λ_ _ z=>by cases z) x c e)
   exact⟨v,z.keeps old⟩
  ·exact I3.freeC x c (YW _ _ _ hcl (λ_ _ z=>by cases z) x c e)
  ·rw[Um,U1,Uc];exact B.len.symm
 have RbR:=QjH no cap R2
 have eK:(xat (blk X scope cl hp.objs.size Nb {s2 with heap:=hp} H2 (s2.heap.objs.size::fp)) ca [] F0).K=X.K:=rfl
 have eP:(xat (blk X scope cl hp.objs.size Nb {s2 with heap:=hp} H2 (s2.heap.objs.size::fp)) ca [] F0).prog=X.prog:=rfl
 have eW:(xat (blk X scope cl hp.objs.size Nb {s2 with heap:=hp} H2 (s2.heap.objs.size::fp)) ca [] F0).w=X.w:=rfl
 have eA:(xat (blk X scope cl hp.objs.size Nb {s2 with heap:=hp} H2 (s2.heap.objs.size::fp)) ca [] F0).A=X.A:=rfl
 have eE:(xat (blk X scope cl hp.objs.size Nb {s2 with heap:=hp} H2 (s2.heap.objs.size::fp)) ca [] F0).env=compEnvC scope cl hp.objs.size X.env:=rfl
 have eC:(xat (blk X scope cl hp.objs.size Nb {s2 with heap:=hp} H2 (s2.heap.objs.size::fp)) ca [] F0).calm=true:=hc
 have eX:∀b∈s2.heap.objs.size::fp,b∈(xat (blk X scope cl hp.objs.size Nb {s2 with heap:=hp} H2 (s2.heap.objs.size::fp)) ca [] F0).ex:=λb hb=>hb
 have eN:∀{pl:List (Addr×Obj)}{p:Addr×Obj},p∈(xat (blk X scope cl hp.objs.size Nb {s2 with heap:=hp} H2 (s2.heap.objs.size::fp)) ca [] F0).pn++pl->p∈pl:=λh=>h
 have toUn:∀{pl:List (Addr×Obj)}{σ':L2.St}{H':Hp}{s':Shared},Inv (xat (blk X scope cl hp.objs.size Nb {s2 with heap:=hp} H2 (s2.heap.objs.size::fp)) ca [] F0) pl σ' H' s'->Un (frs (xat X ca pn F0).stack) (s2.heap.objs.size::fp) H2 H' hp s'.heap:=λI=>I.base
 have toOs:∀{pl:List (Addr×Obj)}{σ':L2.St}{H':Hp}{s':Shared},Inv (xat (blk X scope cl hp.objs.size Nb {s2 with heap:=hp} H2 (s2.heap.objs.size::fp)) ca [] F0) pl σ' H' s'->s'.os=s2.os:=λI=>I.os
 generalize blk X scope cl hp.objs.size Nb {s2 with heap:=hp} H2 (s2.heap.objs.size::fp)=Xb at okb hgB hiB heB Ib eK eP eW eA eE eC eX eN toUn toOs
 -- the iterator's records,through the block
 have FpB:∀{H:Hp}{pl:List (Addr×Obj)},(∀b∈fp,H b=none)->(∀p∈pl,p.1∉fp)->∀b∈fp,FpOk (xat Xb ca [] F0) pl H b:=λ{H pl} hn hpl b hb=>by
  have e0:=okb.exf b (eX b (Uv _ hb))
  refine⟨hn b hb,e0.1,?_,.inl (eX b (Uv _ hb)),e0.2,λp hp z=>?_⟩
  ·exact okb.exfs b (eX b (Uv _ hb))
  ·have hp':p∈pl:=eN hp
   exact hpl p hp' (z ▸ hb)
 have FpD:∀{H:Hp},H s2.heap.objs.size=none->FpOk (xat Xb ca [] F0) [] H s2.heap.objs.size:=λ{H} hn=>by
  have e0:=okb.exf s2.heap.objs.size (eX _ UG)
  refine⟨hn,e0.1,?_,.inl (eX _ UG),e0.2,λp hp=>?_⟩
  ·exact okb.exfs s2.heap.objs.size (eX _ UG)
  ·exact absurd (eN hp) (by simp)
 have st4:tn 0 h₁:=T.keep _ _ _ st2 λb hb o e=>old b o (by rw[<-hH2];exact Ub _ e)
 -- the invariant
 have loop:∀s4:Shared,s4 = {s2 with heap:=h₁,toks:=s2.toks+([]:List (Str×Value)).length} ->
   codeAny (model X.prog X.w) X.A (.compLoop (.ListComp elt [⟨tg,iter,ifs,0⟩] scope pos) 0 (.ref it) (.ref s2.heap.objs.size) (compEnvC scope cl hp.objs.size X.env)) (RR (.ref s2.heap.objs.size) hp.objs.size) s4:=by
  rintro s4 rfl
  refine Qes (λn s'=>∃(i:Nat)(σ4:S3)(g4:G)(μ4:List Addr)(σ5:L2.St)(H4:Hp)(acc:List D)(accV:List V)(its:List Value)(k:Nat),Inv (xat Xb ca [] F0) [] σ5 H4 s'/\tn i s'.heap/\(∀b∈fp,H4 b=none)/\H4 s2.heap.objs.size=none /\
   s'.heap.get? s2.heap.objs.size=some {cls:=.type "list",data:=.seq its.toArray k}/\Vals accV its/\Ext X.K μ2 H2 μ4 H4/\Rep X.K ca μ4 σ4 g4 σ5 H4/\Dens X.K μ4 H4 accV acc/\Y7 src f tc me n i σ4 g4 acc=.ok ds g2 /\
   acc.length<=i/\i+n<=SZ+1) ?_ (src.top+1) ⟨0,capt no cap σ3,g1,μ2,_,H2,[],[],[],_,Ib,st4,λb hb=>(f2 b hb).1,fD.1,old _ _ hD3,.nil,.refl,RbR,.nil,hL,Ui _,by omega⟩
  rintro n s5 ⟨i,σ4,g4,μ4,σ5,H4,acc,accV,its,k,I5,st5,fr5,frD,hD5,va,e5,R5,da,hl5,ha5,hn5⟩
  cases n with
  |zero=>cases hl5
  |succ n =>
   unfold Y7 at hl5
   have s1:=sim i H4 μ4 g4 e5 R5.g
   have pinD:Inv (xat Xb ca [] F0) [(s2.heap.objs.size,{cls:=.type "list",data:=.seq its.toArray k})] σ5 H4 s5:=I5.pins_of λp hp=>by
    rw[Up.mp hp]
    have z:=FpD frD
    exact⟨hD5,frD,z.2.1,z.2.2.1,λv q=>by cases q⟩
   have nofp:∀p∈[(s2.heap.objs.size,({cls:=.type "list",data:=.seq its.toArray k}:Obj))],p.1∉fp:=λp hp=>by rw[Up.mp hp];exact DnF
   have getD:∀{σ':L2.St}{H':Hp}{s':Shared}{pl:List (Addr×Obj)},Inv (xat Xb ca [] F0) ([(s2.heap.objs.size,({cls:=.type "list",data:=.seq its.toArray k}:Obj))]++pl) σ' H' s'->s'.heap.get? s2.heap.objs.size=some {cls:=.type "list",data:=.seq its.toArray k}/\H' s2.heap.objs.size=none:=λ{σ' H' s' pl} I'=>by
    have z:=I'.pin (s2.heap.objs.size,{cls:=.type "list",data:=.seq its.toArray k}) (UA _ (Ta _ (Up.mpr rfl)))
    exact⟨z.1,z.2.1⟩
   cases hat:src.at' g4 i with
   |none=>rw[hat]at hl5;cases hl5
   |some od =>
    rw[hat]at hl5 s1
    cases od with
    |none =>
     cases hl5
     have dn:=T.done (xat Xb ca [] F0) eP eW eK eC i _ s5 σ5 H4 (λ_ _=>False) pinD (FpB fr5 nofp) st5 s1
     rw[eA]at dn
     refine thn dn λr s6 ⟨hr,I6⟩=>?_
     subst hr
     obtain⟨hD6,frD6⟩:=getD (pl:=[]) (by rw[UW];exact I6)
     have un:Un (frs (xat X ca pn F0).stack) (s2.heap.objs.size::fp) H2 H4 hp s6.heap:=toUn I6
     have hok:HOk (xat X ca pn F0).prog (xat X ca pn F0).w H4 s6.heap:=by have:=I6.hok;rw[eP,eW]at this;exact this
     have os:s6.os=s2.os:=toOs I6
     have I7:Inv (xat X ca pn F0) pins σ H4 s6:=Inv.call' (s':=s6) (ch:=s2.heap.objs.size::fp) I3 os un hok I6.bare λb hb=>⟨(exOk b hb).2.2.2.1,(exOk b hb).2.1,(exOk b hb).2.2.2.2.1,(exOk b hb).2.2.2.2.2⟩
     have hCn:H4 hp.objs.size=none:=by have:=I6.free;rw[eE]at this;exact this
     have nsC:∃m,s6.heap.Ns hp.objs.size m:=by obtain⟨m,hm,_⟩:=I6.loc;rw[eE]at hm;exact⟨m,hm⟩
     refine fin _ _ s6 H4 μ4 accV its k I7 nsC (FpOk.mono fC hCn) (FpOk.mono fD frD6) DnC hD6 va ?_ e5 R5.g da
     rw[da.length]
     have:=YK
     omega
    |some d =>
     obtain⟨go,yl⟩:=s1
     dsimp only at hl5
     cases hf:f d σ4 with
     |none=>rw[hf]at hl5;cases hl5
     |some σ6 =>
      rw[hf]at hl5
      dsimp only at hl5
      have im:=T.item (xat Xb ca [] F0) eP eW eK eC i _ s5 σ5 H4 (λ_ _=>False) pinD (FpB fr5 nofp) st5 go
      rw[eA]at im
      refine thn im λr s6 ⟨u,hr,h6⟩=>?_
      subst hr
      refine thn h6 λ_ s7 ⟨x,H7,I7,r7,y7,st7,fr7⟩=>?_
      obtain⟨e7,g7,q7⟩:=yl x H7 y7
      have I7':=I7.pinned (FpB fr7 nofp) (T.obj _ _ st7)
      have R7:=R5.go e7 g7
      have asg:=hgB [] F0 _ s7 σ5 H7 x u (λσ' H'=>H'=H7/\Rep X.K ca μ4 σ6 g4 σ' H7) I7' r7 (by
       have:Xb.K=X.K:=eK
       rw[this]
       exact⟨σ4,g4,μ4,d,σ6,R7,q7,hf,λσ' R'=>⟨rfl,R'⟩⟩)
      rw[eP,eW,eA,eE]at asg
      refine thn (noX asg) λ_ s8 ⟨σ8,H8,I8,e8,R8⟩=>?_
      subst e8
      cases ht:tc σ6 g4 with
      |raise _ _=>rw[ht]at hl5;cases hl5
      |stuck=>rw[ht]at hl5;cases hl5
      |ok b g9 =>
       rw[ht]at hl5
       have hl5:(if b=true then (match me σ6 g9 with | .ok y g2=>Y7 src f tc me n (i+1) σ6 g2 (acc++[y])|_=>.stuck) else Y7 src f tc me n (i+1) σ6 g9 acc)=.ok ds g2:=hl5
       have tst:=hiB _ s8 σ8 _ (λb' H'=>b'=b/\∃μ9,Ext X.K μ4 H8 μ9 H'/\Rep X.K ca μ9 σ6 g9 σ8 H') I8 (by
        have:Xb.K=X.K:=eK
        rw[this]
        refine⟨σ6,g4,μ4,R8,?_⟩
        rw[ht]
        exact λH' μ' e' r'=>⟨rfl,μ',e',R8.go e' r'⟩)
       have eP':Xb.prog=X.prog:=eP
       have eW':Xb.w=X.w:=eW
       have eA':Xb.A=X.A:=eA
       have eE':Xb.env=compEnvC scope cl hp.objs.size X.env:=eE
       rw[eP',eW',eA',eE']at tst
       refine thn tst λok s9 ⟨H9,I9,eb,μ9,e9,R9⟩=>?_
       subst eb
       have again:∀{σ':L2.St}{H':Hp}{s':Shared},Inv (xat Xb ca [] F0) ([(s2.heap.objs.size,({cls:=.type "list",data:=.seq its.toArray k}:Obj))]++Qd9 fp s7.heap) σ' H' s'->Inv (xat Xb ca [] F0) [] σ' H' s'/\tn (i+1) s'.heap/\∀b∈fp,H' b=none:=λ{σ' H' s'} I'=>by
        refine⟨I'.pins_of λp hp=>absurd hp (by simp),T.keep _ _ _ st7 λb hb o e=>(I'.pin (b,o) (UA _ (UA _ (Qac hb e)))).1,λb hb=>?_⟩
        obtain⟨o,e,_⟩:=T.obj _ _ st7 b hb
        exact(I'.pin (b,o) (UA _ (UA _ (Qac hb e)))).2.1
       cases ok with
       |false =>
        rw[Uh Uf]at hl5 ⊢
        obtain⟨J1,J2,J3⟩:=again I9
        obtain⟨K1,K2⟩:=getD I9
        refine⟨n,Td n,i+1,σ6,g9,μ9,σ8,H9,acc,accV,its,k,J1,J2,J3,K2,K1,va,(e5.trans e7).trans e9,R9,(da.mono e7).mono e9,hl5,by omega,by omega⟩
       |true =>
        rw[Ue rfl]at hl5 ⊢
        cases hm:me σ6 g9 with
        |raise _ _=>rw[hm]at hl5;cases hl5
        |stuck=>rw[hm]at hl5;cases hl5
        |ok y g10 =>
         rw[hm]at hl5
         have hl5:Y7 src f tc me n (i+1) σ6 g10 (acc++[y])=.ok ds g2:=hl5
         have el:=heB [] F0 _ s9 σ8 H9 (λvy H'=>∃μ10,Ext X.K μ9 H9 μ10 H'/\Rep X.K ca μ10 σ6 g10 σ8 H'/\Den X.K μ10 H' vy y) I9 (by
          have:Xb.K=X.K:=eK
          rw[this]
          refine⟨σ6,g9,μ9,R9,?_⟩
          rw[hm]
          exact λv H' μ' e' r' q'=>⟨μ',e',R9.go e' r',q'⟩)
         rw[eP,eW,eA,eE]at el
         refine thn (noX el) λuy s10 ⟨vy,H10,I10,ry,μ10,e10,R10,qy⟩=>?_
         obtain⟨K1,K2⟩:=getD I10
         obtain⟨J1,J2,J3⟩:=again I10
         have hlen:its.length=acc.length:=by rw[<-va.length,da.length]
         refine Rh F.slot_list_append ⟨_,K1,rfl⟩ F.entry_list_append (F.args_list_append_2 _ _) (PySem.list_append s2.heap.objs.size its.toArray k uy (by rw[Ug,Ri];have:SZ=1000000:=rfl;omega)) ⟨K1,?_⟩
         have up:=PySem.IsL.update K1 (·.push uy)
         rw[show its.toArray.push uy=(its++[uy]).toArray by simp]at up
         have upo:∀b o,b≠s2.heap.objs.size->s10.heap.get? b=some o->(s10.heap.update s2.heap.objs.size (Obj.mapSeq (·.push uy))).get? b=some o:=λb o hb e=>(U6 s10.heap (Obj.mapSeq (·.push uy)) (Ne.symm hb)).trans e
         obtain⟨d0,d1,d2,d3,d4,d5⟩:=FpD K2
         refine⟨n,Td n,i+1,σ6,g10,μ10,σ8,H10,acc++[y],accV++[vy],its++[uy],_,J1.turned (t':=s10.toks) upo d0 d1 d3 d4 d5,T.keep _ _ _ J2 λb hb o e=>upo b o (λz=>DnF (z ▸ hb)) e,J3,K2,up,va.append (.cons ry .nil),
          ((e5.trans e7).trans e9).trans e10,R10,((da.mono e7).mono e9).mono e10 |>.append (.cons qy .nil),hl5,by rw[Um,Wv];omega,by omega⟩
 exact codeAny_compStart_list (loop _ rfl) (T.self _ 0 _ _ _ st4 (loop _ rfl))
end
section
variable{X:Cx}{ca:Nat->Addr}
theorem QjI{K:Frag}{Φ:XS}{σ:L2.St}{Q:VK}{H:Hp}{μ:List Addr}{mi:MI}{no:Nat}{cap:List Nat}{f:MG}{tc:MT}{me:ME}{σ3:S3}{g:G}(p:Post K ca Φ σ Q H μ (Yf mi no cap f tc me σ3 g)):
  ∃src g1 ds g2,mi σ3 g=.ok src g1/\src.top<=SZ/\Y7 src f tc me (src.top+1) 0 (capt no cap σ3) g1 []=.ok ds g2/\Post K ca Φ σ Q H μ (.ok (.ref g2.length) (g2++[.lst ds])):=by
 unfold Yf at p
 cases hm:mi σ3 g with
 |raise _ _=>rw[hm]at p;exact p.elim
 |stuck=>rw[hm]at p;exact p.elim
 |ok src g1 =>
  rw[hm]at p
  dsimp only at p
  by_cases hz:src.top<=SZ
  ·rw[Ue hz]at p
   cases hL:Y7 src f tc me (src.top+1) 0 (capt no cap σ3) g1 []with
   |raise _ _=>rw[hL]at p;exact p.elim
   |stuck=>rw[hL]at p;exact p.elim
   |ok ds g2=>rw[hL]at p;exact⟨src,g1,ds,g2,rfl,hz,hL,p⟩
  ·rw[Uh hz]at p;exact p.elim
theorem Qaw{tg iter elt:Expr}{ifs:List Expr}{scope:Scope}{pos:Pos}{Nb:List Str}{no:Nat}{cap:List Nat}{mi:MI}{f:MG}{tc:MT}{me:ME}(B:BScope X scope Nb no cap)(hc:X.calm=true)(hi:PI3 ca X tg iter mi)(hb:∀cl C s3 H3 ex,PG3 ca (blk X scope cl C Nb s3 H3 ex) tg f/\PIf ca (blk X scope cl C Nb s3 H3 ex) ifs tc/\PE3 ca (blk X scope cl C Nb s3 H3 ex) elt me)(hs:∀x,foldedSetIterable iter X.env x=pure x:=by intro _;rfl):PE3 ca X (.ListComp elt [⟨tg,iter,ifs,0⟩] scope pos) (Yf mi no cap f tc me):=by
 intro pn Φ pins s σ H Q I' ⟨σ3,g,μ,R,p⟩
 obtain⟨src,g1,ds,g2,hm,hz,hL,p⟩:=QjI p
 have I:Inv (xat X ca pn F0) pins σ H s:=Inv.wish I' _
 suffices hh:wpAny (model X.prog X.w) X.A (eval (.ListComp elt [⟨tg,iter,ifs,0⟩] scope pos) X.env) (EP (xat X ca pn F0) pins σ Q) (λ_ _=>False) s from
  U3 hh (λu s' ⟨v,H',J,r,q⟩=>⟨v,H',Inv.wish J _,r,q⟩) λ_ _ z=>z.elim
 obtain⟨cl,hcl⟩:=QaQ (cells:=X.env.cells) scope.names [] λy hy hf=>I.ok.has y.1 (B.free y hy hf)
 rw[eval_ListComp]
 refine wpAny_comprehension_free (env:=X.env) (use:=none) rfl hs (QaP hcl) B.kind B.loc ?_
 refine thn (noX (hi pn F0 pins s σ H (λJ H'=>∃μ',Ext X.K μ H μ' H'/\GRep X.K ca μ' H' g1/\Sim X.K ca μ' H' src J) I ⟨σ3,g,μ,R,?_⟩)) λv s1 h1=>thn (noX h1) λitv s2 h2=>?_
 ·rw[hm]
  exact λJ H' μ' e r sm=>⟨μ',e,r,sm⟩
 ·obtain⟨it,fp,tn,J,H2,e,I2,T,st2,f2,μ2,e2,r2,sim⟩:=h2
  subst e
  refine Qet (X:=X) (pn:=pn) (RR:=λacc C=>compPost (model X.prog X.w) X.A (λ_ _=>False) none (EP (xat X ca pn F0) pins σ Q) acc C) B hc hb hcl I2 T st2 f2 (R.go e2 r2) sim hz hL ?_
  intro D C s' H4 μ4 accV its k I4 nsC fC fD dc hD va hl e4 r4 da
  obtain⟨m,nsC⟩:=nsC
  refine⟨m,nsC,λh'' hs''=>?_⟩
  have I5:Inv (xat X ca pn F0) pins σ H4 {s' with heap:=h''}:=I4.turned (t':=s'.toks) (λb o hb e=>hs''.extBut b o hb e) fC.1 fC.2.1 fC.2.2.2.1 fC.2.2.2.2.1 fC.2.2.2.2.2
  have hD':=hs''.extBut _ _ dc hD
  have I6:=Inv.track (o:=.lst accV) I5 fD ⟨hl,its,k,va,hD'⟩
  refine⟨.ref D,_,I6,rfl,p _ _ (μ4++[D]) ((e2.trans e4).trans (QS fD.1)) (r4.push fD.1 ⟨accV,Qr,da.mono (QS fD.1)⟩) (.ref ?_)⟩
  rw[<-r4.len];simp
theorem QhQ(i:Nat){x:Str}{py spos:Pos}{tg iter elt:Expr}{ifs:List Expr}{scope:Scope}{pos:Pos}{Nb:List Str}{no:Nat}{cap:List Nat}{mi:MI}{f:MG}{tc:MT}{me:ME}(hN:X.N.Nodup)(B:BScope X scope Nb no cap)(hc:X.calm=true)(hi:PI3 ca X tg iter mi)(hb:∀cl C s3 H3 ex,PG3 ca (blk X scope cl C Nb s3 H3 ex) tg f/\PIf ca (blk X scope cl C Nb s3 H3 ex) ifs tc/\PE3 ca (blk X scope cl C Nb s3 H3 ex) elt me)(hs:∀x,foldedSetIterable iter X.env x=pure x:=by intro _;rfl)(hn:X.N[i]?=some x:=by rfl)(hx:Loc X.env.scope x:=by first|exact Or.inl rfl|exact Or.inr rfl)(hf:X.fn x=true\/X.env.scope.names.lookup x=some .local:=by first|exact .inl rfl|exact .inr rfl)(hsw:swapsWith (.ListComp elt [⟨tg,iter,ifs,0⟩] scope pos) (some (.Name x py)) spos.line X.env=pure true:=by rfl):
  PS3 ca X (.Assign [.Name x py] (.ListComp elt [⟨tg,iter,ifs,0⟩] scope pos) spos) (mAsg (gSet i) (Yf mi no cap f tc me)):=by
 intro pn Φ pins s σ H En I' ⟨σ3,g,μ,R,p⟩
 have pp:∃src g1 ds g2,mi σ3 g=.ok src g1/\src.top<=SZ/\Y7 src f tc me (src.top+1) 0 (capt no cap σ3) g1 []=.ok ds g2/\PostS X.K ca Φ En H μ (.nx (σ3.set i (some (.ref g2.length))) (g2++[.lst ds])):=by
  unfold mAsg Yf gSet at p
  cases hm:mi σ3 g with
  |raise _ _=>rw[hm]at p;exact p.elim
  |stuck=>rw[hm]at p;exact p.elim
  |ok src g1 =>
   rw[hm]at p
   dsimp only at p
   by_cases hz:src.top<=SZ
   ·rw[Ue hz]at p
    cases hL:Y7 src f tc me (src.top+1) 0 (capt no cap σ3) g1 []with
    |raise _ _=>rw[hL]at p;exact p.elim
    |stuck=>rw[hL]at p;exact p.elim
    |ok ds g2=>rw[hL]at p;exact⟨src,g1,ds,g2,rfl,hz,hL,p⟩
   ·rw[Uh hz]at p;exact p.elim
 obtain⟨src,g1,ds,g2,hm,hz,hL,p⟩:=pp
 have I:Inv (xat X ca pn F0) pins σ H s:=Inv.wish I' _
 suffices hh:wpAny (model X.prog X.w) X.A (exec (.Assign [.Name x py] (.ListComp elt [⟨tg,iter,ifs,0⟩] scope pos) spos) X.env) (SP (xat X ca pn F0) pins En) (λ_ _=>False) s from
  U3 hh (λu s' z=>SP.unwish (X:=xat X ca pn Φ) (E:=(xat X ca pn F0).xe) z) λ_ _ z=>z.elim
 obtain⟨cl,hcl⟩:=QaQ (cells:=X.env.cells) scope.names [] λy hy hf=>I.ok.has y.1 (B.free y hy hf)
 rw[exec_Assign_Name_used _ _ _ _ hsw]
 refine Ua (wpAny_standAt (Ua ?_))
 show wpAny _ _ (do let _ <-comprehension (.ListComp elt [⟨tg,iter,ifs,0⟩] scope pos) scope X.env _ (newList []) false (eval iter X.env) (some (assign (.Name x py) X.env))) _ _ s
 refine Ua (U3 (wpAny_comprehension_free (env:=X.env) (use:=some (assign (.Name x py) X.env)) (Q:=λ_ s'=>SP (xat X ca pn F0) pins En .next s') rfl hs (QaP hcl) B.kind B.loc ?_) (λ_ s' hq=>Uj (Uj hq)) λ_ _ e=>e)
 refine thn (noX (hi pn F0 pins s σ H (λJ H'=>∃μ',Ext X.K μ H μ' H'/\GRep X.K ca μ' H' g1/\Sim X.K ca μ' H' src J) I ⟨σ3,g,μ,R,?_⟩)) λv s1 h1=>thn (noX h1) λitv s2 h2=>?_
 ·rw[hm]
  exact λJ H' μ' e r sm=>⟨μ',e,r,sm⟩
 ·obtain⟨it,fp,tn,J,H2,e,I2,T,st2,f2,μ2,e2,r2,sim⟩:=h2
  subst e
  refine Qet (X:=X) (pn:=pn) (RR:=λacc C=>compPost (model X.prog X.w) X.A (λ_ _=>False) (some (assign (.Name x py) X.env)) (λ_ s'=>SP (xat X ca pn F0) pins En .next s') acc C) B hc hb hcl I2 T st2 f2 (R.go e2 r2) sim hz hL ?_
  intro D C s' H4 μ4 accV its k I4 nsC fC fD dc hD va hl e4 r4 da
  obtain⟨m,oC,es,ep,hoC,hdC,kk⟩:=nsC
  have I4':Inv (xat X ca pn F0) (pins++[(C,oC)]) σ H4 s':=I4.pins_of λq hq=>by
   rcases UB.mp hq with z|z
   ·exact I4.pin q (UA _ z)
   ·rw[Up.mp z]
    exact⟨hoC,fC.1,fC.2.1,fC.2.2.1,λv w=>by rw[show oC.data=_ from hdC]at w;cases w⟩
  have fD':FpOk (xat X ca pn F0) (pins++[(C,oC)]) H4 D:=⟨fD.1,fD.2.1,fD.2.2.1,fD.2.2.2.1,fD.2.2.2.2.1,λq hq=>by
   rcases UB.mp hq with z|z
   ·exact fD.2.2.2.2.2 q (Ta _ z)
   ·rcases UB.mp z with z|z
    ·exact fD.2.2.2.2.2 q (UA _ z)
    ·rw[Up.mp z];exact Ne.symm dc⟩
  have I6:=Inv.track (o:=.lst accV) I4' fD' ⟨hl,its,k,va,hD⟩
  show wpAny (model X.prog X.w) X.A (assign (.Name x py) X.env (.ref D)) _ _ s'
  refine wpAny_assign_Name (Qdi (X:=xat X ca pn F0) I6 hN hn hx (v:=.ref D) rfl (λs'' I7=>?_) hf)
  have pC:=I7.pin (C,oC) (UA _ (UA _ (Up.mpr rfl)))
  refine⟨m,⟨oC,es,ep,pC.1,hdC,kk⟩,λh'' hs''=>?_⟩
  have I8:Inv (xat X ca pn F0) pins (σ.set i (some (.ref D))) (upd H4 D (.lst accV)) {s'' with heap:=h''} :=
   (I7.pins_of (pins':=pins) λq hq=>I7.pin q (UA _ (Ta _ hq))).turned (t':=s''.toks) (λb o hb e=>hs''.extBut b o hb e) (by rw[QF (Ne.symm dc)];exact fC.1) fC.2.1 fC.2.2.2.1 fC.2.2.2.2.1 fC.2.2.2.2.2
  refine⟨_,_,I8,p _ _ (μ4++[D]) ((e2.trans e4).trans (QS fD.1)) (Rep.set ((R.go (e2.trans e4) r4).go (QS fD.1) (r4.push (o:=.lst accV) (u:=.lst ds) fD.1 ⟨accV,Qr,da.mono (QS fD.1)⟩)) (.ref ?_) i)⟩
  rw[<-r4.len];simp
end
section
variable{X:Cx}{ca:Nat->Addr}{a b:Expr}{ma mb:ME}{pos:Pos}
theorem QjJ:OpR X (binaryOp .Add) (λx y H Q=>∃a b ys,x=.ref a/\y=.ref b/\SqT X.K H a []/\SqT X.K H b ys/\Q (.ref b) H):=by
 intro pins s σ H x y v u Q I rx ry h
 obtain⟨a,b,ys,rfl,rfl,ha,hb,q⟩:=h
 cases rx
 cases ry
 obtain⟨us,r1,p1,_⟩:=I.tuple ha
 obtain⟨ts,r2,p2,_⟩:=I.tuple hb
 cases r1
 obtain⟨⟨cls,dd,data,sl⟩,ho,hc,n,hd⟩:=id p1
 obtain⟨⟨cls2,dd2,data2,sl2⟩,ho2,hc2,n2,hd2⟩:=id p2
 simp only at hc hd hc2 hd2
 subst hc hd hc2 hd2
 exact concat_meets ⟨_,ho,rfl⟩ ⟨_,ho2,rfl⟩ Wg seq_tuple_add Rj Rc (T8 _ _)
   (tuple_addW0 a b _ _ n n2 dd dd2 sl sl2 (by simp)) ⟨ho,ho2,⟨.ref b,H,I,rfl,q⟩⟩
theorem QjK{K:Frag}:Jo K ca (λx y H Q=>(((∃i j,x=.int i/\y=.int j/\Q (.int (i+j)) H)\/QmD K x y H Q)\/rCat x y H Q)\/(∃a b ys,x=.ref a/\y=.ref b/\SqT K H a []/\SqT K H b ys/\Q (.ref b) H)) pAdd:=by
 intro Φ σ H μ g x y dx dy Q r qx qy p
 unfold pAdd at p
 cases qx with
 |int i =>
  cases qy with
  |int j=>exact .inl (.inl (.inl ⟨i,j,rfl,rfl,p _ H μ .refl r (.int _)⟩))
  |_=>exact p.elim
 |@tup ax xs dsx hx hsx =>
  cases qy with
  |@tup ay ys dsy hy hsy =>
   dsimp only at p
   by_cases z:dsx.length+dsy.length<=SZ
   ·rw[Ue z]at p
    by_cases hx0:dsx=[]
    ·subst hx0
     cases hsx
     exact .inr ⟨ax,ay,ys,rfl,rfl,hx,hy,p _ H μ .refl r (.tup hy hsy)⟩
    ·refine .inl (.inl (.inr ⟨ax,ay,xs,ys,rfl,rfl,hx,hy,?_,by rw[hsx.length,hsy.length];exact Ur z YK,λe=>?_,λ_ t ht=>p _ _ μ (Zc ht) (r.new ht) (.tup (.of Qr) ((hsx.append hsy).mono (Zc ht)))⟩))
     ·rintro rfl
      cases hsx
      exact hx0 rfl
     ·subst e
      cases hsy
      rw[UW]at p
      exact p _ H μ .refl r (.tup hx hsx)
   ·rw[Uh z]at p;exact p.elim
  |_=>exact p.elim
 |@ref n an hn =>
  cases qy with
  |@ref m am hm =>
   dsimp only at p
   cases hg:g[n]? with
   |none=>rw[hg]at p;exact p.elim
   |some o =>
    cases hg2:g[m]? with
    |none=>rw[hg,hg2]at p;cases o <;> exact p.elim
    |some o2 =>
     rw[hg,hg2]at p
     obtain⟨a1,ha1,or1⟩:=r.addr hg
     obtain⟨a2,ha2,or2⟩:=r.addr hg2
     rw[hn]at ha1;cases ha1
     rw[hm]at ha2;cases ha2
     cases o with
     |lst xs =>
      cases o2 with
      |lst ys =>
       dsimp only at p
       obtain⟨vs,hH,q⟩:=or1
       obtain⟨ws,hH2,q2⟩:=or2
       by_cases z:xs.length+ys.length<=SZ
       ·rw[Ue z]at p
        refine .inl (.inr ⟨an,am,vs,ws,rfl,rfl,hH,hH2,by rw[q.length,q2.length];exact Ur z YK,λt ht=>p _ _ (μ++[t]) (QS ht) (r.push ht ⟨_,Qr,(q.append q2).mono (QS ht)⟩) (.ref ?_)⟩)
        rw[<-r.len];simp
       ·rw[Uh z]at p;exact p.elim
      |_=>exact p.elim
     |_=>cases o2 <;> exact p.elim
  |_=>exact p.elim
 |_=>cases qy <;> exact p.elim
theorem Zd(ha:PE3 ca X a ma)(hb:PE3 ca X b mb):PE3 ca X (.BinOp a .Add b pos) (mOp2 pAdd ma mb) :=
 QhH (λ_ _=>((op_add.or Qlf).or QmI).or QjJ) QjK ha hb
theorem QhR{K:Frag}{C:Int->Int->Prop}{h:Int->Int->V}{f:D->D->G->Res D}(hf:∀Φ σ i j g Q H μ,GRep K ca μ H g->Post K ca Φ σ Q H μ (f (.int i) (.int j) g)->C i j/\Q (h i j) H)(hn:∀Φ σ x y g Q H μ,Post K ca Φ σ Q H μ (f x y g)->∃i j,x=.int i/\y=.int j):Jo K ca (rI C h) f:=by
 intro Φ σ H μ g x y dx dy Q r qx qy p
 obtain⟨i,j,rfl,rfl⟩:=hn Φ σ dx dy g Q H μ p
 cases qx
 cases qy
 obtain⟨c,q⟩:=hf Φ σ i j g Q H μ r p
 exact⟨i,j,rfl,rfl,c,q⟩
theorem QfZ{K:Frag}{h:Int->Int->V}{f:D->D->G->Res D}(hf:∀Φ σ i j g Q H μ,GRep K ca μ H g->Post K ca Φ σ Q H μ (f (.int i) (.int j) g)->Q (h i j) H)(hn:∀Φ σ x y g Q H μ,Post K ca Φ σ Q H μ (f x y g)->∃i j,x=.int i/\y=.int j):Jo K ca (rI0 h) f:=by
 intro Φ σ H μ g x y dx dy Q r qx qy p
 obtain⟨i,j,rfl,rfl⟩:=hn Φ σ dx dy g Q H μ p
 cases qx
 cases qy
 exact⟨i,j,rfl,rfl,hf Φ σ i j g Q H μ r p⟩
theorem QbI{K:Frag}{f:D->D->G->Res D}(h:∀x y g,(∃i j,x=D.int i/\y=D.int j)\/f x y g=.stuck)(Φ:XS)(σ:L2.St)(x y:D)(g:G)(Q:VK)(H:Hp)(μ:List Addr)(p:Post K ca Φ σ Q H μ (f x y g)):∃i j,x=.int i/\y=.int j:=by
 rcases h x y g with z|z
 ·exact z
 ·rw[z]at p;exact p.elim
theorem Qdp(ha:PE3 ca X a ma)(hb:PE3 ca X b mb):PE3 ca X (.BinOp a .Sub b pos) (mOp2 pSub ma mb) :=
 QhH (λ_ _=>Qmp) (QfZ (λΦ σ i j g Q H μ r p=>p _ H μ .refl r (.int _)) (QbI λx y g=>by cases x <;> cases y <;> first|exact .inl ⟨_,_,rfl,rfl⟩|exact .inr rfl)) ha hb
theorem Yp(ha:PE3 ca X a ma)(hb:PE3 ca X b mb):PE3 ca X (.BinOp a .FloorDiv b pos) (mOp2 Q5 ma mb) :=
 QhH (λ_ _=>Qk5) (QhR (λΦ σ i j g Q H μ r p=>by
  unfold Q5 at p
  by_cases z:0<j/\j<1073741824
  ·dsimp only at p;rw[Ue z]at p;exact⟨z,p _ H μ .refl r (.int _)⟩
  ·dsimp only at p;rw[Uh z]at p;exact p.elim) (QbI λx y g=>by cases x <;> cases y <;> first|exact .inl ⟨_,_,rfl,rfl⟩|exact .inr rfl)) ha hb
theorem Yh(ha:PE3 ca X a ma)(hb:PE3 ca X b mb):PE3 ca X (.BinOp a .Mod b pos) (mOp2 pMod ma mb) :=
 QhH (λ_ _=>Qmq) (QhR (λΦ σ i j g Q H μ r p=>by
  unfold pMod at p
  by_cases z:0<j
  ·dsimp only at p;rw[Ue z]at p;exact⟨z,p _ H μ .refl r (.int _)⟩
  ·dsimp only at p;rw[Uh z]at p;exact p.elim) (QbI λx y g=>by cases x <;> cases y <;> first|exact .inl ⟨_,_,rfl,rfl⟩|exact .inr rfl)) ha hb
theorem Dens.rep{K:Frag}{μ:List Addr}{H:Hp}{vs:List V}{ds:List D}(h:Dens K μ H vs ds):∀k:Nat,Dens K μ H (List.replicate k vs).flatten (List.replicate k ds).flatten
 |0=>.nil
 |k+1=>by rw[Uw,Uw,UK,UK];exact h.append (Dens.rep h k)
theorem QjL{K:Frag}:Jo K ca (λx y H Q=>(∃i j,x=.int i/\y=.int j/\(cM i\/cM j)/\Q (.int (i*j)) H)\/QmJ K x y H Q) pMul:=by
 intro Φ σ H μ g x y dx dy Q r qx qy p
 unfold pMul at p
 cases qx with
 |int i =>
  cases qy with
  |int j =>
   dsimp only at p
   by_cases z:cM i\/cM j
   ·rw[Ue z]at p;exact .inl ⟨i,j,rfl,rfl,z,p _ H μ .refl r (.int _)⟩
   ·rw[Uh z]at p;exact p.elim
  |_=>exact p.elim
 |@tup ax xs ds hx hsx =>
  cases qy with
  |int k =>
   dsimp only at p
   by_cases z:(0<=k/\k<1073741824)/\ds.length*k.toNat<=SZ
   ·rw[Ue z]at p
    refine .inr ⟨ax,k,xs,rfl,rfl,hx,z.1.1,by omega,by rw[hsx.length];exact Ur z.2 YK,λe=>?_,λ_ _ t ht=>p _ _ μ (Zc ht) (r.new ht) (.tup (.of Qr) ((hsx.rep k.toNat).mono (Zc ht)))⟩
    have e2:(List.replicate k.toNat ds).flatten=ds:=by
     rcases e with e|e
     ·subst e;cases hsx;simp
     ·subst e;simp
    rw[e2]at p
    exact p _ H μ .refl r (.tup hx hsx)
   ·rw[Uh z]at p;exact p.elim
  |_=>exact p.elim
 |_=>cases qy <;> exact p.elim
theorem QcG(ha:PE3 ca X a ma)(hb:PE3 ca X b mb):PE3 ca X (.BinOp a .Mult b pos) (mOp2 pMul ma mb) :=
 QhH (λ_ _=>op_mul.or Qlk) QjL ha hb
theorem Qbz(ha:PE3 ca X a ma):PE3 ca X (.UnaryOp .USub a pos) (mOp1 pNeg ma) :=
 r_un (λ_ _=>Qmr) (λΦ σ H μ g x dx Q r qx p=>by
  cases qx with
  |int i=>exact⟨i,rfl,p _ H μ .refl r (.int _)⟩
  |_=>exact p.elim) ha
theorem YX{K:Frag}(r:Int->Int->Bool):Jo K ca (rI0 λi j=>.bl (r i j)) (pCmp r) :=
 QfZ (λΦ σ i j g Q H μ r p=>p _ H μ .refl r (.bl _)) (QbI λx y g=>by cases x <;> cases y <;> first|exact .inl ⟨_,_,rfl,rfl⟩|exact .inr rfl)
theorem r_gt(ha:PE3 ca X a ma)(hb:PE3 ca X b mb):PE3 ca X (.Compare a [.Gt] [b] pos) (mOp2 pGt ma mb):=QjD (λ_ _=>Qmu) (YX _) ha hb (JM b)
theorem r_ge(ha:PE3 ca X a ma)(hb:PE3 ca X b mb):PE3 ca X (.Compare a [.GtE] [b] pos) (mOp2 pGe ma mb):=QjD (λ_ _=>Qmv) (YX _) ha hb (JM b)
theorem QgH(ha:PE3 ca X a ma)(hb:PE3 ca X b mb):PT3 ca X (.Compare a [.Lt] [b] pos) (Qj (mOp2 pLt ma mb)):=Y9 (λ_ _=>Qms) (YX _) ha hb (JM b)
theorem Qn2(ha:PE3 ca X a ma)(hb:PE3 ca X b mb):PT3 ca X (.Compare a [.LtE] [b] pos) (Qj (mOp2 pLe ma mb)):=Y9 (λ_ _=>Qmt) (YX _) ha hb (JM b)
theorem QjM(ha:PE3 ca X a ma)(hb:PE3 ca X b mb):PT3 ca X (.Compare a [.Gt] [b] pos) (Qj (mOp2 pGt ma mb)):=Y9 (λ_ _=>Qmu) (YX _) ha hb (JM b)
theorem QmW(ha:PE3 ca X a ma)(hb:PE3 ca X b mb):PT3 ca X (.Compare a [.GtE] [b] pos) (Qj (mOp2 pGe ma mb)):=Y9 (λ_ _=>Qmv) (YX _) ha hb (JM b)
end
section
variable{X:Cx}{ca:Nat->Addr}{pins:List (Addr×Obj)}{σ:L2.St}{H:Hp}{s:Shared}{μ:List Addr}{g:G}
theorem QaR{eq:D->D->Option Bool}:∀(xs ys:List D)(b:Bool),eqGs eq xs ys=some b->∃e:Nat->Bool,(∀(j:Nat)(x y:D),xs[j]?=some x->ys[j]?=some y->eq x y=some (e j)) /\
  b=((List.range (min xs.length ys.length)).all e && (xs.length == ys.length))
 |[],[],b,h=>by cases h;exact⟨λ_=>true,λj x y h=>by simp at h,by simp⟩
 |[],_::ys,b,h=>by cases h;exact⟨λ_=>true,λj x y h=>by simp at h,by simp⟩
 |_::xs,[],b,h=>by cases h;exact⟨λ_=>true,λj x y _ h=>by simp at h,by simp⟩
 |x::xs,y::ys,b,h=>by
  unfold eqGs at h
  cases h1:eq x y with
  |none=>rw[h1]at h;cases h
  |some c =>
   cases h2:eqGs eq xs ys with
   |none=>rw[h1,h2]at h;cases h
   |some d =>
    rw[h1,h2]at h
    cases h
    obtain⟨e,e1,e2⟩:=QaR xs ys d h2
    refine⟨λj=>match j with|0=>c|j+1=>e j,λj x' y' hx hy=>?_,?_⟩
    ·cases j with
     |zero =>
      simp at hx hy
      subst hx hy
      exact h1
     |succ j =>
      simp at hx hy
      exact e1 j x' y' hx hy
    ·rw[UI,UI,Nat.add_min_add_right,List.range_succ_eq_map,Rs,List.all_map,e2]
     simp[RV,Bool.and_assoc]
theorem QbJ{A:Around}{eq:D->D->Option Bool}{vs ws:List V}{ds es:List D}{us ts:List Value}{e:Nat->Bool}(qv:Dens X.K μ H vs ds)(qw:Dens X.K μ H ws es)(rv:Vals vs us)(rw':Vals ws ts)(he:∀(j:Nat) (x y:D),ds[j]?=some x->es[j]?=some y->eq x y=some (e j))(ih:∀{v w:V} {d d':D} {u t:Value} {b:Bool},Den X.K μ H v d->Den X.K μ H w d'->RelV v u->RelV w t->eq d d'=some b->SeqAt.EqAt A s u t b):
  ∀(j:Nat)(h1:j<us.toArray.size)(h2:j<ts.toArray.size),SeqAt.EqAt A s us.toArray[j] ts.toArray[j] (e j):=by
 intro j h1 h2
 have l1:j<us.length:=by simpa using h1
 have l2:j<ts.length:=by simpa using h2
 have l3:j<vs.length:=by rw[rv.length];exact l1
 have l4:j<ws.length:=by rw[rw'.length];exact l2
 obtain⟨x,hx,qx⟩:=qv.getV (i:=j) (v:=vs[j]) (by simp[l3])
 obtain⟨y,hy,qy⟩:=qw.getV (i:=j) (v:=ws[j]) (by simp[l4])
 obtain⟨u,hu,ru⟩:=rv.get (i:=j) (x:=vs[j]) (by simp[l3])
 obtain⟨t,ht,rt⟩:=rw'.get (i:=j) (x:=ws[j]) (by simp[l4])
 have eu:us.toArray[j]=u:=by
  have:us[j]?=some us[j]:=by simp[l1]
  rw[this]at hu;simpa using hu
 have et:ts.toArray[j]=t:=by
  have:ts[j]?=some ts[j]:=by simp[l2]
  rw[this]at ht;simpa using ht
 rw[eu,et]
 exact ih qx qy ru rt (he j x y hx hy)
theorem QhS{A:Around}{eq:D->D->Option Bool}{a c:Addr}{vs ws:List V}{ds es:List D}{b:Bool}(hu:A.units<cLine)(I:Inv X pins σ H s)(h1:SqT X.K H a vs)(q1:Dens X.K μ H vs ds)(h2:SqT X.K H c ws)(q2:Dens X.K μ H ws es)(ih:∀{v w:V} {d d':D} {u t:Value} {b:Bool},Den X.K μ H v d->Den X.K μ H w d'->RelV v u->RelV w t->eq d d'=some b->SeqAt.EqAt A.in1 s u t b)(h:eqGs eq ds es=some b):SeqAt.RcAt A s (.ref a) (.ref c) b:=by
 obtain⟨us,r1,p1,_⟩:=I.tuple h1
 obtain⟨ts,r2,p2,_⟩:=I.tuple h2
 obtain⟨e,e1,e2⟩:=QaR ds es b h
 have q:=SeqAt.RcAt.tuples (A:=A) p1 p2 hu (e:=e) (QbJ q1 q2 r1 r2 e1 ih)
 have l1:us.toArray.size=ds.length:=by rw[Ug,<-r1.length,q1.length]
 have l2:ts.toArray.size=es.length:=by rw[Ug,<-r2.length,q2.length]
 rw[l1,l2]at q
 rw[e2]
 exact q
theorem QhT{A:Around}{eq:D->D->Option Bool}{a c:Addr}{vs ws:List V}{ds es:List D}{b:Bool}(hu:A.units<cLine)(I:Inv X pins σ H s)(h1:SqL X.K H a vs)(q1:Dens X.K μ H vs ds)(h2:SqL X.K H c ws)(q2:Dens X.K μ H ws es)(ih:∀{v w:V} {d d':D} {u t:Value} {b:Bool},Den X.K μ H v d->Den X.K μ H w d'->RelV v u->RelV w t->eq d d'=some b->SeqAt.EqAt A.in1 s u t b)(h:(if ds.length=es.length then eqGs eq ds es else some false)=some b):SeqAt.RcAt A s (.ref a) (.ref c) b:=by
 obtain⟨us,r1,p1,_⟩:=I.list h1
 obtain⟨ts,r2,p2,_⟩:=I.list h2
 have l1:us.toArray.size=ds.length:=by rw[Ug,<-r1.length,q1.length]
 have l2:ts.toArray.size=es.length:=by rw[Ug,<-r2.length,q2.length]
 by_cases hl:ds.length=es.length
 ·rw[Ue hl]at h
  obtain⟨e,e1,e2⟩:=QaR ds es b h
  have q:=SeqAt.RcAt.lists (A:=A) p1.isList p2.isList (by rw[l1,l2,hl]) hu (e:=e) (QbJ q1 q2 r1 r2 e1 ih)
  rw[l1]at q
  rw[e2,<-hl,Nat.min_self]
  simpa using q
 ·rw[Uh hl]at h
  cases h
  exact SeqAt.RcAt.lists_lengths p1.isList p2.isList (by rw[l1,l2];simpa using hl) hu
theorem Qdq(I:Inv X pins σ H s)(r:GRep X.K ca μ H g):∀(f:Nat){v:V}{d e:D}{b:Bool},Den X.K μ H v d->Den X.K μ H v e->eqN g f d e=some b->b=true
 |0,v,d,e,b,h1,h2,h=>by cases h
 |f+1,v,d,e,b,h1,h2,h=>by
  have key:∀{vs:List V}{ds es:List D}{b:Bool},Dens X.K μ H vs ds->Dens X.K μ H vs es->eqGs (eqN g f) ds es=some b->b=true:=by
   intro vs
   induction vs with
   |nil=>intro ds es b a1 a2 a3;cases a1;cases a2;cases a3;rfl
   |cons w ws ih =>
    intro ds es b a1 a2 a3
    cases a1 with
    |cons c1 c2=>cases a2 with
     |cons c3 c4 =>
      rename_i x xs y ys
      unfold eqGs at a3
      cases h1:eqN g f x y with
      |none=>rw[h1]at a3;cases a3
      |some b1 =>
       cases h2:eqGs (eqN g f) xs ys with
       |none=>rw[h1,h2]at a3;cases a3
       |some b2 =>
        rw[h1,h2]at a3
        cases a3
        rw[Qdq I r f c1 c3 h1,ih c2 c4 h2];rfl
  have hidx:∀{n m:Nat}{a:Addr},μ[n]?=some a->μ[m]?=some a->n=m:=λ{n m a} x1 x2=>by
   obtain⟨l1,e1⟩:=Ud.mp x1
   obtain⟨l2,e2⟩:=Ud.mp x2
   exact(Wf r.nd).mp (e1.trans e2.symm)
  cases h1 with
  |non=>cases h2;cases h;rfl
  |bl a=>cases h2;cases h;simp
  |int i=>cases h2;cases h;simp
  |str i=>cases h2;cases h;simp
  |tup t1 q1 =>
   cases h2 with
   |tup t2 q2 =>
    have ev:=I.tuple_inj t1 t2
    subst ev
    exact key q1 q2 h
   |ref hm => 
    exfalso
    unfold eqN at h
    dsimp only[lstF]at h
    rename_i m
    cases hg:g[m]? with
    |none=>rw[hg]at h;cases h
    |some o =>
     cases o with
     |lst xs =>
      obtain⟨b2,hb2,ob2⟩:=r.addr hg
      rw[hm]at hb2;cases hb2
      obtain⟨vs,hH,_⟩:=ob2
      obtain⟨_,_,p1,_⟩:=I.tuple t1
      obtain⟨_,_,p2,_⟩:=I.list (.of hH)
      exact SeqAt.ne_of_list_tuple p2.isList p1 rfl
     |_=>rw[hg]at h;cases h
   |_=>cases h
  |@ref n a hn =>
   cases h2 with
   |@ref m _ hm =>
    have e:=hidx hn hm
    subst e
    unfold eqN at h
    dsimp only at h
    cases hg:g[n]? with
    |none=>rw[hg]at h;cases h
    |some o =>
     rw[hg]at h
     cases o with
     |lst xs =>
      dsimp only at h
      rw[Ue rfl]at h
      obtain⟨b2,hb2,ob2⟩:=r.addr hg
      rw[hn]at hb2;cases hb2
      obtain⟨vs,hH,q⟩:=ob2
      exact key q q h
     |_=>cases h
   |tup t2 q2 =>
    exfalso
    unfold eqN at h
    dsimp only[lstF]at h
    cases hg:g[n]? with
    |none=>rw[hg]at h;cases h
    |some o =>
     cases o with
     |lst xs =>
      obtain⟨b2,hb2,ob2⟩:=r.addr hg
      rw[hn]at hb2;cases hb2
      obtain⟨vs,hH,_⟩:=ob2
      obtain⟨_,_,p1,_⟩:=I.tuple t2
      obtain⟨_,_,p2,_⟩:=I.list (.of hH)
      exact SeqAt.ne_of_list_tuple p2.isList p1 rfl
     |_=>rw[hg]at h;cases h
   |_=>cases h
  |fl _ _=>cases e <;> cases h
theorem Zb(r:GRep X.K ca μ H g)(I:Inv X pins σ H s){n:Nat}{a:Addr}{b:Bool}(hn:μ[n]?=some a)(h:lstF g n=some b):b=false/\∃items,s.heap.IsList a items:=by
 unfold lstF at h
 cases hg:g[n]? with
 |none=>rw[hg]at h;cases h
 |some o =>
  rw[hg]at h
  cases o with
  |lst xs =>
   cases h
   obtain⟨b2,hb2,ob2⟩:=r.addr hg
   rw[hn]at hb2;cases hb2
   obtain⟨vs,hH,_⟩:=ob2
   obtain⟨us,_,p2,_⟩:=I.list (.of hH)
   exact⟨rfl,_,p2.isList⟩
  |_=>cases h
theorem Qdr(r:GRep X.K ca μ H g){f n m:Nat}{a c:Addr}{b:Bool}(hn:μ[n]?=some a)(hm:μ[m]?=some c)(h:eqN g (f+1) (.ref n) (.ref m)=some b):
  ∃vs ws ds es,SqL X.K H a vs/\Dens X.K μ H vs ds/\SqL X.K H c ws/\Dens X.K μ H ws es/\(if ds.length=es.length then eqGs (eqN g f) ds es else some false)=some b:=by
 unfold eqN at h
 dsimp only at h
 cases hg:g[n]? with
 |none=>rw[hg]at h;cases h
 |some o1 =>
  cases hg2:g[m]? with
  |none=>rw[hg,hg2]at h;cases o1 <;> cases h
  |some o2 =>
   rw[hg,hg2]at h
   obtain⟨b1,hb1,ob1⟩:=r.addr hg
   obtain⟨b2,hb2,ob2⟩:=r.addr hg2
   rw[hn]at hb1;cases hb1
   rw[hm]at hb2;cases hb2
   cases o1 with
   |lst xs =>
    cases o2 with
    |lst ys =>
     obtain⟨vs,hH1,q1⟩:=ob1
     obtain⟨ws,hH2,q2⟩:=ob2
     exact⟨vs,ws,xs,ys,.of hH1,q1,.of hH2,q2,h⟩
    |_=>cases h
   |_=>cases o2 <;> cases h
theorem Qf0(I:Inv X pins σ H s)(r:GRep X.K ca μ H g):∀(f:Nat){A:Around}{v w:V}{d e:D}{u t:Value}{b:Bool},A.units+f<cLine->Den X.K μ H v d->Den X.K μ H w e->RelV v u->RelV w t->eqN g f d e=some b->SeqAt.EqAt A s u t b
 |0,A,v,w,d,e,u,t,b,hu,qv,qw,rv,rw',h=>by cases h
 |f+1,A,v,w,d,e,u,t,b,hu,qv,qw,rv,rw',h=>by
  have hu':A.units<cLine:=by omega
  cases qv with
  |non =>
   cases rv
   cases qw with
   |non=>cases rw';cases h;exact Rx _
   |bl c=>cases rw';cases h;exact SeqAt.EqAt.none_bool _
   |int j=>obtain⟨z,rfl⟩:=rw';cases h;exact SeqAt.EqAt.none_int _ _
   |str j=>obtain⟨z,rfl⟩:=rw';cases h;exact SeqAt.EqAt.none_str _ _
   |tup h2 q2=>cases rw';cases h;obtain⟨_,_,p2,_⟩:=I.tuple h2;exact SeqAt.EqAt.none_tuple p2 hu'
   |ref hm=>cases rw';obtain⟨rfl,_,p⟩:=Zb r I hm h;exact SeqAt.EqAt.none_list p hu'
   |fl _ _=>cases h
  |bl a =>
   cases rv
   cases qw with
   |non=>cases rw';cases h;exact SeqAt.EqAt.bool_none _
   |bl c=>cases rw';cases h;exact SeqAt.EqAt.bool_bool _ _
   |int j=>obtain⟨z,rfl⟩:=rw';cases h;exact SeqAt.EqAt.bool_int _ _ _
   |str j=>obtain⟨z,rfl⟩:=rw';cases h;exact SeqAt.EqAt.bool_str _ _ _
   |tup h2 q2=>cases rw';cases h;obtain⟨_,_,p2,_⟩:=I.tuple h2;exact SeqAt.EqAt.bool_tuple _ p2 hu'
   |ref hm=>cases rw';obtain⟨rfl,_,p⟩:=Zb r I hm h;exact SeqAt.EqAt.bool_list _ p hu'
   |fl _ _=>cases h
  |int i =>
   obtain⟨y,rfl⟩:=rv
   cases qw with
   |non=>cases rw';cases h;exact SeqAt.EqAt.int_none _ _
   |bl c=>cases rw';cases h;exact SeqAt.EqAt.int_bool _ _ _
   |int j=>obtain⟨z,rfl⟩:=rw';cases h;exact SeqAt.EqAt.int_int _ _ _ _
   |str j=>obtain⟨z,rfl⟩:=rw';cases h;exact RH _ _ _ _
   |tup h2 q2=>cases rw';cases h;obtain⟨_,_,p2,_⟩:=I.tuple h2;exact SeqAt.EqAt.int_tuple _ _ p2 hu'
   |ref hm=>cases rw';obtain⟨rfl,_,p⟩:=Zb r I hm h;exact SeqAt.EqAt.int_list _ _ p hu'
   |fl _ _=>cases h
  |str i =>
   obtain⟨y,rfl⟩:=rv
   cases qw with
   |non=>cases rw';cases h;exact SeqAt.EqAt.str_none _ _
   |bl c=>cases rw';cases h;exact SeqAt.EqAt.str_bool _ _ _
   |int j=>obtain⟨z,rfl⟩:=rw';cases h;exact RI _ _ _ _
   |str j=>obtain⟨z,rfl⟩:=rw';cases h;exact SeqAt.EqAt.str_str _ _ _ _
   |tup h2 q2=>cases rw';cases h;obtain⟨_,_,p2,_⟩:=I.tuple h2;exact SeqAt.EqAt.str_tuple _ _ p2 hu'
   |ref hm=>cases rw';obtain⟨rfl,_,p⟩:=Zb r I hm h;exact SeqAt.EqAt.str_list _ _ p hu'
   |fl _ _=>cases h
  |@tup a1 vs ds h1 q1 =>
   cases rv
   obtain⟨_,_,p1,_⟩:=id (I.tuple h1)
   cases qw with
   |non=>cases rw';cases h;exact SeqAt.EqAt.tuple_none p1 hu'
   |bl c=>cases rw';cases h;exact SeqAt.EqAt.tuple_bool _ p1 hu'
   |int j=>obtain⟨z,rfl⟩:=rw';cases h;exact SeqAt.EqAt.tuple_int _ _ p1 hu'
   |str j=>obtain⟨z,rfl⟩:=rw';cases h;exact SeqAt.EqAt.tuple_str _ _ p1 hu'
   |@tup a2 ws es h2 q2 =>
    cases rw'
    by_cases ea:a1=a2
    ·subst ea
     rw[Qdq I r (f+1) (.tup h1 q1) (.tup h2 q2) h]
     exact Rx _
    ·exact SeqAt.EqAt.of_refs ea (QhS hu' I h1 q1 h2 q2 (λa1 a2 a3 a4 a5=>Qf0 I r f (by show A.units+1+f<cLine;omega) a1 a2 a3 a4 a5) h)
   |ref hm=>cases rw';obtain⟨rfl,_,p⟩:=Zb r I hm h;exact SeqAt.EqAt.tuple_list p1 p hu'
   |fl _ _=>cases h
  |@ref n a hn =>
   cases rv
   cases qw with
   |non=>cases rw';obtain⟨rfl,_,p⟩:=Zb r I hn h;exact SeqAt.EqAt.list_none p hu'
   |bl c=>cases rw';obtain⟨rfl,_,p⟩:=Zb r I hn h;exact SeqAt.EqAt.list_bool _ p hu'
   |int j=>obtain⟨z,rfl⟩:=rw';obtain⟨rfl,_,p⟩:=Zb r I hn h;exact SeqAt.EqAt.list_int _ _ p hu'
   |str j=>obtain⟨z,rfl⟩:=rw';obtain⟨rfl,_,p⟩:=Zb r I hn h;exact SeqAt.EqAt.list_str _ _ p hu'
   |tup h2 q2=>cases rw';obtain⟨_,_,p2,_⟩:=I.tuple h2;obtain⟨rfl,_,p⟩:=Zb r I hn h;exact SeqAt.EqAt.list_tuple p p2 hu'
   |@ref m c hm =>
    cases rw'
    by_cases ea:a=c
    ·subst ea
     rw[Qdq I r (f+1) (.ref hn) (.ref hm) h]
     exact Rx _
    ·obtain⟨vs,ws,ds,es,h1,q1,h2,q2,h⟩:=Qdr r hn hm h
     exact SeqAt.EqAt.of_refs ea (QhT hu' I h1 q1 h2 q2 (λa1 a2 a3 a4 a5=>Qf0 I r f (by show A.units+1+f<cLine;omega) a1 a2 a3 a4 a5) h)
   |fl _ _=>cases h
  |fl _ _=>cases e <;> cases h
noncomputable def rEqN(K:Frag)(ca:Nat->Addr)(neg:Bool):R2:=λx y H Q=>∃(μ:List Addr)(g:G)(d e:D)(b:Bool),GRep K ca μ H g/\Den K μ H x d/\Den K μ H y e/\eqN g 8 d e=some b/\Q (.bl (if neg=true then !b else b)) H
theorem QkA(hu:X.A.units+16<cLine):OpR X (compareOp .Eq) (rEqN X.K ca false):=by
 intro pins s σ H x y u t Q I rv rw' hh
 obtain⟨μ,g,d,e,b,r,qv,qw,h,q⟩:=hh
 have hu':X.A.units<cLine:=by omega
 have ih:∀{v w:V}{d d':D}{u t:Value}{b:Bool},Den X.K μ H v d->Den X.K μ H w d'->RelV v u->RelV w t->eqN g 7 d d'=some b->SeqAt.EqAt X.A.in1 s u t b:=λa1 a2 a3 a4 a5=>Qf0 I r 7 (by show X.A.units+1+7<cLine;omega) a1 a2 a3 a4 a5
 have go:SeqAt.RcAt X.A s u t (b):=by
  cases qv with
  |non =>
   cases rv
   cases qw with
   |non=>cases rw';cases h;exact SeqAt.RcAt.none_none
   |bl c=>cases rw';cases h;exact SeqAt.RcAt.none_bool _
   |int j=>obtain⟨z,rfl⟩:=rw';cases h;exact SeqAt.RcAt.none_int _ _
   |str j=>obtain⟨z,rfl⟩:=rw';cases h;exact SeqAt.RcAt.none_str _ _
   |tup h2 q2=>cases rw';cases h;obtain⟨_,_,p2,_⟩:=I.tuple h2;exact SeqAt.RcAt.none_tuple p2 hu'
   |ref hm=>cases rw';obtain⟨rfl,_,p⟩:=Zb r I hm h;exact SeqAt.RcAt.none_list p hu'
   |fl _ _=>cases h
  |bl a =>
   cases rv
   cases qw with
   |non=>cases rw';cases h;exact SeqAt.RcAt.bool_none _
   |bl c=>cases rw';cases h;exact SeqAt.RcAt.bool_bool _ _
   |int j=>obtain⟨z,rfl⟩:=rw';cases h;exact SeqAt.RcAt.bool_int _ _ _
   |str j=>obtain⟨z,rfl⟩:=rw';cases h;exact SeqAt.RcAt.bool_str _ _ _
   |tup h2 q2=>cases rw';cases h;obtain⟨_,_,p2,_⟩:=I.tuple h2;exact SeqAt.RcAt.bool_tuple _ p2 hu'
   |ref hm=>cases rw';obtain⟨rfl,_,p⟩:=Zb r I hm h;exact SeqAt.RcAt.bool_list _ p hu'
   |fl _ _=>cases h
  |int i =>
   obtain⟨y,rfl⟩:=rv
   cases qw with
   |non=>cases rw';cases h;exact SeqAt.RcAt.int_none _ _
   |bl c=>cases rw';cases h;exact SeqAt.RcAt.int_bool _ _ _
   |int j=>obtain⟨z,rfl⟩:=rw';cases h;exact SeqAt.RcAt.int_int _ _ _ _
   |str j=>obtain⟨z,rfl⟩:=rw';cases h;exact SeqAt.RcAt.int_str _ _ _ _
   |tup h2 q2=>cases rw';cases h;obtain⟨_,_,p2,_⟩:=I.tuple h2;exact SeqAt.RcAt.int_tuple _ _ p2 hu'
   |ref hm=>cases rw';obtain⟨rfl,_,p⟩:=Zb r I hm h;exact SeqAt.RcAt.int_list _ _ p hu'
   |fl _ _=>cases h
  |str i =>
   obtain⟨y,rfl⟩:=rv
   cases qw with
   |non=>cases rw';cases h;exact SeqAt.RcAt.str_none _ _
   |bl c=>cases rw';cases h;exact SeqAt.RcAt.str_bool _ _ _
   |int j=>obtain⟨z,rfl⟩:=rw';cases h;exact SeqAt.RcAt.str_int _ _ _ _
   |str j=>obtain⟨z,rfl⟩:=rw';cases h;exact SeqAt.RcAt.str_str _ _ _ _
   |tup h2 q2=>cases rw';cases h;obtain⟨_,_,p2,_⟩:=I.tuple h2;exact SeqAt.RcAt.str_tuple _ _ p2 hu'
   |ref hm=>cases rw';obtain⟨rfl,_,p⟩:=Zb r I hm h;exact SeqAt.RcAt.str_list _ _ p hu'
   |fl _ _=>cases h
  |tup h1 q1 =>
   cases rv
   obtain⟨_,_,p1,_⟩:=id (I.tuple h1)
   cases qw with
   |non=>cases rw';cases h;exact SeqAt.RcAt.tuple_none p1 hu'
   |bl c=>cases rw';cases h;exact SeqAt.RcAt.tuple_bool _ p1 hu'
   |int j=>obtain⟨z,rfl⟩:=rw';cases h;exact SeqAt.RcAt.tuple_int _ _ p1 hu'
   |str j=>obtain⟨z,rfl⟩:=rw';cases h;exact SeqAt.RcAt.tuple_str _ _ p1 hu'
   |tup h2 q2=>cases rw';exact QhS hu' I h1 q1 h2 q2 ih h
   |ref hm=>cases rw';obtain⟨rfl,_,p⟩:=Zb r I hm h;exact SeqAt.RcAt.tuple_list p1 p hu'
   |fl _ _=>cases h
  |@ref n a hn =>
   cases rv
   cases qw with
   |non=>cases rw';obtain⟨rfl,_,p⟩:=Zb r I hn h;exact SeqAt.RcAt.list_none p hu'
   |bl c=>cases rw';obtain⟨rfl,_,p⟩:=Zb r I hn h;exact SeqAt.RcAt.list_bool _ p hu'
   |int j=>obtain⟨z,rfl⟩:=rw';obtain⟨rfl,_,p⟩:=Zb r I hn h;exact SeqAt.RcAt.list_int _ _ p hu'
   |str j=>obtain⟨z,rfl⟩:=rw';obtain⟨rfl,_,p⟩:=Zb r I hn h;exact SeqAt.RcAt.list_str _ _ p hu'
   |tup h2 q2=>cases rw';obtain⟨_,_,p2,_⟩:=I.tuple h2;obtain⟨rfl,_,p⟩:=Zb r I hn h;exact SeqAt.RcAt.list_tuple p p2 hu'
   |@ref m c hm =>
    cases rw'
    obtain⟨vs,ws,ds,es,h1,q1,h2,q2,h⟩:=Qdr r hn hm h
    exact QhT hu' I h1 q1 h2 q2 ih h
   |fl _ _=>cases h
  |fl _ _=>cases e <;> cases h
 exact go _ _ _ _ ⟨.bl _,H,I,rfl,q⟩
theorem QhU{A:Around}{eq:D->D->Option Bool}{a c:Addr}{vs ws:List V}{ds es:List D}{b:Bool}(hu:A.units<cLine)(I:Inv X pins σ H s)(h1:SqL X.K H a vs)(q1:Dens X.K μ H vs ds)(h2:SqL X.K H c ws)(q2:Dens X.K μ H ws es)(ih:∀{v w:V} {d d':D} {u t:Value} {b:Bool},Den X.K μ H v d->Den X.K μ H w d'->RelV v u->RelV w t->eq d d'=some b->SeqAt.EqAt A.in1 s u t b)(h:(if ds.length=es.length then eqGs eq ds es else some false)=some b):SeqAt.RcNeAt A s (.ref a) (.ref c) (!b):=by
 obtain⟨us,r1,p1,_⟩:=I.list h1
 obtain⟨ts,r2,p2,_⟩:=I.list h2
 have l1:us.toArray.size=ds.length:=by rw[Ug,<-r1.length,q1.length]
 have l2:ts.toArray.size=es.length:=by rw[Ug,<-r2.length,q2.length]
 by_cases hl:ds.length=es.length
 ·rw[Ue hl]at h
  obtain⟨e,e1,e2⟩:=QaR ds es b h
  have q:=SeqAt.RcNeAt.lists (A:=A) p1.isList p2.isList (by rw[l1,l2,hl]) hu (e:=e) (QbJ q1 q2 r1 r2 e1 ih)
  rw[l1]at q
  rw[e2,<-hl,Nat.min_self]
  simpa using q
 ·rw[Uh hl]at h
  cases h
  exact SeqAt.RcNeAt.lists_lengths p1.isList p2.isList (by rw[l1,l2];simpa using hl) hu
theorem QhV{A:Around}{eq:D->D->Option Bool}{a c:Addr}{vs ws:List V}{ds es:List D}{b:Bool}(hu:A.units<cLine)(I:Inv X pins σ H s)(h1:SqT X.K H a vs)(q1:Dens X.K μ H vs ds)(h2:SqT X.K H c ws)(q2:Dens X.K μ H ws es)(ih:∀{v w:V} {d d':D} {u t:Value} {b:Bool},Den X.K μ H v d->Den X.K μ H w d'->RelV v u->RelV w t->eq d d'=some b->SeqAt.EqAt A.in1 s u t b)(h:eqGs eq ds es=some b):SeqAt.RcNeAt A s (.ref a) (.ref c) (!b):=by
 obtain⟨us,r1,p1,_⟩:=I.tuple h1
 obtain⟨ts,r2,p2,_⟩:=I.tuple h2
 obtain⟨e,e1,e2⟩:=QaR ds es b h
 have q:=SeqAt.RcNeAt.tuples (A:=A) p1 p2 hu (e:=e) (QbJ q1 q2 r1 r2 e1 ih)
 have l1:us.toArray.size=ds.length:=by rw[Ug,<-r1.length,q1.length]
 have l2:ts.toArray.size=es.length:=by rw[Ug,<-r2.length,q2.length]
 rw[l1,l2]at q
 rw[e2]
 exact q
theorem QmX(hu:X.A.units+16<cLine):OpR X (compareOp .NotEq) (rEqN X.K ca true):=by
 intro pins s σ H x y u t Q I rv rw' hh
 obtain⟨μ,g,d,e,b,r,qv,qw,h,q⟩:=hh
 have hu':X.A.units<cLine:=by omega
 have ih:∀{v w:V}{d d':D}{u t:Value}{b:Bool},Den X.K μ H v d->Den X.K μ H w d'->RelV v u->RelV w t->eqN g 7 d d'=some b->SeqAt.EqAt X.A.in1 s u t b:=λa1 a2 a3 a4 a5=>Qf0 I r 7 (by show X.A.units+1+7<cLine;omega) a1 a2 a3 a4 a5
 have go:SeqAt.RcNeAt X.A s u t (!b):=by
  cases qv with
  |non =>
   cases rv
   cases qw with
   |non=>cases rw';cases h;exact SeqAt.RcNeAt.none_none
   |bl c=>cases rw';cases h;exact SeqAt.RcNeAt.none_bool _
   |int j=>obtain⟨z,rfl⟩:=rw';cases h;exact SeqAt.RcNeAt.none_int _ _
   |str j=>obtain⟨z,rfl⟩:=rw';cases h;exact SeqAt.RcNeAt.none_str _ _
   |tup h2 q2=>cases rw';cases h;obtain⟨_,_,p2,_⟩:=I.tuple h2;exact SeqAt.RcNeAt.none_tuple p2 hu'
   |ref hm=>cases rw';obtain⟨rfl,_,p⟩:=Zb r I hm h;exact SeqAt.RcNeAt.none_list p hu'
   |fl _ _=>cases h
  |bl a =>
   cases rv
   cases qw with
   |non=>cases rw';cases h;exact SeqAt.RcNeAt.bool_none _
   |bl c=>cases rw';cases h;exact SeqAt.RcNeAt.bool_bool _ _
   |int j=>obtain⟨z,rfl⟩:=rw';cases h;exact SeqAt.RcNeAt.bool_int _ _ _
   |str j=>obtain⟨z,rfl⟩:=rw';cases h;exact SeqAt.RcNeAt.bool_str _ _ _
   |tup h2 q2=>cases rw';cases h;obtain⟨_,_,p2,_⟩:=I.tuple h2;exact SeqAt.RcNeAt.bool_tuple _ p2 hu'
   |ref hm=>cases rw';obtain⟨rfl,_,p⟩:=Zb r I hm h;exact SeqAt.RcNeAt.bool_list _ p hu'
   |fl _ _=>cases h
  |int i =>
   obtain⟨y,rfl⟩:=rv
   cases qw with
   |non=>cases rw';cases h;exact SeqAt.RcNeAt.int_none _ _
   |bl c=>cases rw';cases h;exact SeqAt.RcNeAt.int_bool _ _ _
   |int j=>obtain⟨z,rfl⟩:=rw';cases h;exact SeqAt.RcNeAt.int_int _ _ _ _
   |str j=>obtain⟨z,rfl⟩:=rw';cases h;exact SeqAt.RcNeAt.int_str _ _ _ _
   |tup h2 q2=>cases rw';cases h;obtain⟨_,_,p2,_⟩:=I.tuple h2;exact SeqAt.RcNeAt.int_tuple _ _ p2 hu'
   |ref hm=>cases rw';obtain⟨rfl,_,p⟩:=Zb r I hm h;exact SeqAt.RcNeAt.int_list _ _ p hu'
   |fl _ _=>cases h
  |str i =>
   obtain⟨y,rfl⟩:=rv
   cases qw with
   |non=>cases rw';cases h;exact SeqAt.RcNeAt.str_none _ _
   |bl c=>cases rw';cases h;exact SeqAt.RcNeAt.str_bool _ _ _
   |int j=>obtain⟨z,rfl⟩:=rw';cases h;exact SeqAt.RcNeAt.str_int _ _ _ _
   |str j=>obtain⟨z,rfl⟩:=rw';cases h;exact SeqAt.RcNeAt.str_str _ _ _ _
   |tup h2 q2=>cases rw';cases h;obtain⟨_,_,p2,_⟩:=I.tuple h2;exact SeqAt.RcNeAt.str_tuple _ _ p2 hu'
   |ref hm=>cases rw';obtain⟨rfl,_,p⟩:=Zb r I hm h;exact SeqAt.RcNeAt.str_list _ _ p hu'
   |fl _ _=>cases h
  |tup h1 q1 =>
   cases rv
   obtain⟨_,_,p1,_⟩:=id (I.tuple h1)
   cases qw with
   |non=>cases rw';cases h;exact SeqAt.RcNeAt.tuple_none p1 hu'
   |bl c=>cases rw';cases h;exact SeqAt.RcNeAt.tuple_bool _ p1 hu'
   |int j=>obtain⟨z,rfl⟩:=rw';cases h;exact SeqAt.RcNeAt.tuple_int _ _ p1 hu'
   |str j=>obtain⟨z,rfl⟩:=rw';cases h;exact SeqAt.RcNeAt.tuple_str _ _ p1 hu'
   |tup h2 q2=>cases rw';exact QhV hu' I h1 q1 h2 q2 ih h
   |ref hm=>cases rw';obtain⟨rfl,_,p⟩:=Zb r I hm h;exact SeqAt.RcNeAt.tuple_list p1 p hu'
   |fl _ _=>cases h
  |@ref n a hn =>
   cases rv
   cases qw with
   |non=>cases rw';obtain⟨rfl,_,p⟩:=Zb r I hn h;exact SeqAt.RcNeAt.list_none p hu'
   |bl c=>cases rw';obtain⟨rfl,_,p⟩:=Zb r I hn h;exact SeqAt.RcNeAt.list_bool _ p hu'
   |int j=>obtain⟨z,rfl⟩:=rw';obtain⟨rfl,_,p⟩:=Zb r I hn h;exact SeqAt.RcNeAt.list_int _ _ p hu'
   |str j=>obtain⟨z,rfl⟩:=rw';obtain⟨rfl,_,p⟩:=Zb r I hn h;exact SeqAt.RcNeAt.list_str _ _ p hu'
   |tup h2 q2=>cases rw';obtain⟨_,_,p2,_⟩:=I.tuple h2;obtain⟨rfl,_,p⟩:=Zb r I hn h;exact SeqAt.RcNeAt.list_tuple p p2 hu'
   |@ref m c hm =>
    cases rw'
    obtain⟨vs,ws,ds,es,h1,q1,h2,q2,h⟩:=Qdr r hn hm h
    exact QhU hu' I h1 q1 h2 q2 ih h
   |fl _ _=>cases h
  |fl _ _=>cases e <;> cases h
 exact go _ _ _ _ ⟨.bl _,H,I,rfl,q⟩
theorem QhW{K:Frag}:Jo K ca (rEqN K ca false) pEq:=by
 intro Φ σ H μ g x y dx dy Q r qx qy p
 unfold pEq at p
 cases h:eqN g 8 dx dy with
 |none=>rw[h]at p;exact p.elim
 |some b=>rw[h]at p;exact⟨μ,g,dx,dy,b,r,qx,qy,h,p _ H μ .refl r (.bl _)⟩
theorem Qln{K:Frag}:Jo K ca (rEqN K ca true) pNe:=by
 intro Φ σ H μ g x y dx dy Q r qx qy p
 unfold pNe at p
 cases h:eqN g 8 dx dy with
 |none=>rw[h]at p;exact p.elim
 |some b=>rw[h]at p;exact⟨μ,g,dx,dy,b,r,qx,qy,h,p _ H μ .refl r (.bl _)⟩
end
section
variable{X:Cx}{ca:Nat->Addr}{a b e:Expr}{ma mb me:ME}{pos p:Pos}{k:Nat}
theorem hu16{A:Around}(hr:Room k A):A.units+16<cLine:=by have:=hr.units;omega
theorem r_eq(hr:Room k X.A)(ha:PE3 ca X a ma)(hb:PE3 ca X b mb):PE3 ca X (.Compare a [.Eq] [b] pos) (mOp2 pEq ma mb):=QjD (λpn Φ=>QkA (X:=xat X ca pn Φ) (hu16 hr)) QhW ha hb (JM b)
theorem ZO(hr:Room k X.A)(ha:PE3 ca X a ma)(hb:PE3 ca X b mb):PT3 ca X (.Compare a [.Eq] [b] pos) (Qj (mOp2 pEq ma mb)):=Y9 (λpn Φ=>QkA (X:=xat X ca pn Φ) (hu16 hr)) QhW ha hb (JM b)
theorem QaG(hr:Room k X.A)(ha:PE3 ca X a ma)(hb:PE3 ca X b mb):PT3 ca X (.Compare a [.NotEq] [b] pos) (Qj (mOp2 pNe ma mb)):=Y9 (λpn Φ=>QmX (X:=xat X ca pn Φ) (hu16 hr)) Qln ha hb (JM b)
theorem Qf1{K:Frag}{μ:List Addr}{H:Hp}{x:V}{d:D}(q:Den K μ H x d):decide (x=.non)=isNon d:=by cases q <;> simp[isNon]
theorem Qlo{K:Frag}:Jo K ca (λx y H Q=>y=.non/\Q (.bl (decide (x=.non))) H) pIs:=by
 intro Φ σ H μ g x y dx dy Q r qx qy p
 cases qy with
 |non=>exact⟨rfl,p _ H μ .refl r (by rw[Qf1 qx];exact .bl _)⟩
 |_=>exact p.elim
theorem QgI{K:Frag}:Jo K ca (λx y H Q=>y=.non/\Q (.bl (!decide (x=.non))) H) QcV:=by
 intro Φ σ H μ g x y dx dy Q r qx qy p
 cases qy with
 |non=>exact⟨rfl,p _ H μ .refl r (by rw[Qf1 qx];exact .bl _)⟩
 |_=>exact p.elim
theorem Qfc(ha:PE3 ca X a ma)(hb:PE3 ca X b mb):PT3 ca X (.Compare a [.Is] [b] pos) (Qj (mOp2 pIs ma mb)):=Y9 (λ_ _=>Qmw) Qlo ha hb (JM b)
theorem Qds(ha:PE3 ca X a ma)(hb:PE3 ca X b mb):PT3 ca X (.Compare a [.IsNot] [b] pos) (Qj (mOp2 QcV ma mb)):=Y9 (λ_ _=>Qk6) QgI ha hb (JM b)
theorem Qdt{K:Frag}{μ:List Addr}{H:Hp}{vs:List V}{ds:List D}{i:Int}{d:D}(q:Dens K μ H vs ds)(h:atD ds i=some d):∃v,atI vs i=some v/\Den K μ H v d:=by
 unfold atD at h
 cases hj:ixD ds.length i with
 |none=>rw[hj]at h;cases h
 |some j =>
  rw[hj]at h
  obtain⟨v,h1,h2⟩:=q.get (show ds[j]?=some d from h)
  refine⟨v,?_,h2⟩
  unfold atI
  rw[q.length,show ixN ds.length i=some j from hj]
  exact h1
theorem Qlp{K:Frag}:Jo K ca (rIx K) pIx:=by
 intro Φ σ H μ g x y dx dy Q r qx qy p
 unfold pIx at p
 cases qx with
 |tup ht hs =>
  cases qy with
  |int i =>
   dsimp only at p
   rename_i a vs ds
   cases h:atD ds i with
   |none=>rw[h]at p;exact p.elim
   |some d =>
    rw[h]at p
    obtain⟨v,h1,h2⟩:=Qdt hs h
    exact .inr (.inl ⟨a,vs,i,v,rfl,rfl,ht,h1,p v H μ .refl r h2⟩)
  |_=>exact p.elim
 |fl ht hs =>
  cases qy with
  |int i =>
   dsimp only at p
   rename_i a vs ds
   cases h:atD ds i with
   |none=>rw[h]at p;exact p.elim
   |some d =>
    rw[h]at p
    obtain⟨v,h1,h2⟩:=Qdt hs h
    exact .inl ⟨a,vs,i,v,rfl,rfl,ht.sq,h1,p v H μ .refl r h2⟩
  |_=>exact p.elim
 |@ref n a hn =>
  cases qy with
  |int i =>
   dsimp only at p
   cases hg:g[n]? with
   |none=>rw[hg]at p;exact p.elim
   |some o =>
    rw[hg]at p
    obtain⟨a',ha',ob⟩:=r.addr hg
    rw[hn]at ha';cases ha'
    cases o with
    |lst ds =>
     obtain⟨vs,hH,hs⟩:=ob
     dsimp only at p
     cases h:atD ds i with
     |none=>rw[h]at p;exact p.elim
     |some d =>
      rw[h]at p
      obtain⟨v,h1,h2⟩:=Qdt hs h
      exact .inl ⟨a,vs,i,v,rfl,rfl,.of hH,h1,p v H μ .refl r h2⟩
    |_=>exact p.elim
  |_=>exact p.elim
 |str s =>
  cases qy with
  |int i =>
   dsimp only at p
   by_cases z:s.length<=SZ
   ·rw[Ue z]at p
    cases h:atD s.cps.toList i with
    |none=>rw[h]at p;exact p.elim
    |some c =>
     rw[h]at p
     exact .inr (.inr ⟨s,i,c,rfl,rfl,Ur z YK,h,p _ H μ .refl r (.str _)⟩)
   ·rw[Uh z]at p;exact p.elim
  |_=>exact p.elim
 |_=>cases qy <;> exact p.elim
theorem Qf(ha:PE3 ca X a ma)(hb:PE3 ca X b mb)(hs:Qdj b:=by exact λ_ _=>rfl):PE3 ca X (.Subscript a b pos) (mOp2 pIx ma mb):=r_ix (λ_ _=>QmF) Qlp ha hb hs
theorem QjN{x:Str}{id:String}{r:List V->Hp->VK->Prop}{f:D->G->Res D}(hc:∀pn Φ,CallR (xat X ca pn Φ) (.builtin id) r)(hm:X.mg x=none)(hv:bootBuiltins x=some (.builtin id))(hp:∀(Φ:XS) (σ:L2.St) (H:Hp) (μ:List Addr) (g:G) (y:V) (d:D) (Q:VK),GRep X.K ca μ H g->Den X.K μ H y d->Post X.K ca Φ σ Q H μ (f d g)->r [y] H Q)(he:PE3 ca X e me)(hg:Gl X x)(hn:x ≠ "__name__")(hdb:(x == ("__debug__" : Str))=false)(hs:starEach [e] X.env=[(false,eval e X.env)])(hpl:(backTo pos (starEach [] X.env)).any (·.1)=false):PE3 ca X (.Call (.Name x p) [e] [] pos) (mOp1 f me) :=
 λpn Φ=>Zu (QbE (X:=xat X ca pn Φ) (hc pn Φ) hg hm hv (Jd he Qi hs pn Φ) hn hdb hs hpl) λσ H Q hQ=>by
  obtain⟨σ3,g,μ,R,q⟩:=hQ
  refine⟨σ3,g,μ,R,?_⟩
  unfold mOp1 at q
  unfold Qb mNil
  cases hm:me σ3 g with
  |raise _ _=>rw[hm]at q;exact q
  |stuck=>rw[hm]at q;exact q.elim
  |ok d g1 =>
   rw[hm,Res.bind_ok]at q
   rw[Res.bind_ok,Res.bind_ok]
   intro vs H1 μ1 e1 r1 q1
   cases q1 with
   |cons h1 h2 =>
    cases h2
    exact hp Φ σ H1 μ1 g1 _ d Q r1 h1 (q.go e1)
end
section
variable{X:Cx}{ca:Nat->Addr}{a b e o:Expr}{ma mb me mo:ME}{pos p apos:Pos}{k:Nat}
theorem r_ty{x:Str}{T:String}{r:List V->Hp->VK->Prop}{f:D->G->Res D}(hc:∀pn Φ,CallR (xat X ca pn Φ) (.type T) r)(hm:X.mg x=none)(hv:bootBuiltins x=some (.type T))(hp:∀(Φ:XS) (σ:L2.St) (H:Hp) (μ:List Addr) (g:G) (y:V) (d:D) (Q:VK),GRep X.K ca μ H g->Den X.K μ H y d->Post X.K ca Φ σ Q H μ (f d g)->r [y] H Q)(he:PE3 ca X e me)(hg:Gl X x)(hn:x ≠ "__name__")(hdb:(x == ("__debug__" : Str))=false)(hs:starEach [e] X.env=[(false,eval e X.env)])(hpl:(backTo pos (starEach [] X.env)).any (·.1)=false):PE3 ca X (.Call (.Name x p) [e] [] pos) (mOp1 f me) :=
 λpn Φ=>Zu (Qhu (X:=xat X ca pn Φ) (hc pn Φ) hg hm hv (Jd he Qi hs pn Φ) hn hdb hs hpl) λσ H Q hQ=>by
  obtain⟨σ3,g,μ,R,q⟩:=hQ
  refine⟨σ3,g,μ,R,?_⟩
  unfold mOp1 at q
  unfold Qb mNil
  cases hm:me σ3 g with
  |raise _ _=>rw[hm]at q;exact q
  |stuck=>rw[hm]at q;exact q.elim
  |ok d g1 =>
   rw[hm,Res.bind_ok]at q
   rw[Res.bind_ok,Res.bind_ok]
   intro vs H1 μ1 e1 r1 q1
   cases q1 with
   |cons h1 h2 =>
    cases h2
    exact hp Φ σ H1 μ1 g1 _ d Q r1 h1 (q.go e1)
theorem Zz(hm:X.mg "len" = none)(he:PE3 ca X e me)(hg:Gl X "len":=by rfl)(hs:starEach [e] X.env=[(false,eval e X.env)]:=by rfl)(hpl:(backTo pos (starEach [] X.env)).any (·.1)=false:=by rfl):
  PE3 ca X (.Call (.Name "len" p) [e] [] pos) (mOp1 pLen me) :=
 QjN (r:=λxs H Q=>∃p ys,xs=[V.ref p]/\(SqL X.K H p ys\/SqT X.K H p ys)/\Q (V.int (ys.length:Int)) H) (λ_ _=>Qei) hm boot_len (λΦ σ H μ g y d Q r q pp=>by
  unfold pLen at pp
  cases q with
  |@tup t vs ds ht hs=>exact⟨t,vs,rfl,.inr ht,pp _ H μ .refl r (by rw[hs.length];exact .int _)⟩
  |@fl t vs ds ht hs=>exact⟨t,vs,rfl,.inl ht.sq,pp _ H μ .refl r (by rw[hs.length];exact .int _)⟩
  |@ref n t hn =>
   dsimp only at pp
   cases hgn:g[n]? with
   |none=>rw[hgn]at pp;exact pp.elim
   |some ob =>
    rw[hgn]at pp
    obtain⟨t',ht',orp⟩:=r.addr hgn
    rw[hn]at ht';cases ht'
    cases ob with
    |lst ds=>obtain⟨vs,hH,q⟩:=orp;exact⟨t,vs,rfl,.inl (.of hH),pp _ H μ .refl r (by rw[q.length];exact .int _)⟩
    |_=>exact pp.elim
  |_=>exact pp.elim) he hg (by decide) (by decide) hs hpl
theorem Jq(hm:X.mg "tuple" = none)(he:PE3 ca X e me)(hg:Gl X "tuple":=by rfl)(hs:starEach [e] X.env=[(false,eval e X.env)]:=by rfl)(hpl:(backTo pos (starEach [] X.env)).any (·.1)=false:=by rfl):
  PE3 ca X (.Call (.Name "tuple" p) [e] [] pos) (mOp1 Zq me) :=
 r_ty (r:=λxs H Q=>∃p ys,xs=[V.ref p]/\((SqL X.K H p ys/\∀l,H l=none->Q (.ref l) (upd H l (.tup ys)))\/(SqT X.K H p ys/\Q (.ref p) H))) (λ_ _=>Qdl) hm boot_tuple (λΦ σ H μ g y d Q r q pp=>by
  unfold Zq at pp
  cases q with
  |@tup t vs ds ht hs=>exact⟨t,vs,rfl,.inr ⟨ht,pp _ H μ .refl r (.tup ht hs)⟩⟩
  |@fl t vs ds ht hs=>exact⟨t,vs,rfl,.inl ⟨ht.sq,λl hl=>pp _ _ μ (Zc hl) (r.new hl) (.tup (.of Qr) (hs.mono (Zc hl)))⟩⟩
  |@ref n t hn =>
   dsimp only at pp
   cases hgn:g[n]? with
   |none=>rw[hgn]at pp;exact pp.elim
   |some ob =>
    rw[hgn]at pp
    obtain⟨t',ht',orp⟩:=r.addr hgn
    rw[hn]at ht';cases ht'
    cases ob with
    |lst ds=>obtain⟨vs,hH,q⟩:=orp;exact⟨t,vs,rfl,.inl ⟨.of hH,λl hl=>pp _ _ μ (Zc hl) (r.new hl) (.tup (.of Qr) (q.mono (Zc hl)))⟩⟩
    |_=>exact pp.elim
  |_=>exact pp.elim) he hg (by decide) (by decide) hs hpl
theorem QhX(hm:X.mg "list" = none)(he:PE3 ca X e me)(hg:Gl X "list":=by rfl)(hs:starEach [e] X.env=[(false,eval e X.env)]:=by rfl)(hpl:(backTo pos (starEach [] X.env)).any (·.1)=false:=by rfl):
  PE3 ca X (.Call (.Name "list" p) [e] [] pos) (mOp1 Qeo me) :=
 r_ty (r:=λxs H Q=>∃p ys,xs=[V.ref p]/\(SqL X.K H p ys\/SqT X.K H p ys)/\∀l,H l=none->Q (.ref l) (upd H l (.lst ys))) (λ_ _=>Qej) hm boot_list (λΦ σ H μ g y d Q r q pp=>by
  have el:∀l:Addr,(μ++[l])[g.length]?=some l:=λl=>by rw[<-r.len];simp
  unfold Qeo at pp
  cases q with
  |@fl t vs ds ht hs=>exact⟨t,vs,rfl,.inl ht.sq,λl hl=>pp _ _ (μ++[l]) (QS hl) (r.push hl ⟨vs,Qr,hs.mono (QS hl)⟩) (.ref (el l))⟩
  |@tup t vs ds ht hs=>exact⟨t,vs,rfl,.inr ht,λl hl=>pp _ _ (μ++[l]) (QS hl) (r.push hl ⟨vs,Qr,hs.mono (QS hl)⟩) (.ref (el l))⟩
  |@ref n t hn =>
   dsimp only at pp
   cases hgn:g[n]? with
   |none=>rw[hgn]at pp;exact pp.elim
   |some ob =>
    rw[hgn]at pp
    obtain⟨t',ht',orp⟩:=r.addr hgn
    rw[hn]at ht';cases ht'
    cases ob with
    |lst ds=>obtain⟨vs,hH,q⟩:=orp;exact⟨t,vs,rfl,.inl (.of hH),λl hl=>pp _ _ (μ++[l]) (QS hl) (r.push hl ⟨vs,Qr,q.mono (QS hl)⟩) (.ref (el l))⟩
    |_=>exact pp.elim
  |_=>exact pp.elim) he hg (by decide) (by decide) hs hpl
theorem Qb1(hm:X.mg "int" = none)(he:PE3 ca X e me)(hg:Gl X "int":=by rfl)(hs:starEach [e] X.env=[(false,eval e X.env)]:=by rfl)(hpl:(backTo pos (starEach [] X.env)).any (·.1)=false:=by rfl):
  PE3 ca X (.Call (.Name "int" p) [e] [] pos) (mOp1 pInt me) :=
 r_ty (λ_ _=>Qhq) hm boot_int (λΦ σ H μ g y d Q r q pp=>by
  cases q with
  |int i=>exact .inl ⟨i,rfl,pp _ H μ .refl r (.int _)⟩
  |bl b=>exact .inr ⟨b,rfl,pp _ H μ .refl r (.int _)⟩
  |_=>exact pp.elim) he hg (by decide) (by decide) hs hpl
theorem Qad(ho:PE3 ca X o mo)(he:PE3 ca X e me)(hbase:attributeBase o "append" X.env (eval o X.env)=eval o X.env:=by rfl)(hfew:((backTo pos (starEach [e] X.env)).all (λx=>!x.1) && (backToKw pos (keywordEach [] X.env)).all (λx=>x.1.isSome) && decide ([e].length+([]:List Keyword).length+(if ([]:List Keyword).isEmpty then 0 else 1)<30))=true:=by rfl)(hline:(apos.endLine == pos.line)=true:=by rfl)(hs:starEach [e] X.env=(false,eval e X.env)::starEach [] X.env:=by rfl)(hplain:(backTo pos (starEach [] X.env)).any (·.1)=false:=by rfl):
  PE3 ca X (.Call (.Attribute o "append" apos) [e] [] pos) (Yg mo me) :=
 λpn Φ=>Zu (QjB (X:=xat X ca pn Φ) Wb PySem.F.slot_list_append PySem.F.type_list_append Qhx (ho pn Φ) (Jd he Qi hs pn Φ) hbase hfew hline hs hplain) λσ H Q ⟨σ3,g,μ,R,q⟩=>Zs (Qar R q) λx H1 hQ=>by
  obtain⟨d,g1,μ1,e1,R1,q1,p1⟩:=hQ
  cases q1 with
  |@ref n t hn =>
   dsimp only at p1
   cases hgn:g1[n]? with
   |none=>rw[hgn]at p1;exact p1.elim
   |some ob =>
    rw[hgn]at p1
    obtain⟨t',ht',orp⟩:=R1.g.addr hgn
    rw[hn]at ht';cases ht'
    cases ob with
    |lst ds0 =>
     obtain⟨vs0,hH0,_⟩:=orp
     dsimp only at p1
     refine⟨.inl ⟨rfl,_,.of hH0⟩,σ3,g1,μ1,R1,?_⟩
     unfold Qb mNil
     cases hm:me σ3 g1 with
     |raise _ _=>rw[hm]at p1;exact p1
     |stuck=>rw[hm]at p1;exact p1.elim
     |ok y g2 =>
      rw[hm,Res.bind_ok]at p1
      rw[Res.bind_ok,Res.bind_ok]
      intro vs H2 μ2 e2 r2 q2
      cases q2 with
      |@cons vy _ _ _ h1 h2 =>
       cases h2
       cases hg2:g2[n]? with
       |none=>rw[hg2]at p1;exact p1.elim
       |some ob2 =>
        rw[hg2]at p1
        obtain⟨t',ht',orp⟩:=r2.addr hg2
        rw[e2.at hn]at ht';cases ht'
        cases ob2 with
        |lst ds =>
         obtain⟨ws,hH,qs⟩:=orp
         dsimp only at p1
         by_cases z:ds.length<SZ
         ·rw[Ue z]at p1
          have ex:Ext X.K μ2 H2 μ2 (upd H2 t (.lst (ws++[vy]))):=Jn hH (by intro _ z;cases z) (by intro _ _ z;cases z)
          refine⟨t,ws,_,rfl,rfl,hH,by rw[qs.length];exact UC z YK,p1 _ _ μ2 (e2.trans ex) ?_ .non⟩
          exact r2.set (e2.at hn) hH (by intro _ z;cases z) (by intro _ _ z;cases z) ⟨_,Qr,(qs.mono ex).append (.cons (h1.mono ex) .nil)⟩
         ·rw[Uh z]at p1;exact p1.elim
        |_=>exact p1.elim
    |_=>exact p1.elim
  |_=>exact p1.elim
theorem Dens.dropLast{K:Frag}{μ:List Addr}{H:Hp}{vs:List V}{ds:List D}(h:Dens K μ H vs ds):Dens K μ H vs.dropLast ds.dropLast:=by
 rw[TY,TY,h.length]
 exact h.take _
end
def IsIt(b:Bool)(h:Heap)(i l:Addr)(k:Nat):Prop:=if b=true then h.IsListIter i l k else h.IsTupleIter i l k
def IsSq(b:Bool)(h:Heap)(l:Addr)(xs:Array Value):Prop:=if b=true then h.IsList l xs else h.IsTuple l xs
theorem IsIt.at{b:Bool}{h h':Heap}{i l:Addr}{k:Nat}(x:IsIt b h i l k)(hk:∀o,h.get? i=some o->h'.get? i=some o):IsIt b h' i l k:=by
 cases b
 ·exact Heap.IsTupleIter.at (show h.IsTupleIter i l k from x) hk
 ·exact Heap.IsListIter.at (show h.IsListIter i l k from x) hk
theorem IsSq.at{b:Bool}{h h':Heap}{l:Addr}{xs:Array Value}(x:IsSq b h l xs)(hk:∀o,h.get? l=some o->h'.get? l=some o):IsSq b h' l xs:=by
 cases b
 ·obtain⟨o,e,c⟩:=(show h.IsTuple l xs from x);exact⟨o,hk o e,c⟩
 ·obtain⟨o,e,c⟩:=(show h.IsList l xs from x);exact⟨o,hk o e,c⟩
theorem IsIt.lt{b:Bool}{h:Heap}{i l:Addr}{k:Nat}(x:IsIt b h i l k):i<h.objs.size:=by
 cases b
 ·obtain⟨o,e,_⟩:=(show h.IsTupleIter i l k from x);exact Uk e
 ·obtain⟨o,e,_⟩:=(show h.IsListIter i l k from x);exact Uk e
theorem IsIt.rec{b:Bool}{h:Heap}{i l:Addr}{k:Nat}(x:IsIt b h i l k):∃o,h.get? i=some o/\∀v,o.data≠.cell v:=by
 cases b
 ·obtain⟨o,e,c,d⟩:=(show h.IsTupleIter i l k from x);exact⟨o,e,λv z=>by rw[d]at z;cases z⟩
 ·obtain⟨o,e,c,d⟩:=(show h.IsListIter i l k from x);exact⟨o,e,λv z=>by rw[d]at z;cases z⟩
theorem IsSq.lt{b:Bool}{h:Heap}{l:Addr}{xs:Array Value}(x:IsSq b h l xs):l<h.objs.size:=by
 cases b
 ·obtain⟨o,e,_⟩:=(show h.IsTuple l xs from x);exact Uk e
 ·obtain⟨o,e,_⟩:=(show h.IsList l xs from x);exact Uk e
section
variable{prog:Program}{w:World}{A:Around}{E:Value->Shared->Prop}{s:Shared}
theorem QgJ{it t:Addr}{i:Nat}{items:Array Value}{x:Value}{Q:Value->Shared->Prop}(hit:s.heap.IsTupleIter it t i)(ht:s.heap.IsTuple t items)(hx:items[i]?=some x)(hQ:∀h',h'.IsTupleIter it t (i+1)->Heap.SameBut it s.heap h'->Q x {s with heap:=h'}):
  wpAny (model prog w) A (Builtin.SmallTypes.nextOf (.ref it)) Q E s:=by
 obtain⟨o,ho,hc,hd⟩:=id hit;obtain⟨ol,hol,_,nl,hdl⟩:=ht;unfold Builtin.SmallTypes.nextOf
 refine Ua (U9 (name:=Str.ofString "__next__") hit.typeIs Tx (TQ Tx hit.typeIs RC ?_ (Ru _)))
 show wpAny _ _ (field (.ref it) 0 >>= _) _ _ s;refine Ua (UQ ho hd (x:=.ref t) rfl ?_)
 show wpAny _ _ (if (Value.ref t == Value.none)=true then _ else _) _ _ s;rw[Uh (show ¬((Value.ref t == Value.none)=true) from Uf)]
 show wpAny _ _ (field (.ref it) 1 >>= _) _ _ s;refine Ua (UQ ho hd (x:=.int i 0) rfl ?_)
 show wpAny _ _ (seqItems? (.ref t) >>= _) _ _ s;refine Ua (TB hol hdl ?_);simp only[TH,hx]
 refine Ua (Rk ho hd (by simp) (Uj ⟨x,rfl,Uj (hQ _ ⟨_,Rm _ ho (Obj.isFreed_of_fields (Rb hd _)),(Obj.cls_mapFields ..).trans hc,by rw[Rb hd];simp[rawInt]⟩ (Heap.SameBut.update ..))⟩))
theorem Qdu{it t:Addr}{i:Nat}{items:Array Value}{Q:Value->Shared->Prop}(hh:A.handled=none)(hit:s.heap.IsTupleIter it t i)(ht:s.heap.IsTuple t items)(hx:items[i]?=none)(hE:∀h' e,Heap.ExtBut it s.heap h'->(∃o,h'.get? e=some o/\o.cls=.type "StopIteration")->E (.ref e) {s with heap:=h'}):wpAny (model prog w) A (Builtin.SmallTypes.nextOf (.ref it)) Q E s:=by
 obtain⟨o,ho,hc,hd⟩:=id hit;obtain⟨ol,hol,_,nl,hdl⟩:=ht;unfold Builtin.SmallTypes.nextOf
 refine Ua (U9 (name:=Str.ofString "__next__") hit.typeIs Tx (TQ Tx hit.typeIs RC ?_ (Ru _)))
 show wpAny _ _ (field (.ref it) 0 >>= _) _ _ s;refine Ua (UQ ho hd (x:=.ref t) rfl ?_)
 show wpAny _ _ (if (Value.ref t == Value.none)=true then _ else _) _ _ s;rw[Uh (show ¬((Value.ref t == Value.none)=true) from Uf)]
 show wpAny _ _ (field (.ref it) 1 >>= _) _ _ s;refine Ua (UQ ho hd (x:=.int i 0) rfl ?_)
 show wpAny _ _ (seqItems? (.ref t) >>= _) _ _ s;refine Ua (TB hol hdl ?_);simp only[TH,hx]
 refine Ua (Bf (Ua (Rk ho hd (by simp) ?_)))
 show wpAny _ _ (newExc (.type "StopIteration") [] >>= _) _ _ _;refine Ua ?_;simp only[newExc,newTuple];refine Ua (Tf ?_ (by size_fits))
 refine Ua (m:=firstArgMember _ _) (wpAny_of_eq (a:=Value.none) (by first|rfl|(simp only[firstArgMember];rfl)) ?_);refine Tf ?_ (by size_fits);simp only[raiseNew]
 refine Ua (wpAny_handled ?_);(first|rw[show A.in1.handled=none from hh]|rw[hh]);refine Ua (Uj (wpAny_throw ?_))
 exact hE _ _ (((Heap.SameBut.update ..).extBut.push _).push _) ⟨_,Us _ rfl,rfl⟩
theorem QhY{b:Bool}{it l:Addr}{i:Nat}{xs:Array Value}{x:Value}{Q:Value->Shared->Prop}(hit:IsIt b s.heap it l i)(hl:IsSq b s.heap l xs)(hx:xs[i]?=some x)(hQ:∀h',IsIt b h' it l (i+1)->Heap.SameBut it s.heap h'->Q x {s with heap:=h'}):
  wpAny (model prog w) A (Builtin.SmallTypes.nextOf (.ref it)) Q E s:=by
 cases b
 ·exact QgJ hit hl hx hQ
 ·exact wpAny_nextOf_list_item hit hl hx hQ
theorem QhZ{b:Bool}{it l:Addr}{i:Nat}{xs:Array Value}{Q:Value->Shared->Prop}(hh:A.handled=none)(hit:IsIt b s.heap it l i)(hl:IsSq b s.heap l xs)(hx:xs[i]?=none)(hE:∀h' e,Heap.ExtBut it s.heap h'->(∃o,h'.get? e=some o/\o.cls=.type "StopIteration")->E (.ref e) {s with heap:=h'}):wpAny (model prog w) A (Builtin.SmallTypes.nextOf (.ref it)) Q E s:=by
 cases b
 ·exact Qdu hh hit hl hx hE
 ·exact wpAny_nextOf_list_end hh hit hl hx hE
theorem Qlq{b1 b2:Bool}{z TI TO i1 i2 l1 l2:Addr}{k:Nat}{xs ys:Array Value}{x y a b:Value}{Q:Value->Shared->Prop}(D:ZipApart z TI TO i1 i2 l1 l2)(hz:IsZip s.heap z TI TO .none)(hTI:IsPair s.heap TI (.ref i1) (.ref i2))(hTO:IsPair s.heap TO a b)(h1:IsIt b1 s.heap i1 l1 k)(h2:IsIt b2 s.heap i2 l2 k)(hl1:IsSq b1 s.heap l1 xs)(hl2:IsSq b2 s.heap l2 ys)(hx:xs[k]?=some x)(hy:ys[k]?=some y)(hQ:∀h',IsZip h' z TI TO (rawInt s.heap.objs.size)->IsPair h' TO x y->IsIt b1 h' i1 l1 (k+1)->IsIt b2 h' i2 l2 (k+1)->IsPair h' s.heap.objs.size x y->h'.objs.size=s.heap.objs.size+1 ->
   (∀c o,c≠z->c≠TO->c≠i1->c≠i2->s.heap.get? c=some o->h'.get? c=some o)->Q (.ref s.heap.objs.size) {s with heap:=h'}):
  wpAny (model prog w) A (Builtin.«zip.__next__» ⟨[.ref z],[]⟩) (λfin s'=>∃v,fin=.done (.ret v)/\Q v s') E s:=by
 show wpAny _ _ (field (.ref z) 2 >>= _) _ _ _;refine Ua (UQ hz rfl (x:=.bool false) rfl ?_)
 show wpAny _ _ (field (.ref z) 3 >>= _) _ _ _;refine Ua (UQ hz rfl (x:=.ref TI) rfl ?_);refine Ua (TB hTI rfl ?_)
 show wpAny _ _ (Builtin.SmallTypes.ownedTupleIsFree (.ref z) >>= _) _ _ _;refine Ua ?_;unfold Builtin.SmallTypes.ownedTupleIsFree
 refine Ua (UQ hz rfl (x:=.none) rfl (Uj ?_));simp only[TX];refine Ua (Bf ?_);refine Ua (UQ hz rfl (x:=.ref TO) rfl ?_)
 refine Ua (Tz hz (by simp) λg1 hz1 hs1=>?_);replace hz1:IsZip g1 z TI TO .ellipsis:=hz1
 refine Ua ?_;simp only[List.zipIdx_cons,List.zipIdx_nil,Ry,RP];refine Ua (Ua (Wa ?_))
 show wpAny _ _ (Builtin.SmallTypes.nextOf (.ref i1) >>= _) _ _ _
 refine Ua (QhY (h1.at λo e=>hs1.extBut _ o D.i1z e) (hl1.at λo e=>hs1.extBut _ o D.l1z e) hx λg2 h12 hs2=>Uj ?_)
 have hTO2:IsPair g2 TO a b:=hs2.extBut _ _ D.TOi1 (hs1.extBut _ _ D.TOz hTO)
 refine Ua (TB hTO2 rfl ?_);refine Ua (Rt hTO2 λg3 hTO3 hs3=>?_);replace hTO3:IsPair g3 TO x b:=hTO3
 refine Ua (wpAny_letGo (Uj ?_));refine Ua (Ua (Wa ?_))
 show wpAny _ _ (Builtin.SmallTypes.nextOf (.ref i2) >>= _) _ _ _
 refine Ua (QhY (h2.at λo e=>hs3.extBut _ o D.TOi2.symm (hs2.extBut _ o D.i12.symm (hs1.extBut _ o D.i2z e))) (hl2.at λo e=>hs3.extBut _ o D.l2TO (hs2.extBut _ o D.l2i1 (hs1.extBut _ o D.l2z e))) hy λg4 h24 hs4=>Uj ?_)
 have hTO4:IsPair g4 TO x b:=hs4.extBut _ _ D.TOi2 hTO3
 refine Ua (TB hTO4 rfl ?_);refine Ua (Rt hTO4 λg5 hTO5 hs5=>?_);replace hTO5:IsPair g5 TO x y:=hTO5
 refine Ua (wpAny_letGo (Uj (Uj ?_)));refine Ua (TB hTO5 rfl ?_);refine Ua (wpAny_newTuple ?_)
 have hsz:g5.objs.size=s.heap.objs.size:=by rw[hs5.1,hs4.1,hs3.1,hs2.1,hs1.1]
 have hz5:IsZip g5 z TI TO .ellipsis:=hs5.extBut _ _ D.TOz.symm (hs4.extBut _ _ D.i2z.symm (hs3.extBut _ _ D.TOz.symm (hs2.extBut _ _ D.i1z.symm hz1)))
 have hk5:∀c o,c≠z->c≠TO->c≠i1->c≠i2->s.heap.get? c=some o->g5.get? c=some o:=λc o c1 c2 c3 c4 e=>hs5.extBut _ _ c2 (hs4.extBut _ _ c4 (hs3.extBut _ _ c2 (hs2.extBut _ _ c3 (hs1.extBut _ _ c1 e))))
 have h15:IsIt b1 g5 i1 l1 (k+1):=h12.at λo e=>hs5.extBut _ o D.TOi1.symm (hs4.extBut _ o D.i12 (hs3.extBut _ o D.TOi1.symm e))
 have h25:IsIt b2 g5 i2 l2 (k+1):=h24.at λo e=>hs5.extBut _ o D.TOi2.symm e
 have hzlt:z<g5.objs.size:=Uk hz5
 show wpAny _ _ (Builtin.SmallTypes.ownedTupleHandOut (.ref z) (.ref g5.objs.size) >>= _) _ _ _
 refine Ua ?_;unfold Builtin.SmallTypes.ownedTupleHandOut
 have hz6:IsZip (g5.push {cls:=.type "tuple",data:=.seq #[x,y]}) z TI TO .ellipsis:=Ub _ hz5
 refine Ua (Tz hz6 (by simp) λg7 hz7 hs7=>?_);replace hz7:IsZip g7 z TI TO (rawInt g5.objs.size):=hz7
 refine Tz hz7 (by simp) λg8 hz8 hs8=>?_;replace hz8:IsZip g8 z TI TO (rawInt g5.objs.size):=hz8
 have upz:∀c o,c≠z->g5.get? c=some o->g8.get? c=some o:=λc o c1 e=>hs8.extBut _ _ c1 (hs7.extBut _ _ c1 (Ub _ e))
 have hT8:IsPair g8 g5.objs.size x y:=hs8.extBut _ _ (RD hzlt) (hs7.extBut _ _ (RD hzlt) (Us _ rfl))
 have hsz8:g8.objs.size=g5.objs.size+1:=by rw[hs8.1,hs7.1,Ti]
 rw[hsz]at hz8 hT8 hsz8;refine Uj ⟨_,rfl,?_⟩;show Q (.ref g5.objs.size) _;rw[hsz]
 exact hQ g8 hz8 (upz _ _ D.TOz hTO5) (h15.at λo e=>upz _ o D.i1z e) (h25.at λo e=>upz _ o D.i2z e) hT8 hsz8 λc o c1 c2 c3 c4 e=>upz c o c1 (hk5 c o c1 c2 c3 c4 e)
theorem QmY{b1 b2:Bool}{z TI TO i1 i2 l1 l2:Addr}{k:Nat}{xs ys:Array Value}{a b:Value}{Q:Fin->Shared->Prop}(hh:A.handled=none)(D:ZipApart z TI TO i1 i2 l1 l2)(hz:IsZip s.heap z TI TO .none)(hTI:IsPair s.heap TI (.ref i1) (.ref i2))(hTO:IsPair s.heap TO a b)(h1:IsIt b1 s.heap i1 l1 k)(h2:IsIt b2 s.heap i2 l2 k)(hl1:IsSq b1 s.heap l1 xs)(hl2:IsSq b2 s.heap l2 ys)(hend:xs[k]?=none\/ys[k]?=none)(hE:∀h' e,(∀c o,c≠z->c≠TO->c≠i1->c≠i2->s.heap.get? c=some o->h'.get? c=some o)->(∃o,h'.get? e=some o/\o.cls=.type "StopIteration")->E (.ref e) {s with heap:=h'}):
  wpAny (model prog w) A (Builtin.«zip.__next__» ⟨[.ref z],[]⟩) Q E s:=by
 show wpAny _ _ (field (.ref z) 2 >>= _) _ _ _;refine Ua (UQ hz rfl (x:=.bool false) rfl ?_)
 show wpAny _ _ (field (.ref z) 3 >>= _) _ _ _;refine Ua (UQ hz rfl (x:=.ref TI) rfl ?_);refine Ua (TB hTI rfl ?_)
 show wpAny _ _ (Builtin.SmallTypes.ownedTupleIsFree (.ref z) >>= _) _ _ _;refine Ua ?_;unfold Builtin.SmallTypes.ownedTupleIsFree
 refine Ua (UQ hz rfl (x:=.none) rfl (Uj ?_));simp only[TX];refine Ua (Bf ?_);refine Ua (UQ hz rfl (x:=.ref TO) rfl ?_)
 refine Ua (Tz hz (by simp) λg1 hz1 hs1=>?_);replace hz1:IsZip g1 z TI TO .ellipsis:=hz1
 refine Ua ?_;simp only[List.zipIdx_cons,List.zipIdx_nil,Ry,RP];refine Ua (Ua (Wa ?_))
 show wpAny _ _ (Builtin.SmallTypes.nextOf (.ref i1) >>= _) _ _ _
 cases hx:xs[k]? with
 |none =>
  refine Ua (QhZ hh (h1.at λo e=>hs1.extBut _ o D.i1z e) (hl1.at λo e=>hs1.extBut _ o D.l1z e) hx λg2 e hs2 he=>?_)
  obtain⟨oe,hoe,hce⟩:=he;have hz2:IsZip g2 z TI TO .ellipsis:=hs2 _ _ D.i1z.symm hz1
  have hez:e≠z:=λq=>by subst q;rw[hz2]at hoe;cases hoe;simp at hce
  refine Tz hz2 (by simp) λg3 _ hs3=>hE g3 e (λc o c1 _ c3 _ q=>hs3.extBut _ _ c1 (hs2 _ _ c3 (hs1.extBut _ _ c1 q))) ⟨oe,hs3.extBut _ _ hez hoe,hce⟩
 |some x =>
  have hy:ys[k]?=none:=by rcases hend with q|q;(· rw[hx]at q;cases q);exact q
  refine Ua (QhY (h1.at λo e=>hs1.extBut _ o D.i1z e) (hl1.at λo e=>hs1.extBut _ o D.l1z e) hx λg2 h12 hs2=>Uj ?_)
  have hTO2:IsPair g2 TO a b:=hs2.extBut _ _ D.TOi1 (hs1.extBut _ _ D.TOz hTO)
  refine Ua (TB hTO2 rfl ?_);refine Ua (Rt hTO2 λg3 hTO3 hs3=>?_);refine Ua (wpAny_letGo (Uj ?_));refine Ua (Ua (Wa ?_))
  show wpAny _ _ (Builtin.SmallTypes.nextOf (.ref i2) >>= _) _ _ _
  refine Ua (QhZ hh (h2.at λo e=>hs3.extBut _ o D.TOi2.symm (hs2.extBut _ o D.i12.symm (hs1.extBut _ o D.i2z e))) (hl2.at λo e=>hs3.extBut _ o D.l2TO (hs2.extBut _ o D.l2i1 (hs1.extBut _ o D.l2z e))) hy λg4 e hs4 he=>?_)
  obtain⟨oe,hoe,hce⟩:=he;have hz4:IsZip g4 z TI TO .ellipsis:=hs4 _ _ D.i2z.symm (hs3.extBut _ _ D.TOz.symm (hs2.extBut _ _ D.i1z.symm hz1))
  have hez:e≠z:=λq=>by subst q;rw[hz4]at hoe;cases hoe;simp at hce
  refine Tz hz4 (by simp) λg5 _ hs5=>hE g5 e (λc o c1 c2 c3 c4 q=>hs5.extBut _ _ c1 (hs4 _ _ c4 (hs3.extBut _ _ c2 (hs2.extBut _ _ c3 (hs1.extBut _ _ c1 q))))) ⟨oe,hs5.extBut _ _ hez hoe,hce⟩
theorem QgK{b1 b2:Bool}{z TI TO i1 i2 l1 l2:Addr}{k:Nat}{xs ys:Array Value}{x y a b:Value}{Q:Option Value->Shared->Prop}(D:ZipApart z TI TO i1 i2 l1 l2)(hz:IsZip s.heap z TI TO .none)(hTI:IsPair s.heap TI (.ref i1) (.ref i2))(hTO:IsPair s.heap TO a b)(h1:IsIt b1 s.heap i1 l1 k)(h2:IsIt b2 s.heap i2 l2 k)(hl1:IsSq b1 s.heap l1 xs)(hl2:IsSq b2 s.heap l2 ys)(hx:xs[k]?=some x)(hy:ys[k]?=some y)(hQ:∀h',IsZip h' z TI TO (rawInt s.heap.objs.size)->IsPair h' TO x y->IsIt b1 h' i1 l1 (k+1)->IsIt b2 h' i2 l2 (k+1)->IsPair h' s.heap.objs.size x y->h'.objs.size=s.heap.objs.size+1 ->
   (∀c o,c≠z->c≠TO->c≠i1->c≠i2->s.heap.get? c=some o->h'.get? c=some o)->Q (some (.ref s.heap.objs.size)) {s with heap:=h'}):wpAny (model prog w) A (pyNext (.ref z)) Q E s:=by
 have hT:s.TypeIs (.ref z) "zip":=⟨_,hz,rfl⟩;unfold pyNext
 exact Ua (wpAny_attempt (U9 (name:=Str.ofString "__next__") hT Rz (TQ Rz hT F.entry_zip_next (Qlq D hz hTI hTO h1 h2 hl1 hl2 hx hy λh' a1 a2 a3 a4 a5 a6 a7=>Uj (hQ h' a1 a2 a3 a4 a5 a6 a7)) (F.args_zip_next_1 _))))
theorem Qdv{b1 b2:Bool}{z TI TO i1 i2 l1 l2:Addr}{k:Nat}{xs ys:Array Value}{a b:Value}{Q:Option Value->Shared->Prop}(hh:A.handled=none)(D:ZipApart z TI TO i1 i2 l1 l2)(hz:IsZip s.heap z TI TO .none)(hTI:IsPair s.heap TI (.ref i1) (.ref i2))(hTO:IsPair s.heap TO a b)(h1:IsIt b1 s.heap i1 l1 k)(h2:IsIt b2 s.heap i2 l2 k)(hl1:IsSq b1 s.heap l1 xs)(hl2:IsSq b2 s.heap l2 ys)(hend:xs[k]?=none\/ys[k]?=none)(hQ:∀h',(∀c o,c≠z->c≠TO->c≠i1->c≠i2->s.heap.get? c=some o->h'.get? c=some o)->Q none {s with heap:=h'}):wpAny (model prog w) A (pyNext (.ref z)) Q E s:=by
 have hT:s.TypeIs (.ref z) "zip":=⟨_,hz,rfl⟩;unfold pyNext
 refine Ua (wpAny_attempt (U9 (name:=Str.ofString "__next__") hT Rz (TQ Rz hT F.entry_zip_next (QmY hh D hz hTI hTO h1 h2 hl1 hl2 hend λh' e hk he=>?_) (F.args_zip_next_1 _))))
 obtain⟨o,ho,hc⟩:=he;refine Ua (wpAny_isInstance (T:="StopIteration") (b:=true) ⟨o,ho,hc⟩ isSubtype_stop ?_);exact Uj (hQ _ hk)
noncomputable def QmZ(b:Bool):String:=if b=true then "list_iterator" else "tuple_iterator"
noncomputable def Qdw(b:Bool)(l:Addr):Obj:={cls:=.type (QmZ b),data:=.fields #[.ref l,.int 0 0]}
theorem Qeu{b:Bool}{l:Addr}{xs:Array Value}{Q:Value->Shared->Prop}(hl:IsSq b s.heap l xs)(h:Q (.ref s.heap.objs.size) {s with heap:=s.heap.push (Qdw b l)}):wpAny (model prog w) A (pyIter (.ref l)) Q E s:=by
 cases b
 ·exact RN hl h
 ·exact RU hl h
theorem IsSq.push{b:Bool}{h:Heap}{l:Addr}{xs:Array Value}(x:IsSq b h l xs)(o:Obj):IsSq b (h.push o) l xs:=x.at λ_ e=>Ub _ e
noncomputable abbrev zH1(b1:Bool)(h:Heap)(l1:Addr):Heap:=h.push (Qdw b1 l1)
noncomputable abbrev zH2(b1 b2:Bool)(h:Heap)(l1 l2:Addr):Heap:=(zH1 b1 h l1).push (Qdw b2 l2)
noncomputable abbrev zH3(b1 b2:Bool)(h:Heap)(l1 l2:Addr):Heap:=(zH2 b1 b2 h l1 l2).push {cls:=.type "tuple",data:=.seq #[.ref h.objs.size,.ref (zH1 b1 h l1).objs.size]}
noncomputable abbrev zH4(b1 b2:Bool)(h:Heap)(l1 l2:Addr):Heap:=(zH3 b1 b2 h l1 l2).push {cls:=.type "tuple",data:=.seq #[.none,.none]}
noncomputable abbrev zH5(b1 b2:Bool)(h:Heap)(l1 l2:Addr):Heap:=(zH4 b1 b2 h l1 l2).push {cls:=.type "zip",data:=.fields #[.none,.bool false,.bool false,.ref (zH2 b1 b2 h l1 l2).objs.size,.ref (zH3 b1 b2 h l1 l2).objs.size]}
theorem Qlr(b1 b2:Bool)(l1 l2:Addr)(xs ys:Array Value):Meets (Builtin.«zip.__new__» ⟨[.type "zip",.ref l1,.ref l2],[]⟩) (λ_ R s=>IsSq b1 s.heap l1 xs/\IsSq b2 s.heap l2 ys/\R (.ok (.ret (.ref (zH4 b1 b2 s.heap l1 l2).objs.size))) {s with heap:=zH5 b1 b2 s.heap l1 l2}) :=
 .of_wp λprog w A R s h=>by
  obtain⟨hp,g,d,tk,os⟩:=s;obtain⟨hl1,hl2,h⟩:=h;have hsub:=sub_zip
  have hL1:IsSq b1 (Shared.heap ⟨hp,g,d,tk,os⟩) l1 xs:=hl1
  have hL2:IsSq b2 (Shared.heap ⟨hp.push (Qdw b1 l1),g,d,tk,os⟩) l2 ys:=hl2.push _
  wp_walk using Qeu hL1,Qeu hL2
  exact⟨_,rfl,h⟩
theorem itAt(b:Bool){h:Heap}{i l:Addr}(e:h.get? i=some (Qdw b l)):IsIt b h i l 0:=by
 cases b
 ·exact⟨_,e,rfl,rfl⟩
 ·exact⟨_,e,rfl,rfl⟩
theorem QjO{b1 b2:Bool}{l1 l2:Addr}{xs ys:Array Value}{Q:Value->Shared->Prop}(hl1:IsSq b1 s.heap l1 xs)(hl2:IsSq b2 s.heap l2 ys)(h:∀h',IsZip h' (s.heap.objs.size+4) (s.heap.objs.size+2) (s.heap.objs.size+3) .none->IsPair h' (s.heap.objs.size+2) (.ref s.heap.objs.size) (.ref (s.heap.objs.size+1))->IsPair h' (s.heap.objs.size+3) .none .none ->
   IsIt b1 h' s.heap.objs.size l1 0->IsIt b2 h' (s.heap.objs.size+1) l2 0->h'.objs.size=s.heap.objs.size+5->(∀c o,s.heap.get? c=some o->h'.get? c=some o)->Q (.ref (s.heap.objs.size+4)) {s with heap:=h'}):
  wpAny (model prog w) A (call (.type "zip") [.ref l1,.ref l2]) Q E s:=by
 refine callType_new F.called_zip (by decide) (F.typeCall_zip_2 _ _) (F.newCall_zip_2 _ _) (λobj=>F.args_object_init_3 obj _ _) F.entry_zip_new (Qlr b1 b2 l1 l2 xs ys) ⟨hl1,hl2,?_⟩
 have z1:(zH1 b1 s.heap l1).objs.size=s.heap.objs.size+1:=Ti ..
 have z2:(zH2 b1 b2 s.heap l1 l2).objs.size=s.heap.objs.size+2:=by rw[Ti,z1]
 have z3:(zH3 b1 b2 s.heap l1 l2).objs.size=s.heap.objs.size+3:=by rw[Ti,z2]
 have z4:(zH4 b1 b2 s.heap l1 l2).objs.size=s.heap.objs.size+4:=by rw[Ti,z3]
 have z5:(zH5 b1 b2 s.heap l1 l2).objs.size=s.heap.objs.size+5:=by rw[Ti,z4]
 have g5:(zH5 b1 b2 s.heap l1 l2).get? (zH4 b1 b2 s.heap l1 l2).objs.size=some _:=Us _ rfl
 have g4:(zH5 b1 b2 s.heap l1 l2).get? (zH3 b1 b2 s.heap l1 l2).objs.size=some _:=Ub _ (Us _ rfl)
 have g3:(zH5 b1 b2 s.heap l1 l2).get? (zH2 b1 b2 s.heap l1 l2).objs.size=some _:=Ub _ (Ub _ (Us _ rfl))
 have g2:(zH5 b1 b2 s.heap l1 l2).get? (zH1 b1 s.heap l1).objs.size=some (Qdw b2 l2):=Ub _ (Ub _ (Ub _ (Us _ (by unfold Qdw;rfl))))
 have g1:(zH5 b1 b2 s.heap l1 l2).get? s.heap.objs.size=some (Qdw b1 l1):=Ub _ (Ub _ (Ub _ (Ub _ (Us _ (by unfold Qdw;rfl)))))
 show _/\_
 rw[z2,z3,z4]at g5;rw[z1,z2]at g3;rw[z3]at g4;rw[z1]at g2;rw[z4]
 exact⟨⟨_,g5,rfl⟩,h _ g5 g3 g4 (itAt b1 g1) (itAt b2 g2) z5 λc o q=>Ub _ (Ub _ (Ub _ (Ub _ (Ub _ q))))⟩
end
def Sq(b:Bool)(K:Frag)(H:Hp)(a:Addr)(xs:List V):Prop:=if b=true then SqL K H a xs else SqT K H a xs
theorem Sq.real{b:Bool}{X:Cx}{pins:List (Addr×Obj)}{σ:L2.St}{H:Hp}{s:Shared}{a:Addr}{xs:List V}(I:Inv X pins σ H s)(h:Sq b X.K H a xs):∃its:List Value,Vals xs its/\IsSq b s.heap a its.toArray:=by
 cases b
 ·obtain⟨its,r,p,_⟩:=I.tuple (show SqT X.K H a xs from h);exact⟨its,r,p⟩
 ·obtain⟨its,r,p,_⟩:=I.list (show SqL X.K H a xs from h);exact⟨its,r,p.isList⟩
theorem Sq.inj{b:Bool}{X:Cx}{pins:List (Addr×Obj)}{σ:L2.St}{H:Hp}{s:Shared}{a:Addr}{xs ys:List V}(I:Inv X pins σ H s)(h:Sq b X.K H a xs)(h':Sq b X.K H a ys):xs=ys:=by
 cases b
 ·exact I.tuple_inj h h'
 ·exact I.list_inj h h'
noncomputable def Itz(K:Frag)(b1 b2:Bool)(a1 a2:Addr):It :=
  ⟨λi H=>∃xs ys x y,Sq b1 K H a1 xs/\Sq b2 K H a2 ys/\xs[i]?=some x/\ys[i]?=some y,
   λi H v H'=>∃p x y,H p=none/\v=.ref p/\H'=upd H p (.tup [x,y])/\(∀xs,Sq b1 K H a1 xs->xs[i]?=some x)/\∀ys,Sq b2 K H a2 ys->ys[i]?=some y,
   λi H=>∃xs ys,Sq b1 K H a1 xs/\Sq b2 K H a2 ys/\(xs.length<=i\/ys.length<=i)⟩
noncomputable def Qn3(b1 b2:Bool)(z TI TO i1 i2 l1 l2:Addr)(i:Nat)(h:Heap):Prop :=
 IsZip h z TI TO .none/\IsPair h TI (.ref i1) (.ref i2)/\(∃a b,IsPair h TO a b)/\IsIt b1 h i1 l1 i/\IsIt b2 h i2 l2 i
theorem QjP{P:Program}{w:World}{K:Frag}{elts:List Expr}{kk:Nat}{tp:Pos}(b1 b2:Bool)(z TI TO i1 i2 l1 l2:Addr)(D:ZipApart z TI TO i1 i2 l1 l2):
  Turn P w K (.Tuple elts kk tp) (Itz K b1 b2 l1 l2) [z,TI,TO,i1,i2] z (Qn3 b1 b2 z TI TO i1 i2 l1 l2) where
 mem:=by simp
 obj:=λi h st b hb=>by
  obtain⟨hz,hTI,⟨a,c,hTO⟩,h1,h2⟩:=st
  have hb':b=z\/b=TI\/b=TO\/b=i1\/b=i2:=by simpa using hb
  rcases hb' with rfl|rfl|rfl|rfl|rfl
  ·exact⟨_,hz,λv q=>by cases q⟩
  ·exact⟨_,hTI,λv q=>by cases q⟩
  ·exact⟨_,hTO,λv q=>by cases q⟩
  ·exact h1.rec
  ·exact h2.rec
 keep:=λi h h' st k=>by
  obtain⟨hz,hTI,⟨a,c,hTO⟩,h1,h2⟩:=st
  exact⟨k z (by simp) _ hz,k TI (by simp) _ hTI,⟨a,c,k TO (by simp) _ hTO⟩,h1.at λo e=>k i1 (by simp) o e,h2.at λo e=>k i2 (by simp) o e⟩
 item:=by
  intro X hP hw hK hc i pins s σ H E I hf st hg
  subst hP hw hK
  obtain⟨xs,ys,x,y,q1,q2,hx,hy⟩:=hg
  obtain⟨us,r1,p1⟩:=q1.real I
  obtain⟨ts,r2,p2⟩:=q2.real I
  obtain⟨u,hu,ru⟩:=r1.get hx
  obtain⟨t,ht,rt⟩:=r2.get hy
  obtain⟨hz,hTI,⟨a,c,hTO⟩,h1,h2⟩:=st
  have fz:=hf z (by simp)
  have fTI:=hf TI (by simp)
  have fTO:=hf TO (by simp)
  have f1:=hf i1 (by simp)
  have f2:=hf i2 (by simp)
  refine QgK D hz hTI hTO h1 h2 p1 p2 (by simpa using hu) (by simpa using ht) λh' a1 a2 a3 a4 a5 a6 hk=>?_
  have hp:H s.heap.objs.size=none:=I.hok.fresh (Ui _)
  have inC:∀b,b∈[z,TO,i1,i2]->FpOk X pins H b:=λb hb=>by
   have hb':b=z\/b=TO\/b=i1\/b=i2:=by simpa using hb
   rcases hb' with rfl|rfl|rfl|rfl
   ·exact fz
   ·exact fTO
   ·exact f1
   ·exact f2
  have hk':∀b o,b∉[z,TO,i1,i2]->s.heap.get? b=some o->h'.get? b=some o:=λb o hb e=>hk b o (λq=>hb (by simp[q])) (λq=>hb (by simp[q])) (λq=>hb (by simp[q])) (λq=>hb (by simp[q])) e
  have nC:∀b v,H b=some v->b∉[z,TO,i1,i2]:=λb v e hb=>by rw[(inC b hb).1]at e;cases e
  have nP:∀b v,H b=some v->b≠s.heap.objs.size:=λb v e=>Q3 e hp
  have I1:Inv X pins σ (upd H s.heap.objs.size (.tup [x,y])) {s with heap:=h'}:=by
   refine I.step (g':=s.gens) (t':=s.toks) (d':=s.drawn) (ch:=[z,TO,i1,i2]) (λb hb=>⟨(inC b hb).2.2.2.1,(inC b hb).2.1,(inC b hb).2.2.2.2.1,(inC b hb).2.2.2.2.2⟩) (λb o _ _ hb e _=>hk' b o hb e) (λb o _ _ hb e _=>⟨o.slots,hk' b o hb e⟩)
    (λb o hb e n=>by rw[QF (UP (Uk e))];exact n) (λb o hb e=>⟨o,hk' b o hb e⟩) (λb v e=>by rw[QF (nP b _ e)];exact e) (λb o v e=>by rw[QF (nP b _ e)];exact e) (λb ps e=>⟨#[],by rw[QF (nP b _ e),e];simp⟩)
    (λm hm=>?_) (λb v e=>?_) I.bare
   ·obtain⟨o,es,ep,ho,rr⟩:=hm
    exact⟨o,es,ep,hk' _ o (λhb=>(inC _ hb).2.1 rfl) ho,rr⟩
   ·by_cases hb:b=s.heap.objs.size
    ·subst hb
     rw[Qr]at e;cases e
     exact⟨by rw[Ri];show 2<=16777216;decide,[u,t],.cons ru (.cons rt .nil),⟨_,a5,rfl,_,rfl⟩⟩
    ·rw[QF hb]at e
     refine(I.hok b v e).stay (λc' v' hc' q=>?_) (λc' q=>by rw[QF (nP c' _ q)];exact q) λc' xs' q=>by rw[QF (nP c' _ q)];exact q
     rcases hc' with rfl|hc'
     ·exact hk' _ _ (nC _ _ e) q
     ·exact hk' _ _ (nC _ _ hc') q
  refine⟨_,rfl,wpAny_letOwnedTupleGo_zip a1 λh'' hz'' hs''=>?_⟩
  have hpz:s.heap.objs.size≠z:=RD (Uk hz)
  have I2:Inv X pins σ (upd H s.heap.objs.size (.tup [x,y])) {s with heap:=h''}:=Inv.turned (s:={s with heap:=h'}) (t':=s.toks) I1 (λb o hb e=>hs''.extBut b o hb e) (by rw[QF (Ne.symm hpz)];exact fz.1) fz.2.1 fz.2.2.2.1 fz.2.2.2.2.1 fz.2.2.2.2.2
  refine⟨.ref s.heap.objs.size,_,I2,rfl,⟨_,x,y,hp,rfl,rfl,λxs' q=>by rw[q.inj I q1];exact hx,λys' q=>by rw[q.inj I q2];exact hy⟩,
   ⟨hz'',hs''.extBut _ _ D.TIz (hk _ _ D.TIz D.TITO D.TIi1 D.TIi2 hTI),⟨_,_,hs''.extBut _ _ D.TOz a2⟩,a3.at λo e=>hs''.extBut _ o D.i1z e,a4.at λo e=>hs''.extBut _ o D.i2z e⟩,λb hb=>?_⟩
  have lt:b<s.heap.objs.size:=by
   have hb':b=z\/b=TI\/b=TO\/b=i1\/b=i2:=by simpa using hb
   rcases hb' with rfl|rfl|rfl|rfl|rfl
   ·exact Uk hz
   ·exact Uk hTI
   ·exact Uk hTO
   ·exact h1.lt
   ·exact h2.lt
  rw[QF (UP lt)]
  exact(hf b hb).1
 done:=by
  intro X hP hw hK hc i pins s σ H E I hf st hg
  subst hP hw hK
  obtain⟨xs,ys,q1,q2,hl⟩:=hg
  obtain⟨us,r1,p1⟩:=q1.real I
  obtain⟨ts,r2,p2⟩:=q2.real I
  have l1:=r1.length
  have l2:=r2.length
  obtain⟨hz,hTI,⟨a,c,hTO⟩,h1,h2⟩:=st
  have inC:∀b,b∈[z,TO,i1,i2]->FpOk X pins H b:=λb hb=>hf b (by
   have hb':b=z\/b=TO\/b=i1\/b=i2:=by simpa using hb
   rcases hb' with rfl|rfl|rfl|rfl <;> simp)
  refine Qdv (I.ok.hd hc) D hz hTI hTO h1 h2 p1 p2 (by
   rcases hl with z|z
   ·exact .inl (by simp;omega)
   ·exact .inr (by simp;omega)) λh' hk=>⟨rfl,?_⟩
  have hk':∀b o,b∉[z,TO,i1,i2]->s.heap.get? b=some o->h'.get? b=some o:=λb o hb e=>hk b o (λq=>hb (by simp[q])) (λq=>hb (by simp[q])) (λq=>hb (by simp[q])) (λq=>hb (by simp[q])) e
  have nC:∀b v,H b=some v->b∉[z,TO,i1,i2]:=λb v e hb=>by rw[(inC b hb).1]at e;cases e
  refine I.step (g':=s.gens) (t':=s.toks) (d':=s.drawn) (ch:=[z,TO,i1,i2]) (λb hb=>⟨(inC b hb).2.2.2.1,(inC b hb).2.1,(inC b hb).2.2.2.2.1,(inC b hb).2.2.2.2.2⟩) (λb o _ _ hb e _=>hk' b o hb e) (λb o _ _ hb e _=>⟨o.slots,hk' b o hb e⟩)
   (λb o hb e n=>n) (λb o hb e=>⟨o,hk' b o hb e⟩) (λb v e=>e) (λb o v e=>e) (λb ps e=>⟨#[],by rw[e];simp⟩) (λm hm=>?_) (λb v e=>?_) I.bare
  ·obtain⟨o,es,ep,ho,rr⟩:=hm
   exact⟨o,es,ep,hk' _ o (λhb=>(inC _ hb).2.1 rfl) ho,rr⟩
  ·refine(I.hok b v e).stay (λc' v' hc' q=>?_) (λc' q=>q) λc' xs' q=>q
   rcases hc' with rfl|hc'
   ·exact hk' _ _ (nC _ _ e) q
   ·exact hk' _ _ (nC _ _ hc') q
 self:=λ_ _ _ _ _ st h=>wpAny_pyIter_zip st.1 h
section
variable{X:Cx}{ca:Nat->Addr}{e1 e2:Expr}{m1 m2:ME}{p pos tp:Pos}{elts:List Expr}{kk:Nat}
theorem Qm0{ta:TA}(hg:Gl X "zip")(hm:X.mg "zip" = none)(ha:PA X [e1,e2] ta)(hs:starEach [e1,e2] X.env=[(false,eval e1 X.env),(false,eval e2 X.env)])(hs2:starEach [e2] X.env=[(false,eval e2 X.env)]):
  PI X (.Tuple elts kk tp) (.Call (.Name "zip" p) [e1,e2] [] pos) (λσ H R=>ta σ H λvs H1=>∃b1 b2 a1 a2 xs ys,vs=[.ref a1,.ref a2]/\Sq b1 X.K H1 a1 xs/\Sq b2 X.K H1 a2 ys/\R (Itz X.K b1 b2 a1 a2) H1):=by
 intro pins s σ H R I h
 refine Call_ (Qd8 I hg hm boot_zip (T0 (thn (ha pos pins s σ H _ I h) λus s1 ⟨vs,H1,I1,r1,q1⟩=>?_) (by rw[hs,hs2]) (by rw[hs2];rfl)))
 obtain⟨b1,b2,a1,a2,xs,ys,rfl,q1,q2,q⟩:=q1
 cases r1 with
 |cons ru rr =>
  cases rr with
  |cons rt rr =>
   cases rr
   cases ru
   cases rt
   obtain⟨its1,v1,p1⟩:=q1.real I1
   obtain⟨its2,v2,p2⟩:=q2.real I1
   refine QjO p1 p2 λh' hz hTI hTO hi1 hi2 hsz hk=>wpAny_pyIter_zip hz ?_
   have I2:Inv X pins σ H1 {s1 with heap:=h'}:=I1.kept (t':=s1.toks) hk
   refine⟨s1.heap.objs.size+4,_,_,_,H1,rfl,I2,QjP b1 b2 _ (s1.heap.objs.size+2) (s1.heap.objs.size+3) s1.heap.objs.size (s1.heap.objs.size+1) a1 a2 (PyProof.Rows.zipApart_new p1.lt p2.lt),⟨hz,hTI,⟨_,_,hTO⟩,hi1,hi2⟩,λb hb=>?_,q⟩
   have hb':b=s1.heap.objs.size+4\/b=s1.heap.objs.size+2\/b=s1.heap.objs.size+3\/b=s1.heap.objs.size\/b=s1.heap.objs.size+1:=by simpa using hb
   have hle:s1.heap.objs.size<=b:=by rcases hb' with h|h|h|h|h <;> rw[h] <;> first|exact Ui _|exact Nat.le_add_right _ _
   exact I1.fpOk hle (I1.hok.fresh hle)
theorem QaS{K:Frag}{μ:List Addr}{H:Hp}{g:G}{v:V}{d:D}{b:Bool}{ds:List D}(r:GRep K ca μ H g)(q:Den K μ H v d)(h:QK g d=some (b,ds)):∃a vs,v=.ref a/\Sq b K H a vs/\Dens K μ H vs ds:=by
 cases q with
 |@tup a vs es ht hs=>cases h;exact⟨a,vs,rfl,ht,hs⟩
 |@fl a vs es ht hs=>cases h;exact⟨a,vs,rfl,ht.sq,hs⟩
 |@ref n a hn =>
  unfold QK at h
  dsimp only at h
  cases hg:g[n]? with
  |none=>rw[hg]at h;cases h
  |some o =>
   rw[hg]at h
   obtain⟨a',ha',ob⟩:=r.addr hg
   rw[hn]at ha';cases ha'
   cases o with
   |lst es=>cases h;obtain⟨vs,hH,q⟩:=ob;exact⟨a,vs,rfl,SqL.of hH,q⟩
   |_=>cases h
 |_=>cases h
theorem QcY{K:Frag}{μ:List Addr}{H:Hp}{g g':G}{μ':List Addr}{H':Hp}{d:D}{v:V}{b b':Bool}{ds ds':List D}(h:QK g d=some (b,ds))(h':QK g' d=some (b',ds')):b=b':=by
 unfold QK at h h'
 cases d with
 |tup es=>cases h;cases h';rfl
 |fl es=>cases h;cases h';rfl
 |ref n =>
  dsimp only at h h'
  have k1:b=true:=by
   cases hg:g[n]? with
   |none=>rw[hg]at h;cases h
   |some o=>rw[hg]at h;cases o <;> cases h <;> rfl
  have k2:b'=true:=by
   cases hg:g'[n]? with
   |none=>rw[hg]at h';cases h'
   |some o=>rw[hg]at h';cases o <;> cases h' <;> rfl
  rw[k1,k2]
 |_=>cases h
theorem Qls{K:Frag}{μ:List Addr}{H:Hp}{g:G}{v1 v2:V}{d1 d2:D}{b1 b2:Bool}{xs ys:List D}{t:Nat}(q1:Den K μ H v1 d1)(q2:Den K μ H v2 d2)(h1:QK g d1=some (b1,xs))(h2:QK g d2=some (b2,ys)){a1 a2:Addr}(e1:v1=.ref a1)(e2:v2=.ref a2):
  Sim K ca μ H ⟨λg i=>(match QK g d1,QK g d2 with
  |some (_,xs),some (_,ys)=>(match xs[i]?,ys[i]? with
   |some x,some y=>some (some (.tup [x,y]))
   |_,_=>some none)
  |_,_=>none),t⟩ (Itz K b1 b2 a1 a2):=by
 intro i H1 μ1 g1 ex r
 dsimp only
 cases k1:QK g1 d1 with
 |none=>trivial
 |some p1 =>
  obtain⟨c1,xs1⟩:=p1
  cases k2:QK g1 d2 with
  |none=>trivial
  |some p2 =>
   obtain⟨c2,ys1⟩:=p2
   have f1:=QcY (K:=K) (μ:=μ) (H:=H) (μ':=μ) (H':=H) (v:=v1) h1 k1
   have f2:=QcY (K:=K) (μ:=μ) (H:=H) (μ':=μ) (H':=H) (v:=v1) h2 k2
   subst f1 f2
   obtain⟨z1,vs,w1,s1,d1s⟩:=QaS r (q1.mono ex) k1
   obtain⟨z2,ws,w2,s2,d2s⟩:=QaS r (q2.mono ex) k2
   rw[e1]at w1;cases w1
   rw[e2]at w2;cases w2
   dsimp only
   cases hx:xs1[i]? with
   |none =>
    refine⟨vs,ws,s1,s2,.inl ?_⟩
    rw[d1s.length];exact Tj.mp hx
   |some x =>
    cases hy:ys1[i]? with
    |none =>
     refine⟨vs,ws,s1,s2,.inr ?_⟩
     rw[d2s.length];exact Tj.mp hy
    |some y =>
     obtain⟨vx,hvx,qx⟩:=d1s.get hx
     obtain⟨vy,hvy,qy⟩:=d2s.get hy
     refine⟨⟨vs,ws,vx,vy,s1,s2,hvx,hvy⟩,λv H' yl=>?_⟩
     obtain⟨pp,x',y',hp,rfl,rfl,u1,u2⟩:=yl
     have:=u1 vs s1
     rw[hvx]at this;cases this
     have:=u2 ws s2
     rw[hvy]at this;cases this
     exact⟨Zc hp,r.new hp,.tup (.of Qr) (.cons (qx.mono (Zc hp)) (.cons (qy.mono (Zc hp)) .nil))⟩
theorem Qn4(hm:X.mg "zip" = none)(h1:PE3 ca X e1 m1)(h2:PE3 ca X e2 m2)(hg:Gl X "zip":=by rfl)(hs:starEach [e1,e2] X.env=[(false,eval e1 X.env),(false,eval e2 X.env)]:=by rfl)(hs2:starEach [e2] X.env=[(false,eval e2 X.env)]:=by rfl)(hs3:starEach [e1,e2] X.env=(false,eval e1 X.env)::starEach [e2] X.env:=by rfl):PI3 ca X (.Tuple elts kk tp) (.Call (.Name "zip" p) [e1,e2] [] pos) (Qem m1 m2) :=
 λpn Φ=>Qdo (Qm0 (X:=xat X ca pn Φ) hg hm (Jd h1 (Jd h2 Qi hs2) hs3 pn Φ) hs hs2) λσ H R hQ=>by
  obtain⟨σ3,g,μ,Rp,q⟩:=hQ
  refine⟨σ3,g,μ,Rp,?_⟩
  unfold Qem at q
  unfold Qb mNil
  cases hm1:m1 σ3 g with
  |raise _ _=>rw[hm1]at q;exact q
  |stuck=>rw[hm1]at q;exact q.elim
  |ok d1 g1 =>
   rw[hm1,Res.bind_ok]at q
   rw[Res.bind_ok]
   cases hm2:m2 σ3 g1 with
   |raise _ _=>rw[hm2]at q;exact q
   |stuck=>rw[hm2]at q;exact q.elim
   |ok d2 g2 =>
    rw[hm2,Res.bind_ok]at q
    rw[Res.bind_ok,Res.bind_ok,Res.bind_ok]
    intro vs H1 μ1 ex r1 q1
    cases q1 with
    |@cons v1 _ _ _ n1 q1 =>
     cases q1 with
     |@cons v2 _ _ _ n2 q1 =>
      cases q1
      unfold QfO at q
      cases k1:QK g2 d1 with
      |none=>rw[k1]at q;exact q.elim
      |some p1 =>
       obtain⟨b1,xs⟩:=p1
       cases k2:QK g2 d2 with
       |none=>rw[k1,k2]at q;exact q.elim
       |some p2 =>
        obtain⟨b2,ys⟩:=p2
        rw[k1,k2]at q
        obtain⟨a1,us,rfl,s1,_⟩:=QaS r1 n1 k1
        obtain⟨a2,ts,rfl,s2,_⟩:=QaS r1 n2 k2
        exact⟨b1,b2,a1,a2,us,ts,rfl,s1,s2,q _ H1 μ1 ex r1 (Qls n1 n2 k1 k2 rfl rfl)⟩
end
theorem Ja(K:Frag)(t c:Ty):kitOne K (.type t.name) (.type c.name)=some (tyLe t c):=by
 cases t <;> cases c <;> kernel_rfl
section
variable{X:Cx}{ca:Nat->Addr}{a b c e:Expr}{ma mb mc me:ME}{pos p p2:Pos}{k:Nat}
theorem Qh0(c:Ty):CallR X (.builtin "isinstance") (λxs H Q=>∃x g μ d t,xs=[x,.ty c.name]/\GRep X.K ca μ H g/\Den X.K μ H x d/\tyOf g d=some t/\Q (.bl (tyLe t c)) H):=by
 intro pins s σ H xs us Q I rv h
 obtain⟨x,g,μ,d,t,rfl,r,q,ht,qq⟩:=h
 obtain⟨u,u2,rfl,ru,ru2⟩:=rv.two
 cases ru2
 have fin:∀tk,EP X pins σ Q (.bool (tyLe t c)) {s with toks:=tk}:=λtk=>⟨.bl _,H,I.tok tk,rfl,qq⟩
 cases q with
 |non=>cases ht;exact Jc I ru .non (Ja X.K .non c) fin
 |bl y=>cases ht;exact Jc I ru (.bl y) (Ja X.K .bool c) fin
 |int y=>cases ht;exact Jc I ru (.int y) (Ja X.K .int c) fin
 |str y=>cases ht;exact Jc I ru (.str y) (Ja X.K .str c) fin
 |@tup a vs ds hq hs =>
  cases ht
  cases ru
  obtain⟨its,_,⟨o,h1,h2,_⟩,_⟩:=I.tuple hq
  exact UV RL I.kIn ⟨o,h1,h2⟩ (Ja X.K .tuple c) (λz=>nomatch z) fin
 |@fl a vs ds hq hs =>
  cases ht
  cases ru
  obtain⟨its,_,p,_⟩:=I.list hq.sq
  obtain⟨o,h1,h2,_⟩:=p.isList
  exact UV T4 I.kIn ⟨o,h1,h2⟩ (Ja X.K .list c) (λz=>nomatch z) fin
 |@ref n a hn =>
  unfold tyOf at ht
  dsimp only at ht
  cases hg:g[n]? with
  |none=>rw[hg]at ht;cases ht
  |some o =>
   rw[hg]at ht
   obtain⟨a',ha',ob⟩:=r.addr hg
   rw[hn]at ha';cases ha'
   cases o with
   |lst ds=>cases ht;obtain⟨vs,hH,_⟩:=ob;exact Jc I ru (.lst hH) (Ja X.K .list c) fin
   |dct ks=>cases ht;obtain⟨kv,hH,_⟩:=ob;exact Jc I ru (.dK hH) (Ja X.K .dict c) fin
   |ins _ _=>cases ht
   |exc _=>cases ht
   |dfz _=>cases ht
theorem Z9{x:Str}(c:Ty)(hi:X.mg "isinstance" = none)(hm:X.mg x=none)(hv:bootBuiltins x=some (.type c.name))(he:PE3 ca X e me)(hgi:Gl X "isinstance":=by rfl)(hg:Gl X x:=by rfl)(hnm:x ≠ "__name__":=by decide)(hdb:(x == ("__debug__" : Str))=false:=by decide)(hs:starEach [e,.Name x p2] X.env=(false,eval e X.env)::starEach [.Name x p2] X.env:=by rfl)(hs2:starEach [.Name x p2] X.env=(false,eval (.Name x p2) X.env)::starEach [] X.env:=by rfl)(hpl:(backTo pos (starEach [.Name x p2] X.env)).any (·.1)=false:=by rfl):
  PE3 ca X (.Call (.Name "isinstance" p) [e,.Name x p2] [] pos) (mOp1 (ZT c) me) :=
 λpn Φ=>Zu (QbE (X:=xat X ca pn Φ) (Qh0 (ca:=ca) c) hgi hi boot_isinstance (QaE (X:=xat X ca pn Φ) (he pn Φ) (QaE (X:=xat X ca pn Φ) (Qe5 (X:=xat X ca pn Φ) (v:=.ty c.name) hg hm hv rfl hnm hdb) QfK hs2) hs) (by decide) (by decide) hs hpl) λσ H Q ⟨σ3,g,μ,R,q⟩ =>
  Zs (Qar R q) λy H1 hQ=>by
   obtain⟨d,g1,μ1,e1,R1,q1,p1⟩:=hQ
   unfold ZT at p1
   cases ht:tyOf g1 d with
   |none=>rw[ht]at p1;exact p1.elim
   |some t=>rw[ht]at p1;exact⟨y,g1,μ1,d,t,rfl,R1.g,q1,ht,p1 _ H1 μ1 .refl R1.g (.bl _)⟩
theorem Qf2{K:Frag}{μ:List Addr}{H:Hp}:∀{vs:List V}{ds:List D}{us:List Value}{b:Bool},Dens K μ H vs ds->Vals vs us->allB ds=some b->∃bs:List Bool,us=bs.map Value.bool/\bs.all id=b
 |_,_,_,b,.nil,.nil,h=>by cases h;exact⟨[],rfl,rfl⟩
 |_,_,_,b,@Dens.cons _ _ _ _ _ _ ds q qs,.cons r rs,h=>by
  cases q with
  |bl c =>
   unfold allB at h
   cases hd:allB ds with
   |none=>rw[hd]at h;cases h
   |some d =>
    rw[hd]at h
    cases h
    obtain⟨bs,h1,h2⟩:=Qf2 qs rs hd
    cases r
    exact⟨c::bs,by rw[h1];rfl,by simp[h2]⟩
  |_=>cases h
theorem Qh1(bs:List Bool):((List.range bs.length).all λi=>(bs[i]?).getD true)=bs.all id:=by
 rw[Bool.eq_iff_iff,UE,UE]
 constructor
 ·intro h b hb
  obtain⟨i,hi,rfl⟩:=List.getElem_of_mem hb
  have:=h i (RO.mpr hi)
  simpa[hi]using this
 ·intro h i hi
  have hi':=RO.mp hi
  have:=h bs[i] (UX hi')
  simpa[hi']using this
theorem Qh2(hc:X.calm=true):CallR X (.builtin "all") (λxs H Q=>∃p vs ds μ b,xs=[.ref p]/\SqL X.K H p vs/\Dens X.K μ H vs ds/\allB ds=some b/\Q (.bl b) H):=by
 intro pins s σ H xs us Q I rv h
 obtain⟨l,vs,ds,μ,b,rfl,hq,q,hb,qq⟩:=h
 obtain⟨u,rfl,ru⟩:=rv.one
 cases ru
 obtain⟨its,rs,pl,_⟩:=I.list hq
 obtain⟨bs,rfl,e2⟩:=Qf2 q rs hb
 have hl:=pl.isList
 have hlt:l<s.heap.objs.size:=by obtain⟨_,e,_⟩:=hl;exact Uk e
 refine call_all_walk (RU hl ⟨s.heap.objs.size,[s.heap.objs.size,l],[s.heap.objs.size],_,_,_,λi=>(bs[i]?).getD true,rfl,Walks.list (A:=X.A.in1) (show X.A.in1.handled=none from I.ok.hd hc) _ l (UP hlt) _,⟨⟨_,Us _ rfl,rfl,rfl⟩,hl.push _⟩,λi v s' Q' E' hP hQ=>?_,λh' tk hk=>?_⟩)
 ·have hP:(bs.map Value.bool).toArray[i]?=some v:=hP
  rw[List.getElem?_toArray,Uy]at hP
  cases hi:bs[i]? with
  |none=>rw[hi]at hP;cases hP
  |some c =>
   rw[hi]at hP
   cases hP
   simp only[hi,T6]at hQ
   exact TF hQ
 ·have kept:∀c o,s.heap.get? c=some o->h'.get? c=some o:=λc o e=>hk c o (λhm=>by rw[Up.mp hm]at e;exact Tu _ (Uk e)) (Ub _ e)
  have ea:((List.range (bs.map Value.bool).toArray.size).all λi=>(bs[i]?).getD true)=b:=by
   rw[Ug,Uc,Qh1,e2]
  rw[ea]
  exact⟨.bl b,H,I.kept kept,rfl,qq⟩
theorem QgL(hc:X.calm=true)(hm:X.mg "all" = none)(he:PE3 ca X e me)(hg:Gl X "all":=by rfl)(hs:starEach [e] X.env=[(false,eval e X.env)]:=by rfl)(hpl:(backTo pos (starEach [] X.env)).any (·.1)=false:=by rfl):
  PE3 ca X (.Call (.Name "all" p) [e] [] pos) (mOp1 pAll me) :=
 QjN (r:=λxs H Q=>∃p vs ds μ b,xs=[V.ref p]/\SqL X.K H p vs/\Dens X.K μ H vs ds/\allB ds=some b/\Q (.bl b) H) (λpn Φ=>Qh2 (X:=xat X ca pn Φ) hc) hm boot_all (λΦ σ H μ g y d Q r q pp=>by
  unfold pAll at pp
  cases q with
  |@ref n t hn =>
   dsimp only at pp
   cases hgn:g[n]? with
   |none=>rw[hgn]at pp;exact pp.elim
   |some ob =>
    rw[hgn]at pp
    obtain⟨t',ht',orp⟩:=r.addr hgn
    rw[hn]at ht';cases ht'
    cases ob with
    |lst ds =>
     obtain⟨vs,hH,q⟩:=orp
     dsimp only at pp
     cases hb:allB ds with
     |none=>rw[hb]at pp;exact pp.elim
     |some b=>rw[hb]at pp;exact⟨t,vs,ds,μ,b,rfl,.of hH,q,hb,pp _ H μ .refl r (.bl _)⟩
    |_=>exact pp.elim
  |_=>exact pp.elim) he hg (by decide) (by decide) hs hpl
theorem QjQ{K:Frag}{Φ:XS}{r r':R2}{f f':D->D->G->Res D}(h1:Jo K ca r f)(h2:Jo K ca r' f')(σ:L2.St)(H:Hp)(Q:VK)(h:up K ca Φ (QcS f f' ma mb mc) σ H Q):Qks r r' (up K ca Φ ma) (up K ca Φ mb) (up K ca Φ mc) σ H Q:=by
 obtain⟨σ3,g,μ,R,p⟩:=h
 refine Zs (Qar R p) λx H1 ⟨dx,g1,μ1,e1,R1,q1,p1⟩=>?_
 refine Zs (Qar R1 p1) λy H2 ⟨dy,g2,μ2,e2,R2,q2,p2⟩=>?_
 refine h1 Φ σ H2 μ2 g2 x y dx dy _ R2.g (q1.mono e2) q2 ?_
 cases hf:f dx dy g2 with
 |raise _ _=>rw[hf]at p2;exact p2
 |stuck=>rw[hf]at p2;exact p2.elim
 |ok z g3 =>
  rw[hf,Res.bind_ok]at p2
  intro v H3 μ3 e3 r3 q3
  cases q3 with
  |bl t =>
   refine⟨t,rfl,?_⟩
   cases t with
   |true =>
    rw[Ue rfl]
    dsimp only at p2
    refine Zs (Qar (R2.go e3 r3) (p2.go e3)) λw' H4 ⟨dw,g4,μ4,e4,R4,q4,p4⟩=>?_
    exact h2 Φ σ H4 μ4 g4 y w' dy dw Q R4.g ((q2.mono e3).mono e4) q4 p4
   |false =>
    rw[Uh Uf]
    exact p2 _ H3 μ3 e3 r3 (.bl _)
  |_=>exact p2.elim
theorem Qm1(ha:PE3 ca X a ma)(hb:PE3 ca X b mb)(hc:PE3 ca X c mc)(hm:lastMarks [.LtE,.Lt] [b,c]=false:=by with_unfolding_all rfl):PE3 ca X (.Compare a [.LtE,.Lt] [b,c] pos) (QcS pLe pLt ma mb mc) :=
 λpn Φ=>Zu (Qjw (X:=xat X ca pn Φ) Qmt Qms (ha pn Φ) (hb pn Φ) (hc pn Φ) hm) (QjQ (YX _) (YX _))
theorem QkB{K:Frag}{μ:List Addr}{H:Hp}{v:V}{d:D}(q:Den K μ H v d)(h:QbY d=true):QcB v=true:=by cases q <;> first|rfl|cases h
theorem Qh3{K:Frag}{μ:List Addr}{H:Hp}:∀{vs:List V}{ds:List D},Dens K μ H vs ds->ds.all QbY=true->vs.all QcB=true
 |_,_,.nil,_=>rfl
 |_,_,.cons q qs,h=>by
  rw[Rs,UD]at h ⊢
  exact⟨QkB q h.1,Qh3 qs h.2⟩
theorem Qn5{K:Frag}{μ:List Addr}{H:Hp}{v w:V}{d e:D}(q:Den K μ H v d)(q':Den K μ H w e)(h:QbY d=true)(h':QbY e=true):eqV v w=eqF d e:=by
 cases q <;> cases q' <;> first|rfl|cases h|cases h'
theorem Qm2{K:Frag}{μ:List Addr}{H:Hp}{w:V}{e:D}(q':Den K μ H w e)(h':QbY e=true):∀{vs:List V}{ds:List D},Dens K μ H vs ds->ds.all QbY=true->(vs.any λy=>eqV y w)=ds.any λd=>eqF d e
 |_,_,.nil,_=>rfl
 |_,_,.cons q qs,h=>by
  rw[Rs,UD]at h
  rw[Tl,Tl,Qn5 q q' h.1 h',Qm2 q' h' qs h.2]
theorem Qfd{K:Frag}(neg:Bool):Jo K ca (rIn K neg) (pIn neg):=by
 intro Φ σ H μ g x y dx dy Q r qx qy p
 unfold pIn at p
 cases hs:QK g dy with
 |none=>rw[hs]at p;exact p.elim
 |some pr =>
  obtain⟨bb,ds⟩:=pr
  rw[hs]at p
  dsimp only at p
  by_cases z:QbY dx=true/\ds.all QbY=true
  ·rw[Ue z]at p
   obtain⟨a,vs,rfl,sq,qs⟩:=QaS r qy hs
   refine⟨a,vs,rfl,?_,QkB qx z.1,Qh3 qs z.2,p _ H μ .refl r ?_⟩
   ·cases bb
    ·exact .inr sq
    ·exact .inl sq
   ·unfold inV
    rw[Qm2 qx z.1 qs z.2]
    cases neg <;> exact .bl _
  ·rw[Uh z]at p;exact p.elim
theorem r_in(ha:PE3 ca X a ma)(hb:PE3 ca X b mb)(hm:behindInMarks .In b=false:=by rfl):PE3 ca X (.Compare a [.In] [b] pos) (mOp2 (pIn false) ma mb):=QjD (λ_ _=>Qeg) (Qfd false) ha hb hm
theorem Qm3(ha:PE3 ca X a ma)(hb:PE3 ca X b mb)(hm:behindInMarks .In b=false:=by rfl):PT3 ca X (.Compare a [.In] [b] pos) (Qj (mOp2 (pIn false) ma mb)):=Y9 (λ_ _=>Qeg) (Qfd false) ha hb hm
theorem Qdx(ha:PE3 ca X a ma)(hb:PE3 ca X b mb)(hm:behindInMarks .NotIn b=false:=by rfl):PT3 ca X (.Compare a [.NotIn] [b] pos) (Qj (mOp2 (pIn true) ma mb)):=Y9 (λ_ _=>Qeh) (Qfd true) ha hb hm
end
section
variable{prog:Program}{w:World}{A:Around}{E:Value->Shared->Prop}{s:Shared}
theorem Qbe{t sl:Addr}{items:Array Value}{vl vu:Value}{lo hi:Option Int}{Q:Value->Shared->Prop}(ht:IsTup s.heap t items)(hs:s.heap.IsSliceOf sl vl vu .none)(pl:IsPart vl lo)(pu:IsPart vu hi)(h1:HT.sIx items.size 0 lo=0)(h2:HT.sIx items.size items.size hi=items.size)(h:Q (.ref t) s):wpAny (model prog w) A (getItem (.ref t) (.ref sl)) Q E s:=by
 obtain⟨os,hos,hcs,hds⟩:=id hs
 have hTs:s.TypeIs (.ref sl) "slice":=⟨os,hos,hcs⟩
 unfold getItem
 try with_reducible refine Rr ?_
 first|refine Ua (Uj ?_)|skip
 refine Ua (wpAny_sequenceKey ht.typeIs (by decide) ?_)
 refine Ua (U9 (name:=Str.ofString "__getitem__") ht.typeIs UU (TQ UU ht.typeIs entry_tuple_getitem ?_ (args_tuple_getitem _ _)))
 show wpAny _ _ (Builtin.Tuple.tupleItemsOf (.ref t) >>= _) _ _ s
 refine Ua (tupleItemsOf_ ht (Ua (wpAny_typeOf hTs ?_)))
 rw[Ue (by decide)]
 refine Ua (HT.sliceApplied_gen hs pl pu ?_)
 rw[h1,h2]
 show wpAny _ _ (if (((0:Nat):Int) == 0 && (1:Int) == 1 && (items.size-0) == items.size)=true then _ else _) _ _ s
 rw[Ue (by simp)]
 unfold Builtin.Tuple.tupleIsExact
 refine Ua (Ua (wpAny_typeOf ht.typeIs (Uj ?_)))
 rw[Ue (by decide)]
 exact Ua (Bf (Uj ⟨_,rfl,Uj h⟩))
end
theorem QjR(n d:Nat)(o:Option Int):HT.sIx n d o=sIxD n d o:=by cases o <;> rfl
theorem Dens.cut{K:Frag}{μ:List Addr}{H:Hp}{vs:List V}{ds:List D}(lo hi:Option Int)(h:Dens K μ H vs ds):Dens K μ H (cutV vs lo hi) (cutD ds lo hi):=by
 unfold cutV cutD
 rw[QjR,QjR,h.length]
 exact(h.drop _).take _
section
variable{X:Cx}{ca:Nat->Addr}{e:Expr}{me:ME}{lo hi:Option Expr}{ml mh:MO}{pos p2:Pos}
theorem Qh4:SlR X (λx lo hi H Q=>∃a xs,x=.ref a/\SqT X.K H a xs/\(HT.sIx xs.length 0 lo=0/\HT.sIx xs.length xs.length hi=xs.length)/\Q (.ref a) H):=by
 intro pins s σ H x v vl vu lo hi sl Q I rx hs pl pu h
 obtain⟨a,xs,rfl,hx,hw,q⟩:=h
 cases rx
 obtain⟨its,r,ht,hz⟩:=I.tuple hx
 have hlen:its.toArray.size=xs.length:=by rw[Ug];exact r.length.symm
 refine⟨"tuple",_,UU.lookup,ht.typeIs,?_⟩
 exact Qbe ht hs pl pu (by rw[hlen];exact hw.1) (by rw[hlen];exact hw.2) ⟨.ref a,H,I,rfl,q⟩
noncomputable def upO(K:Frag)(ca:Nat->Addr)(Φ:XS)(m:MO):TO:=λσ H Q=>∃σ3 g μ,Rep K ca μ σ3 g σ H/\match m σ3 g with
 |.ok o g'=>∀H' μ',Ext K μ H μ' H'->GRep K ca μ' H' g'->Q o H'
 |.raise x g'=>RaP K ca Φ σ H μ x g'
 |.stuck=>False
def PO3(ca:Nat->Addr)(X:Cx)(e:Option Expr)(m:MO):Prop:=∀pn Φ,PO (xat X ca pn Φ) e (upO X.K ca Φ m)
theorem QI:PO3 ca X none QB:=λpn Φ pins s σ H Q I ⟨_,_,μ,R,p⟩=>Qld (X:=xat X ca pn Φ) pins s σ H Q I (p H μ .refl R.g)
theorem Zn(he:PE3 ca X e me):PO3 ca X (some e) (Zp me):=λpn Φ pins s σ H Q I hQ=>by
 obtain⟨σ3,g,μ,R,p⟩:=hQ
 refine Qle (X:=xat X ca pn Φ) (he pn Φ) pins s σ H Q I ⟨σ3,g,μ,R,?_⟩
 unfold Zp at p
 cases hm:me σ3 g with
 |raise _ _=>rw[hm]at p;exact p
 |stuck=>rw[hm]at p;exact p
 |ok d g1 =>
  rw[hm,Res.bind_ok]at p
  intro v H1 μ1 e1 r1 q1
  cases q1 with
  |int i=>exact⟨i,rfl,p H1 μ1 e1 r1⟩
  |_=>exact p.elim
theorem Qlt{α:Type}(xs:List α)(lo hi:Option Int)(h1:sIxD xs.length 0 lo=0)(h2:sIxD xs.length xs.length hi=xs.length):cutD xs lo hi=xs:=by
 unfold cutD
 rw[h1,h2];simp
theorem QU(he:PE3 ca X e me)(hl:PO3 ca X lo ml)(hh:PO3 ca X hi mh):PE3 ca X (.Subscript e (.Slice lo hi none p2) pos) (QM me ml mh):=λpn Φ =>
 Zu (Qjz (X:=xat X ca pn Φ) ((sl_tup.or Qh4).or Qlg) (he pn Φ) (hl pn Φ) (hh pn Φ)) λσ H Q ⟨σ3,g,μ,R,p⟩=>Zs (Qar R p) λx H1 hQ=>by
  obtain⟨d,g1,μ1,e1,R1,q1,p1⟩:=hQ
  refine⟨σ3,g1,μ1,R1,?_⟩
  cases hm:ml σ3 g1 with
  |raise _ _=>rw[hm]at p1;exact p1
  |stuck=>rw[hm]at p1;exact p1
  |ok l g2 =>
   rw[hm,Res.bind_ok]at p1
   intro H2 μ2 e2 r2
   refine⟨σ3,g2,μ2,R1.go e2 r2,?_⟩
   cases hm2:mh σ3 g2 with
   |raise _ _=>rw[hm2]at p1;exact RaP.go e2 p1
   |stuck=>rw[hm2]at p1;exact p1
   |ok u g3 =>
    rw[hm2,Res.bind_ok]at p1
    intro H3 μ3 e3 r3
    have p3:=Post.go (e2.trans e3) p1
    have q3:=(q1.mono e2).mono e3
    unfold Qen at p3
    cases q3 with
    |@tup a vs ds ht hs =>
     by_cases hw:HT.sIx vs.length 0 l=0/\HT.sIx vs.length vs.length u=vs.length
     ·refine .inl (.inr ⟨a,vs,rfl,ht,hw,p3 _ H3 μ3 .refl r3 ?_⟩)
      rw[Qlt ds l u (by rw[<-QjR,<-hs.length];exact hw.1) (by rw[<-QjR,<-hs.length];exact hw.2)]
      exact .tup ht hs
     ·exact .inl (.inl ⟨a,vs,rfl,ht,hw,λt ht'=>p3 _ _ μ3 (Zc ht') (r3.new ht') (.tup (.of Qr) ((hs.cut l u).mono (Zc ht')))⟩)
    |@fl a vs ds ht hs =>
     refine .inr ⟨a,vs,rfl,ht.sq,λt ht'=>p3 _ _ (μ3++[t]) (QS ht') (r3.push ht' ⟨_,Qr,(hs.cut l u).mono (QS ht')⟩) (.ref ?_)⟩
     rw[<-r3.len];simp
    |@ref n a hn =>
     dsimp only at p3
     cases hg:g3[n]? with
     |none=>rw[hg]at p3;exact p3.elim
     |some o =>
      rw[hg]at p3
      obtain⟨a',ha',ob⟩:=r3.addr hg
      rw[hn]at ha';cases ha'
      cases o with
      |lst ds =>
       obtain⟨vs,hH,hs⟩:=ob
       refine .inr ⟨a,vs,rfl,.of hH,λt ht'=>p3 _ _ (μ3++[t]) (QS ht') (r3.push ht' ⟨_,Qr,(hs.cut l u).mono (QS ht')⟩) (.ref ?_)⟩
       rw[<-r3.len];simp
      |_=>exact p3.elim
    |_=>exact p3.elim
end
abbrev bmV:List Value:=[.type "ValueError",.type "Exception",.type "BaseException",.type "object"]
section
variable{prog:Program}{w:World}{A:Around}{E:Value->Shared->Prop}{s:Shared}{K:Frag}{C e:Addr}{oe:Obj}{vs:Array Value}
end
section
variable{X:Cx}{ca:Nat->Addr}{e:Expr}{me:ME}{pos p p2:Pos}{all cs:List Nat}
end
section
variable{K:Frag}{C:Addr}{x:Str}{mg:Str->Option Value}{h:Heap}
theorem Qlu(X:K.In h)(e:mg x=some (.ref C))(q:excIn K C bmV "ValueError.__new__" = true):OwnCls x C bmV "ValueError.__new__" mg h:=by
 refine⟨e,?_⟩
 unfold excIn at q
 split at q
 ·rename_i dd cd sl ho
  split at q
  ·rename_i C' bm k0 k1 k2 k3 n k5 hm hs
   simp only[UD,Tt,Bool.not_eq_true']at q
   obtain⟨⟨⟨⟨⟨rfl,rfl⟩,hdel⟩,ht⟩,hok⟩,hni⟩:=q
   obtain⟨nm,bs,mro,ns,qn,hd,sn,sub,ab,col,del⟩:=cd
   dsimp only at hm hdel hok hni
   subst hm hdel
   have hsl:sl = #[k0,k1,k2,k3,some (.builtin "ValueError.__new__"),k5]:=by
    obtain⟨l⟩:=sl
    simp only at hs
    rw[hs]
   subst hsl
   exact⟨bm,ns,nm,qn,bs,hd,sn,sub,ab,col,dd,k0,k1,k2,k3,k5,_,X _ _ ho,.of_isNs (isNs_of_in X hok),nsMap_none_of_in X hok hni,tail_of_in X ht⟩
  ·cases q
 ·cases q
end
theorem Inv.there'{X:Cx}{pins:List (Addr×Obj)}{σ:L2.St}{H:Hp}{s:Shared}{a:Addr}{o:HO}(I:Inv X pins σ H s)(h:H a=some o):∃u,s.heap.get? a=some u:=by
 have:=I.hok a o h
 cases o with
 |lst xs=>obtain⟨_,_,_,_,e⟩:=this;exact⟨_,e⟩
 |tup xs=>obtain⟨_,_,_,u,e,_⟩:=this;exact⟨u,e⟩
 |dK kvs=>obtain⟨_,_,_,_,u,_,_,e,_⟩:=this;exact⟨u,e⟩
 |dT kvs=>obtain⟨_,_,_,_,u,_,_,e,_⟩:=this;exact⟨u,e⟩
 |set S n=>obtain⟨u,_,_,_,e,_⟩:=this;exact⟨u,e⟩
 |ins C dx fs=>obtain⟨_,_,_,e,_⟩:=this;exact⟨_,e⟩
 |own y=>exact this
 |xd fs=>obtain⟨_,⟨_,_,_,e,_⟩,_⟩:=this;exact⟨_,e⟩
 |met f x=>exact⟨_,this⟩
 |rng lo hi=>obtain⟨_,_,_,e⟩:=this;exact⟨_,e⟩
 |frz u v=>exact⟨_,this.1⟩
 |tbl ps=>exact⟨_,this⟩
 |ext φ=>exact this.2.1
structure RaH(K:Frag)(mg:Str->Option Value)(ca:Nat->Addr)(c:Nat)(x:Str):Prop where
 at':mg x=some (.ref (ca c))
 ex:excIn K (ca c) bmV "ValueError.__new__" = true
section
variable{X:Cx}{ca:Nat->Addr}{e:Expr}{es:List Expr}{mr:MA}{np cpos pos:Pos}{c:Nat}{x:Str}
theorem Q6(h:RaH X.K X.mg ca c x)(hh:X.A.handled=none)(ha:PA3 ca X (e::es) mr)(hg:Gl X x:=by rfl)(hdb:(x == ("__debug__" : Str))=false:=by decide)(he:starEach (e::es) X.env=(false,eval e X.env)::starEach es X.env:=by rfl)(hpl:(backTo cpos (starEach es X.env)).any (·.1)=false:=by rfl):PS3 ca X (.Raise (some (.Call (.Name x np) (e::es) [] cpos)) none pos) (Ze c mr):=by
 intro pn Φ pins s σ H En I ⟨σ3,g,μ,R,p⟩
 obtain⟨bm,N,nm,q,bs,hdct,sn,sub,ab,col,dd,k0,k1,k2,k3,k5,mN,hC,hN,hni,T⟩:=(Qlu (h:=X.base) I.ok.mod.kin h.at' h.ex).obj
 refine wpAny_Raise_call_subT (C:=ca c) (nm:=nm) (q:=q) (N:=N) (bs:=bs) (bm:=bm) (hdct:=hdct) (sn:=sn) (sub:=sub) (ab:=ab) (col:=col) (dd:=dd) (k0:=k0) (k1:=k1) (k2:=k2) (k3:=k3) (k5:=k5)
  RG (mN:=mN) (T.hasType RG.hasBase) hh ?_ hni (QbR I hg h.at' ⟨rfl,?_⟩ hdb)
 ·show(backTo cpos (starEach (e::es) X.env)).any (·.1)=false
  rw[he]
  show(false || (backTo cpos (starEach es X.env)).any (·.1))=false
  rw[hpl];rfl
 ·have z:upA X.K ca Φ mr σ H λvs H1=>vs.length<=sizeLine/\Φ (c,none) σ H1:=by
   refine⟨σ3,g,μ,R,?_⟩
   unfold Ze at p
   cases hm:mr σ3 g with
   |raise _ _=>rw[hm]at p;exact RaP.stmt R p
   |stuck=>rw[hm]at p;exact p
   |ok ds g1 =>
    rw[hm]at p
    dsimp only at p
    intro vs H1 μ1 e1 r1 q1
    by_cases hz:ds.length<=SZ
    ·rw[Ue hz]at p
     exact⟨q1.sz hz,p σ H1 μ1 e1 (R.go e1 r1)⟩
    ·rw[Uh hz]at p;exact p.elim
  have az:=ha pn Φ cpos pins s σ H _ I z
  have he':starEach (e::es) (xat X ca pn Φ).env=(false,eval e X.env)::starEach es X.env:=he
  show wpAny _ _ (evalArgs (.ref (ca c)) true (backTo cpos (starEach (e::es) X.env)) []) _ _ s
  rw[he']at az
  rw[he]
  refine Calls.evalArgs_plain (U3 az (λus s2 ⟨vs,H1,I1,r1,hz,hΦ⟩=>⟨rfl,by rw[<-r1.length];exact hz,I1.bk _ _ hC,hN.keeps I1.bk,T.keeps I1.bk,λh' ea hm=>?_⟩) λ_ _ y=>y)
  have I2:Inv (xon X pn) [] σ H1 s2:=(Qkx I1).pins_of λp hp=>absurd hp (by simp)
  have I3:Inv (xon X pn) [] σ H1 {s2 with heap:=h'}:=I2.kept (t':=s2.toks) hm.keeps
  have hn:H1 ea=none:=by
   cases hq:H1 ea with
   |none=>rfl
   |some o =>
    obtain⟨o',ho'⟩:=Inv.there' I2 hq
    rw[hm.new]at ho';cases ho'
  obtain⟨t,ht,_⟩:=hm.there
  exact⟨ea,(c,none),σ,H1,rfl,I3,⟨QfU I2 hm.new hn,rfl,_,_,ht,⟨rfl,rfl⟩,rfl,by simp,.inl rfl⟩,hΦ⟩
end
structure CatX(K:Frag)(ca:Nat->Addr)(C:Addr)(cs no:List Nat):Prop where
 ci:(clsIn K C).isSome=true
 ty:typeIn K (.ref C)=some (.type "type")
 sb:subIn K (.ref C) (.type "BaseException")=some true
 yes:∀c∈cs,subIn K (.ref (ca c)) (.ref C)=some true
 no':∀c∈no,subIn K (.ref (ca c)) (.ref C)=some false
section
variable{prog:Program}{w:World}{A:Around}{E:Value->Shared->Prop}{s:Shared}{K:Frag}{ca:Nat->Addr}{C D e:Addr}{oe:Obj}{cs no:List Nat}{b:Bool}
theorem Qh5{Q:Bool->Shared->Prop}(X:K.In s.heap)(F:CatX K ca C cs no)(hx:s.heap.get? e=some oe)(hc:oe.cls=.ref D)(hs:subIn K (.ref D) (.ref C)=some b)(h:Q b s):wpAny (model prog w) A (excMatches (.ref e) (.ref C)) Q E s:=by
 obtain⟨hh,g,d,t,os⟩:=s
 have L0:=looks_typeIn (M:=model prog w) X F.ty
 have L1:=looks_subIn (M:=model prog w) X F.sb
 have L2:=looks_subIn (M:=model prog w) X hs
 have L3:Looks (model prog w) hh (isType (.ref C)) true:=by
  obtain⟨cd,hc⟩:=RW.mp F.ci
  unfold clsIn at hc
  split at hc
  ·rename_i c' d' cd' sl' ho
   intro A' Q' E' s' k q
   unfold isType loadHead
   exact Ua (wpAny_loadPart (k _ _ (X _ _ ho)) (Uj q))
  ·cases hc
 have f:=tc_notTuple
 unfold excMatches isInstance
 refine Ua (Ua (L0.at (wpAny_of_eq f ?_)))
 simp only[U5,TL]
 refine Ua (Uj ?_)
 simp only[Ry,RP]
 unfold isExcClass
 refine Ua (Ua (Ua (Ua (L3.at ?_))))
 rw[Ue rfl]
 refine L1.at ?_
 simp only[Bool.not_true,U5,TL]
 refine Uj (Uj ?_)
 have L4:Looks (model prog w) hh (typeOf (.ref e)) (.ref D):=hc ▸ (Looks.ld hx).andThen .now
 refine Ua (L4.at (Ua (Ua (Ua (L2.at ?_)))))
 cases b with
 |true=>rw[Ue rfl];exact Uj (Uj (Uj h))
 |false=>rw[Uh Uf];exact Uj (Uj (Uj h))
end
noncomputable abbrev xmk(X:Cx)(v:Value):Cx:={X with A:=X.A.mark (some v),calm:=false}
section
variable{X:Cx}{ca:Nat->Addr}{pins:List (Addr×Obj)}{σ:L2.St}{H:Hp}{s:Shared}{a:Addr}{x:Xc}
theorem QkC(v:Value)(I:Inv X pins σ H s):Inv (xmk X v) pins σ H s :=
 ⟨⟨I.ok.mod,I.ok.kind,I.ok.glob,I.ok.blt,I.ok.above,I.ok.inj,I.ok.has,I.ok.cab,(λz=>by cases z),I.ok.frames,I.ok.stk,I.ok.exf,I.ok.bs,I.ok.bsz,I.ok.noex,I.ok.exfs,I.ok.funs,I.ok.frf⟩,I.os,I.bare,I.base,I.loc,I.cell,I.free,I.freeC,I.pin,I.hok,I.len⟩
theorem Qf3{v:Value}(h:X.calm=true->X.A.handled=none)(I:Inv (xmk X v) pins σ H s):Inv X pins σ H s :=
 ⟨⟨I.ok.mod,I.ok.kind,I.ok.glob,I.ok.blt,I.ok.above,I.ok.inj,I.ok.has,I.ok.cab,h,I.ok.frames,I.ok.stk,I.ok.exf,I.ok.bs,I.ok.bsz,I.ok.noex,I.ok.exfs,I.ok.funs,I.ok.frf⟩,I.os,I.bare,I.base,I.loc,I.cell,I.free,I.freeC,I.pin,I.hok,I.len⟩
end
section
variable{X:Cx}{ca:Nat->Addr}{body suite:List Stmt}{b0:Stmt}{mb mc:MS}{np hpos pos:Pos}{C:Addr}{cs no:List Nat}{T n:Str}
theorem Qm4{Y:Cx}{pn pins:List (Addr×Obj)}{E E':Value->Shared->Prop}{σ:L2.St}{H:Hp}{s:Shared}(I:Inv {Y with pn:=pn,xe:=E} pins σ H s):Inv {Y with pn:=pn++pins,xe:=E'} [] σ H s :=
 ⟨⟨I.ok.mod,I.ok.kind,I.ok.glob,I.ok.blt,I.ok.above,I.ok.inj,I.ok.has,I.ok.cab,I.ok.hd,I.ok.frames,I.ok.stk,I.ok.exf,I.ok.bs,I.ok.bsz,I.ok.noex,I.ok.exfs,I.ok.funs,I.ok.frf⟩,I.os,I.bare,I.base,I.loc,I.cell,I.free,I.freeC,λp hp=>I.pin p (by rw[UW]at hp;exact hp),I.hok,I.len⟩
theorem Qb2{Y:Cx}{pn pins:List (Addr×Obj)}{E E':Value->Shared->Prop}{σ:L2.St}{H:Hp}{s:Shared}(I:Inv {Y with pn:=pn++pins,xe:=E} [] σ H s):Inv {Y with pn:=pn,xe:=E'} pins σ H s :=
 ⟨⟨I.ok.mod,I.ok.kind,I.ok.glob,I.ok.blt,I.ok.above,I.ok.inj,I.ok.has,I.ok.cab,I.ok.hd,I.ok.frames,I.ok.stk,I.ok.exf,I.ok.bs,I.ok.bsz,I.ok.noex,I.ok.exfs,I.ok.funs,I.ok.frf⟩,I.os,I.bare,I.base,I.loc,I.cell,I.free,I.freeC,λp hp=>I.pin p (by rw[UW];exact hp),I.hok,I.len⟩
theorem Qh6{pn:List (Addr×Obj)}{σ:L2.St}{H:Hp}{s:Shared}{a:Addr}{x:Xc}{oe:Obj}{R:Result->Shared->Prop}{b:Bool}(I:Inv (xon X pn) [] σ H s)(hT:X.mg T=some (.ref C))(F:CatX X.K ca C cs no)(he:s.heap.get? a=some oe)(ho:XOb ca x oe)(hs:subIn X.K (.ref (ca x.1)) (.ref C)=some b)(hg:Gl X T)(hdb:(T == ("__debug__" : Str))=false)(h:R (.ok (if b then .brk else .next)) s):
  codeAny (model X.prog X.w) (X.A.mark (some (.ref a))) (.handlers (.ref a) [.ExceptHandler (some (.Name T np)) none [] hpos] X.env) R s :=
 codeAny_handlers_test (QbR (X:=xmk (xon X pn) (.ref a)) (QkC _ I) hg hT (Qh5 I.kIn F he ho.1 hs h) hdb)
theorem Qlv{pn pins:List (Addr×Obj)}{Φ:XS}{σ:L2.St}{H:Hp}{s:Shared}{a:Addr}{x:Xc}{Q:Flow->Shared->Prop}(hf:X.env.frame=some X.env.locals)(I:Inv (xon X (pn++pins)) [] σ H s)(fl:FlT (xon X (pn++pins)) ca a x H s.heap)(h:Φ x σ H):
  wpAny (model X.prog X.w) X.A (handleBy (.ref a) X.env []) Q (xat X ca pn Φ).xe s:=by
 refine wpAny_handleBy_nil ?_
 unfold PySem.passOn
 obtain⟨fp,ln,oe,vs,T,oT,ts,he,hc,hd,hv,hTa,fT,hT,hdT,hs3⟩:=id fl
 refine Ua (UQ he hd hv ?_)
 rw[Uh (show ¬((Value.ref T == Value.none)=true) from by simp)]
 refine Ua (JQ (fo:=X.env.frame) I fl λh2 T oT ts oe vs I2 a1 a2 a3 a4 a5 a6 a7 a8 a9 a10=>wpAny_throw ?_)
 rw[hf]at a10
 have dn:∀{b:Addr},FpW (xon X (pn++pins)) [] H b->FpW (xon X pn) [] H b:=λz=>⟨z.1,z.2.1,z.2.2.1,z.2.2.2.1,z.2.2.2.2.1,λp hp=>z.2.2.2.2.2 p (by rw[UW]at hp ⊢;exact Ta _ hp)⟩
 exact⟨a,x,σ,H,rfl,(Qb2 (Y:=X) I2).pins_of λp hp=>absurd hp (by simp),FlN.fl ⟨dn fp,ln,oe,vs,T,oT,ts,a1,a2,a3,a4,a5,dn a6,a7,a8,a10⟩,h⟩
theorem QjS{hs:List MH}{h0:ExceptHandler}{hr:List ExceptHandler}(hb:PSs3 ca X body mb)(hk:X.stack=X.env::X.outer)(hf:X.env.frame=some X.env.locals)(hh:∀(pn pins:List (Addr×Obj)) (Φ:XS) (En:Ends) (σ:L2.St) (H:Hp) (s:Shared) (a:Addr) (x:Xc) (σ3:S3) (g:G) (μ:List Addr),(X.calm=true->X.A.handled=none)->Inv (xon X (pn++pins)) [] σ H s->FlT (xon X (pn++pins)) ca a x H s.heap->Rep X.K ca μ σ3 g σ H->PostS X.K ca Φ En H μ (runH hs x σ3 g) ->
   wpAny (model X.prog X.w) X.A (handleBy (.ref a) X.env (h0::hr)) (SP (xat X ca pn Φ) pins En) (xat X ca pn Φ).xe s):PS3 ca X (.Try body (h0::hr) [] [] pos) (mTry mb hs):=by
 intro pn Φ pins s σ H En I ⟨σ3,g,μ,R,p⟩
 refine wpAny_Try_except ?_
 have p1:PostS X.K ca (λx σ' H'=>∃σ4 g4 μ4,Rep X.K ca μ4 σ4 g4 σ' H'/\PostS X.K ca Φ En H' μ4 (runH hs x σ4 g4)) En H μ (mb σ3 g):=by
  unfold mTry at p
  cases hm:mb σ3 g with
  |nx _ _=>rw[hm]at p;exact p
  |rt _ _=>rw[hm]at p;exact p
  |bk _ _=>rw[hm]at p;exact p
  |ct _ _=>rw[hm]at p;exact p
  |raise x σ' g'=>rw[hm]at p;exact λσ4 H' μ' e R'=>⟨σ',g',μ',R',PostS.go e p⟩
  |stuck=>rw[hm]at p;exact p
 refine U3 (hb (pn++pins) _ [] s σ H En (Qm4 (Y:=X) I) ⟨σ3,g,μ,R,p1⟩) (λf s1 h1=>?_) λv s1 h1=>?_
 ·cases f with
  |next=>obtain⟨σ',H',J,q⟩:=h1;exact Qhi (X:=xat X ca pn Φ) pins s1 σ' H' En (Qb2 (Y:=X) J) q
  |brk=>obtain⟨σ',H',J,q⟩:=h1;exact⟨σ',H',Qb2 (Y:=X) J,q⟩
  |cont=>obtain⟨σ',H',J,q⟩:=h1;exact⟨σ',H',Qb2 (Y:=X) J,q⟩
  |ret u=>obtain⟨v,σ',H',J,r,q⟩:=h1;exact⟨v,σ',H',Qb2 (Y:=X) J,r,q⟩
 ·obtain⟨a,x,σ',H',rfl,I1,fl,σ4,g4,μ4,R4,p4⟩:=h1
  refine Qfa (X:=xon X (pn++pins)) I1 hk hf fl λh2 I2 f2=>?_
  refine JQ (X:=xon X (pn++pins)) (fo:=none) I2 f2.t λh3 T oT ts oe vs I3 a1 a2 a3 a4 a5 a6 a7 a8 a9 a10=>?_
  exact hh pn pins Φ En σ' H' _ a x σ4 g4 μ4 I.ok.hd I3 ⟨f2.1,f2.2.1,oe,vs,T,oT,ts,a1,a2,a3,a4,a5,a6,a7,a8,a9⟩ R4 p4
theorem Qm5(hT:X.mg T=some (.ref C)/\CatX X.K ca C cs no)(hb:PSs3 ca X body mb)(hc:∀a,PSs3 ca (xmk X (.ref a)) (b0::suite) mc)(hg:Gl X T:=by rfl)(hdb:(T == ("__debug__" : Str))=false:=by decide)(hk:X.stack=X.env::X.outer:=by rfl)(hf:X.env.frame=some X.env.locals:=by rfl):
  PS3 ca X (.Try body [.ExceptHandler (some (.Name T np)) none (b0::suite) hpos] [] [] pos) (mTry mb [⟨cs,no,none,mc⟩]):=by
 refine QjS hb hk hf λpn pins Φ En σ H s a x σ3 g μ hcalm I fl R p=>?_
 obtain⟨fp,ln,oe,vs,Tb,oT,ts,he,hox,hd,hv,hTa,fT,hTT,hdT,hs3⟩:=id fl
 unfold runH at p
 by_cases hx:x.1∈cs
 ·rw[Ue hx]at p
  dsimp only at p
  refine wpAny_handleBy_cons (Qh6 I hT.1 hT.2 he hox (hT.2.yes _ hx) hg hdb ?_) (by intro q;cases q)
  refine codeAny_handlers_suite ?_
  refine JQ (fo:=none) I fl λh2 T2 oT2 ts2 oe2 vs2 I2 b1 b2 b3 b4 b5 b6 b7 b8 b9 b10=>?_
  have hcc:=hc a (pn++pins) F0 [] {s with heap:=h2} σ H {nx:=En.nx,rt:=En.rt} (Inv.wish (QkC (.ref a) I2) _) ⟨_,_,_,R,by
   cases hm:mc σ3 g with
   |nx σ5 g5=>rw[hm]at p;exact p
   |rt d g5=>rw[hm]at p;exact p
   |bk _ _=>rw[hm]at p;exact p.elim
   |ct _ _=>rw[hm]at p;exact p.elim
   |raise _ _ _=>rw[hm]at p;exact p.elim
   |stuck=>rw[hm]at p;exact p.elim⟩
  refine U3 (noX hcc) (λf s5 h5=>?_) λ_ _ z=>z.elim
  cases f with
  |next =>
   obtain⟨σ',H',J,q⟩:=h5
   exact⟨σ',H',Qb2 (Y:=X) (Qf3 (X:=xon X (pn++pins)) (v:=.ref a) hcalm (Inv.wish J _)),q⟩
  |ret u =>
   obtain⟨v,σ',H',J,r,q⟩:=h5
   exact⟨v,σ',H',Qb2 (Y:=X) (Qf3 (X:=xon X (pn++pins)) (v:=.ref a) hcalm (Inv.wish J _)),r,q⟩
  |brk=>obtain⟨_,_,_,q⟩:=h5;exact q.elim
  |cont=>obtain⟨_,_,_,q⟩:=h5;exact q.elim
 ·rw[Uh hx]at p
  by_cases hn:x.1∈no
  ·rw[Ue hn]at p
   refine wpAny_handleBy_cons (Qh6 I hT.1 hT.2 he hox (hT.2.no' _ hn) hg hdb ?_) (by intro q;cases q)
   exact Qlv hf I fl (p σ H μ .refl R)
  ·rw[Uh hn]at p;exact p.elim
end
noncomputable def bchk(sc scope:Scope)(N Nb:List Str)(no:Nat)(cap:List Nat):Bool :=
 decide (scope.kind=.function) && scope.names.all (λy=>decide (y.2≠.cell)) && scope.names.all (λy=>decide (y.2≠.local) || decide (scope.names.lookup y.1=some .local)) &&
 scope.names.all (λy=>decide (y.2≠.free) || decide (sc.names.lookup y.1=some .cell) || decide (sc.names.lookup y.1=some .free)) && decide (Nb.length=no+cap.length) &&
 (List.range cap.length).all λj=>match cap[j]?,Nb[no+j]? with
  |some i,some x=>decide (N[i]?=some x) && decide (scope.names.lookup x=some .free) && (decide (sc.names.lookup x=some .cell) || decide (sc.names.lookup x=some .free))
  |_,_=>false
theorem ZA{X:Cx}{scope sc:Scope}{N Nb:List Str}{no:Nat}{cap:List Nat}(hsc:X.env.scope=sc)(hN:X.N=N)(h:bchk sc scope N Nb no cap=true):BScope X scope Nb no cap:=by
 subst hsc hN
 unfold bchk at h
 simp only[UD,TJ]at h
 obtain⟨⟨⟨⟨⟨h1,h2⟩,h3⟩,h4⟩,h5⟩,h6⟩:=h
 rw[UE]at h2 h3 h4 h6
 refine⟨h1,λy hy=>TK (h2 y hy),λy hy e=>?_,λy hy e=>?_,h5,λj i hj=>?_⟩
 ·rcases RA.mp (h3 y hy) with z|z
  ·exact absurd e (TK z)
  ·exact TK z
 ·rcases RA.mp (h4 y hy) with z|z
  ·rcases RA.mp z with z|z
   ·exact absurd e (TK z)
   ·exact .inl (TK z)
  ·exact .inr (TK z)
 ·have hl:j<cap.length:=(Ud.mp hj).1
  have z:=h6 j (RO.mpr hl)
  rw[hj]at z
  cases hx:Nb[no+j]? with
  |none=>rw[hx]at z;cases z
  |some x =>
   rw[hx]at z
   simp only[UD,Bool.or_eq_true,TJ]at z
   obtain⟨⟨z1,z2⟩,z3⟩:=z
   refine⟨x,rfl,z1,z2,.inr z3,λq=>?_⟩
   have q:X.env.scope.names.lookup x=some .local:=q
   rcases z3 with z|z
   ·rw[z]at q;cases q
   ·rw[z]at q;cases q
noncomputable def catB(K:Frag)(ca:Nat->Addr)(C:Addr)(cs no:List Nat):Bool:=(clsIn K C).isSome && (typeIn K (.ref C) == some (.type "type")) && (subIn K (.ref C) (.type "BaseException") == some true) &&
 cs.all (λc=>subIn K (.ref (ca c)) (.ref C) == some true) && no.all λc=>subIn K (.ref (ca c)) (.ref C) == some false
theorem Qm6{K:Frag}{ca:Nat->Addr}{C:Addr}{cs no:List Nat}(h:catB K ca C cs no=true):CatX K ca C cs no:=by
 unfold catB at h
 simp only[UD,Tt,UE]at h
 obtain⟨⟨⟨⟨h1,h2⟩,h3⟩,h4⟩,h5⟩:=h
 exact⟨h1,h2,h3,h4,h5⟩
noncomputable def clsB(K:Frag)(C:Addr):Bool:=plainGet K C Str.empty && hasDictIn K C && plainOver K C && (findIn K (.ref C) "__setattr__" == some (some (.builtin "object.__setattr__")))
theorem Qm7{K:Frag}{C:Addr}(h:clsB K C=true):Cls K C:=by
 unfold clsB at h
 simp only[UD,Tt]at h
 obtain⟨⟨⟨h1,h2⟩,h3⟩,h4⟩:=h
 exact⟨h1,h2,h3,h4⟩
noncomputable def fldB(K:Frag)(ca:Nat->Addr)(cs:List Nat)(f:Str):Bool:=cs.all λc=>clsB K (ca c) && (findIn K (.ref (ca c)) f == some none)
theorem Qm8{K:Frag}{ca:Nat->Addr}{cs:List Nat}{f:Str}(h:fldB K ca cs f=true):FldOk K ca cs f:=by
 unfold fldB at h
 rw[UE]at h
 exact⟨λc hc=>Qm7 (WI.mp (h c hc)).1,λc hc=>Tt.mp (WI.mp (h c hc)).2⟩
section
variable{X:Cx}{ca:Nat->Addr}{pos:Pos}{x:Str}
theorem QR{t:Str}(h:∃k,X.mg x=some (.str t k))(hg:Gl X x:=by rfl)(hd:(x == ("__debug__" : Str))=false:=by decide):PE3 ca X (.Name x pos) (mLit (.str t)):=by
 obtain⟨k,h⟩:=h
 exact Qkw h (v:=.str t) ⟨k,rfl⟩ (λ_ _ _=>.str t) hg hd
theorem Qh7{i:Int}(h:∃k,X.mg x=some (.int i k))(hg:Gl X x:=by rfl)(hd:(x == ("__debug__" : Str))=false:=by decide):PE3 ca X (.Name x pos) (mLit (.int i)):=by
 obtain⟨k,h⟩:=h
 exact Qkw h (v:=.int i) ⟨k,rfl⟩ (λ_ _ _=>.int i) hg hd
end
theorem QkD:bootBuiltins "int" = some (.type Ty.int.name):=boot_int
theorem Qh8:bootBuiltins "bool" = some (.type Ty.bool.name):=by decide +kernel
theorem QkE:bootBuiltins "str" = some (.type Ty.str.name):=by decide +kernel
theorem YY:bootBuiltins "tuple" = some (.type Ty.tuple.name):=boot_tuple
theorem Qfe:bootBuiltins "list" = some (.type Ty.list.name):=boot_list
theorem Qh9:bootBuiltins "dict" = some (.type Ty.dict.name):=by decide +kernel
section
variable{P:Program}{w:World}{K:Frag}{mg:Str->Option Value}{base:Heap}{ca:Nat->Addr}
theorem Qlw{f:Addr}{fd:FuncData}{ps:List Str}{k n:Nat}(hn:ps.length=n):FnOk P w K mg base (CXW P w ca) k f fd ps (spM K ca n λ_ _=>.stuck):=by
 subst hn
 exact⟨λvs H Q E q=>q.1,λA outer s H args us vs Q E _ _ _ _ h=>by obtain⟨_,_,_,_,_,_,z⟩:=h;exact z.elim⟩
theorem Qm9{F:MF}{H:Hp}{a:Addr}{ns:List Int}(hO:Only H)(hS:SqL K H a (ns.map V.int))(h:∃g',F [.fl (ns.map D.int)] []=.ok (.bl true) g'):spM K ca 1 F [.ref a] H (λv _=>v=.bl true) λ_ _ _=>False:=by
 obtain⟨g',h⟩:=h
 have hF:SqF K H a (ns.map V.int):=by
  rcases hS with(h|⟨o,h⟩)|h
  ·rcases hO a with z|⟨o,xs,z⟩
   ·rw[h]at z;cases z
   ·rw[h]at z;cases z
  ·exact .inl ⟨o,h⟩
  ·exact .inr (.inr h)
 refine⟨rfl,[.fl (ns.map D.int)],[],[],⟨rfl,.nil,λn a o h=>by simp at h⟩,.cons (.fl hF (Dens.ints ns)) .nil,?_⟩
 rw[h]
 intro v H' μ' e r q
 cases q
 rfl
end
end L3
namespace L3
open PySem PySem.Spec
section
theorem len0{α:Type}{us:List α}(h:us.length=0):us=[]:=List.eq_nil_of_length_eq_zero h
theorem len1{α:Type}{us:List α}(h:us.length=1):∃a0,us=[a0]:=by
 cases us with
 |nil=>cases h
 |cons a r =>
  have e:=len0 (Nat.succ.inj h)
  subst e
  exact⟨a,rfl⟩
theorem len2{α:Type}{us:List α}(h:us.length=2):∃a0 a1,us=[a0,a1]:=by
 cases us with
 |nil=>cases h
 |cons a r =>
  obtain⟨b0,rfl⟩:=len1 (Nat.succ.inj h)
  exact⟨a,b0,rfl⟩
theorem len3{α:Type}{us:List α}(h:us.length=3):∃a0 a1 a2,us=[a0,a1,a2]:=by
 cases us with
 |nil=>cases h
 |cons a r =>
  obtain⟨b0,b1,rfl⟩:=len2 (Nat.succ.inj h)
  exact⟨a,b0,b1,rfl⟩
theorem len4{α:Type}{us:List α}(h:us.length=4):∃a0 a1 a2 a3,us=[a0,a1,a2,a3]:=by
 cases us with
 |nil=>cases h
 |cons a r =>
  obtain⟨b0,b1,b2,rfl⟩:=len3 (Nat.succ.inj h)
  exact⟨a,b0,b1,b2,rfl⟩
noncomputable def QkF:Expr->Bool
 |.Starred ..=>false
 |_=>true
theorem Qia{e:Expr}{es:List Expr}{env:Env}(h:QkF e=true):starEach (e::es) env=(false,eval e env)::starEach es env:=by
 cases e <;> first|rfl|exact absurd h Uf
variable{P:Program}{w:World}{K:Frag}{mg:Str->Option Value}{base:Heap}{ca:Nat->Addr}{X:L2.Cx}
theorem Qc{e:Expr}{es:List Expr}{me:ME}{mr:MA}(ha:PE3 ca X e me)(hr:PA3 ca X es mr)(hs:QkF e=true:=by rfl):PA3 ca X (e::es) (Qb me mr):=Jd ha hr (Qia hs)
noncomputable def QkG:Expr->Bool
 |.ListComp ..=>false
 |.SetComp ..=>false
 |.DictComp ..=>false
 |_=>true
theorem Qlx{e:Expr}{t:Option Expr}{l:Nat}{env:Env}(h:QkG e=true):swapsWith e t l env=pure false:=by
 cases e <;> first|rfl|exact absurd h Uf
theorem Qq(i:Nat){x:Str}{pos pos':Pos}{e:Expr}{me:ME}(hN:X.N.Nodup)(he:PE3 ca X e me)(hi:X.N[i]?=some x:=by rfl)(hx:L2.Loc X.env.scope x:=by first|exact Or.inl rfl|exact Or.inr rfl)(hs:QkG e=true:=by rfl)(hf:X.fn x=true\/X.env.scope.names.lookup x=some .local:=by first|exact .inl rfl|exact .inr rfl):
  PS3 ca X (.Assign [.Name x pos'] e pos) (mAsg (gSet i) me):=Qn0 i hN he hi hx (Qlx hs) hf
end
end L3
namespace L3
open PySem
noncomputable def maxZ:List Int->Option Int
 |[]=>none
 |i::r=>(match maxZ r with
  |none=>some i
  |some j=>some (if i<j then j else i))
noncomputable def Qff(x:D)(g:G):Res D:=match x with
 |.tup ds=>(match Qdm ds with
  |some is=>(match maxZ is with
   |some i=>.ok (.int i) g
   |none=>.stuck)
  |none=>.stuck)
 |_=>.stuck
theorem Qdy:∀{is:List Int}{M:Int},maxZ is=some M->M∈is/\∀a∈is,a<=M
 |[],_,h=>by cases h
 |i::r,M,h=>by
  unfold maxZ at h
  cases hr:maxZ r with
  |none =>
   rw[hr]at h
   cases h
   cases r with
   |nil=>exact⟨UG ..,λa ha=>by rw[Up.mp ha];exact Rv _⟩
   |cons j r' =>
    unfold maxZ at hr
    cases h2:maxZ r' with
    |none=>rw[h2]at hr;cases hr
    |some k=>rw[h2]at hr;cases hr
  |some j =>
   rw[hr]at h
   dsimp only at h
   obtain⟨q1,q2⟩:=Qdy hr
   by_cases z:i<j
   ·rw[Ue z]at h;cases h
    exact⟨Uv _ q1,λa ha=>by
     rcases Uu.mp ha with e|e
     ·omega
     ·exact q2 a e⟩
   ·rw[Uh z]at h;cases h
    exact⟨UG ..,λa ha=>by
     rcases Uu.mp ha with e|e
     ·omega
     ·have:=q2 a e;omega⟩
end L3
namespace L3
open PySem PySem.Spec PyProof.Rows L2
theorem QgM{prog:Program}{w:World}{A:Around}{E:Value->Shared->Prop}{s:Shared}{l:Addr}{xs:Array (Int×Tok)}{Q:Value->Shared->Prop}(hh:A.handled=none)(hl:s.heap.IsTuple l (intItems xs))(hne:0<xs.size)(h:∀v h' tk,(intItems xs)[argBest (λi j=>decide (numAt xs i > numAt xs j)) (xs.size-1)]?=some v->(∀b o,s.heap.get? b=some o->h'.get? b=some o)->Q v {s with heap:=h',toks:=tk}):
  wpAny (model prog w) A (call (.builtin "max") [.ref l]) Q E s:=by
 have hlt:l<s.heap.objs.size:=by obtain⟨_,e,_⟩:=hl;exact Uk e
 refine call_max_walk (RN hl ?_)
 refine⟨_,[_,l],[_],_,_,_,_,rfl,Walks.tuple (A:=A.in1) hh _ l (UP hlt) (intItems xs),⟨⟨_,Us _ rfl,rfl,rfl⟩,hl.push _⟩,λc hc=>?_,by simpa[intItems]using hne,CmpOf.ints_gt (numAt xs) (λ_ _=>intItems_at),λv h' tk hP hk=>?_⟩
 ·show c<(s.heap.push _).objs.size
  rw[Ti]
  rcases Uu.mp hc with rfl|hc
  ·exact Td _
  ·rcases Uu.mp hc with rfl|hc
   ·exact Nat.lt_succ_of_lt hlt
   ·cases hc
 ·refine h v h' tk (by simpa[intItems]using hP) λb o e=>hk b o (λhm=>?_) (Ub _ e)
  rcases Uu.mp hm with e1|hm
  ·exact absurd (e1 ▸ Uk e) (Tu _)
  ·cases hm
section
variable{X:Cx}{ca:Nat->Addr}{e:Expr}{me:ME}{pos p:Pos}
theorem Qev{K:Frag}{μ:List Addr}{H:Hp}:∀{vs:List V}{ds:List D}{ns:List Int},Dens K μ H vs ds->Qdm ds=some ns->vs=ns.map V.int
 |_,_,ns,.nil,h=>by cases h;rfl
 |_,_,ns,.cons (ds:=ds) h1 h2,h=>by
  cases h1 with
  |int i =>
   unfold Qdm at h
   cases hr:Qdm ds with
   |none=>rw[hr]at h;cases h
   |some ms=>rw[hr]at h;cases h;rw[UJ,Qev h2 hr]
  |_=>cases h
theorem intsAre_of:∀{ns:List Int}{us:List Value},Vals (ns.map V.int) us->IntsAre us ns
 |[],_,h=>by cases h;exact .nil
 |n::ns,_,h=>by
  cases h with
  |cons h1 h2 =>
   obtain⟨t,rfl⟩:=h1
   exact .cons n t (intsAre_of h2)
theorem Qib(hc:X.calm=true):CallR X (.builtin "max") (λxs H Q=>∃(a:Addr)(ns:List Int)(M:Int),xs=[.ref a]/\SqT X.K H a (ns.map V.int)/\maxZ ns=some M/\Q (.int M) H):=by
 intro pins s σ H xs us Q I rv h
 obtain⟨a,ns,M,rfl,hq,hM,q⟩:=h
 obtain⟨u,rfl,ru⟩:=rv.one
 cases ru
 obtain⟨its,r,pl,hz⟩:=I.tuple hq
 have hi:=intsAre_of r
 obtain⟨m1,m2⟩:=Qdy hM
 obtain⟨xs,hxs⟩:=hi.allInts.items
 have hl:=pl
 rw[hxs]at hl
 have hns:numsOf (intItems xs).toList=ns:=by rw[<-hxs];exact hi.numsOf
 rw[nums_intItems]at hns
 have hlen:xs.size=ns.length:=by rw[<-hns,Uc,Tr]
 have hsz:0<xs.size:=by rw[hlen];exact Wm m1
 refine QgM (I.ok.hd hc) hl hsz λv h' tk hv hk=>?_
 obtain⟨t,rfl⟩:=intItems_at hv
 obtain⟨h1,h2⟩:=argBest_gt (numAt xs) (xs.size-1)
 have e:numAt xs (argBest (λi j=>decide (numAt xs i > numAt xs j)) (xs.size-1))=M:=by
  have b1:numAt xs (argBest (λi j=>decide (numAt xs i > numAt xs j)) (xs.size-1))∈ns:=by
   rw[<-hns,numAt_eq];exact getD_mem (by rw[Uc,Tr];omega)
  have b2:numAt xs (argBest (λi j=>decide (numAt xs i > numAt xs j)) (xs.size-1))>=M:=by
   rw[<-hns]at m1
   obtain⟨j,hj,e⟩:=mem_getD m1
   rw[Uc,Tr]at hj
   rw[<-e,<-numAt_eq];exact h2 j (by omega)
  have b3:=m2 _ b1
  omega
 exact⟨.int M,H,I.kept hk,⟨t,by rw[<-e]⟩,q⟩
theorem Qna(hc:X.calm=true)(hm:X.mg "max" = none)(he:PE3 ca X e me)(hg:Gl X "max":=by rfl)(hs:starEach [e] X.env=[(false,eval e X.env)]:=by rfl)(hpl:(backTo pos (starEach [] X.env)).any (·.1)=false:=by rfl):
  PE3 ca X (.Call (.Name "max" p) [e] [] pos) (mOp1 Qff me) :=
 QjN (r:=λxs H Q=>∃(a:Addr)(ns:List Int)(M:Int),xs=[V.ref a]/\SqT X.K H a (ns.map V.int)/\maxZ ns=some M/\Q (.int M) H) (λpn Φ=>Qib (X:=xat X ca pn Φ) hc) hm boot_max (λΦ σ H μ g y d Q r q pp=>by
  unfold Qff at pp
  cases q with
  |tup ht hs =>
   dsimp only at pp
   rename_i t vs ds
   cases hi:Qdm ds with
   |none=>rw[hi]at pp;exact pp.elim
   |some is =>
    rw[hi]at pp
    dsimp only at pp
    cases hz:maxZ is with
    |none=>rw[hz]at pp;exact pp.elim
    |some M =>
     rw[hz]at pp
     have ew:=Qev hs hi
     subst ew
     exact⟨t,is,M,rfl,ht,hz,pp _ H μ .refl r (.int _)⟩
  |_=>exact pp.elim) he hg (by decide) (by decide) hs hpl
end
end L3
namespace L2
open PySem PySem.Spec PyProof.Rows
section
variable{κ:Type}[DecidableEq κ]
noncomputable def valV(kvs:List (κ×V))(k:κ):Option V:=(kvs.find? λkv=>decide (kv.1=k)).map (·.2)
noncomputable def putK(kvs:List (κ×V))(k:κ)(v:V):List (κ×V) :=
 if (kvs.any λkv=>decide (kv.1=k))=true then kvs.map (λkv=>if kv.1=k then (kv.1,v) else kv) else kvs++[(k,v)]
noncomputable def Qew(kvs:List (κ×V))(k:κ):List (κ×V):=kvs.filter λkv=>decide (kv.1≠k)
theorem Qf4{p:κ×V}{r:List (κ×V)}{k:κ}(e:p.1=k):valV (p::r) k=some p.2:=by simp[valV,UO,e]
theorem Qf5{p:κ×V}{r:List (κ×V)}{k:κ}(e:¬p.1=k):valV (p::r) k=valV r k:=by simp[valV,UO,e]
theorem Qfg(kvs:List (κ×V))(k:κ)(v:V):(putK kvs k v).length<=kvs.length+1:=by
 unfold putK
 split
 ·rw[Uc];omega
 ·rw[Um,UI,List.length_nil];omega
theorem RelO.getD{o:Option V}{u:Option Value}{d:V}{d':Value}(r:RelO o u)(rd:RelV d d'):RelV (o.getD d) (u.getD d'):=by
 cases o with
 |none=>cases u with
  |none=>exact rd
  |some _=>exact(show False from r).elim
 |some _=>cases u with
  |none=>exact(show False from r).elim
  |some _=>exact r
theorem KV.val{kvs:List (κ×V)}{vs:List (κ×Value)}(r:KV kvs vs)(k:κ):RelO (valV kvs k) (valueAt vs k):=by
 unfold KV at r
 induction r with
 |nil=>exact True.intro
 |@cons p q ps qs h t ih =>
  obtain⟨h1,h2⟩:=h
  by_cases e:p.1=k
  ·have e':q.1=k:=h1.symm.trans e
   have b:valueAt (q::qs) k=some q.2:=by simp[valueAt,UO,e']
   rw[Qf4 e,b];exact h2
  ·have e':¬q.1=k:=λz=>e (h1.trans z)
   have b:valueAt (q::qs) k=valueAt qs k:=by simp[valueAt,UO,e']
   rw[Qf5 e,b];exact ih
theorem KV.any{kvs:List (κ×V)}{vs:List (κ×Value)}(r:KV kvs vs)(k:κ):(kvs.any λkv=>decide (kv.1=k))=vs.any λkv=>decide (kv.1=k):=by
 unfold KV at r
 induction r with
 |nil=>rfl
 |cons h t ih=>rw[Tl,Tl,ih,h.1]
theorem KV.repl{kvs:List (κ×V)}{vs:List (κ×Value)}(r:KV kvs vs)(k:κ){y:V}{u:Value}(ry:RelV y u):
  KV (kvs.map λkv=>if kv.1=k then (kv.1,y) else kv) (vs.map λkv=>if kv.1=k then (kv.1,u) else kv):=by
 unfold KV at r ⊢
 induction r with
 |nil=>exact .nil
 |@cons p q ps qs h t ih =>
  rw[UJ,UJ]
  refine .cons ?_ ih
  obtain⟨h1,h2⟩:=h
  by_cases e:p.1=k
  ·rw[Ue e,Ue (h1.symm.trans e)];exact⟨h1,ry⟩
  ·rw[Uh e,Uh (λz=>e (h1.trans z))];exact⟨h1,h2⟩
theorem KV.put{kvs:List (κ×V)}{vs:List (κ×Value)}(r:KV kvs vs)(k:κ){y:V}{u:Value}(ry:RelV y u):KV (putK kvs k y) (stored vs k u):=by
 unfold putK stored
 rw[r.any k]
 by_cases e:(vs.any λkv=>decide (kv.1=k))=true
 ·rw[Ue e,Ue e];exact r.repl k ry
 ·rw[Uh e,Uh e];exact Paired.snoc r ⟨rfl,ry⟩
theorem KV.drop{kvs:List (κ×V)}{vs:List (κ×Value)}(r:KV kvs vs)(k:κ):KV (Qew kvs k) (without vs k):=by
 unfold KV at r ⊢
 unfold Qew without
 induction r with
 |nil=>exact .nil
 |@cons p q ps qs h t ih =>
  obtain⟨h1,h2⟩:=h
  rw[Tw,Tw]
  by_cases e:p.1=k
  ·have a:¬decide (p.1≠k)=true:=by simp[e]
   have b:¬decide (q.1≠k)=true:=by simp[h1.symm.trans e]
   rw[Uh a,Uh b];exact ih
  ·have e':¬q.1=k:=λz=>e (h1.trans z)
   have a:decide (p.1≠k)=true:=by simp[e]
   have b:decide (q.1≠k)=true:=by simp[e']
   rw[Ue a,Ue b];exact .cons ⟨h1,h2⟩ ih
theorem KV.length{kvs:List (κ×V)}{vs:List (κ×Value)}(r:KV kvs vs):kvs.length=vs.length:=Paired.length r
theorem QjT(kvs:List (κ×V))(k:κ):(Qew kvs k).length<=kvs.length:=Wx _ _
end
theorem QjU{P:Program}{w:World}{k:Key}{u:Value}(r:RelV (kV k) u):(Yu P w).is k u=true:=by
 cases k with
 |inl i=>obtain⟨t,e⟩:=(show ∃t,u=Value.int i t from r);subst e;exact Qe3 P w i t
 |inr x=>obtain⟨t,e⟩:=(show ∃t,u=Value.str x t from r);subst e;exact Qe4 P w x t
section
variable{P:Program}{w:World}{H:Hp}{h:Heap}{a:Addr}
theorem Qn6{u:HO}(ok:HOk P w H h)(e:Rd H a u):ObjOk P w H h a u:=e.ok ok
theorem Qnb{kvs:List (Key×V)}(ok:HOk P w H h)(e:Rd H a (.dK kvs)):kvs.length<=sizeLine/\(a == sysModules)=false/\∃vs,KV kvs vs/\h.DictOf (Yu P w) a vs :=
 show ObjOk P w H h a (.dK kvs) from Qn6 ok e
theorem QgN{kvs:List (Key×V)}(ok:HOk P w H h)(e:H a=some (.dK kvs)):kvs.length<=sizeLine/\(a == sysModules)=false/\∃vs,KV kvs vs/\h.DictOf (Yu P w) a vs:=Qnb ok (.inl e)
end
section
variable{X:Cx}{pins:List (Addr×Obj)}{σ:St}{H:Hp}{s:Shared}{a:Addr}{y v:V}{u r:Value}{o:Option V}{A:Around}{E:Value->Shared->Prop}
theorem Inv.big(I:Inv X pins σ H s):sysModules<s.heap.objs.size:=by
 have h:mainGlobals<s.heap.objs.size:=(I.mod.glob.keeps I.bk).lt
 exact Nat.lt_trans (by decide) h
theorem Qic{h':Heap}{t':Nat}{ob:HO}(I:Inv X pins σ H s)(mu:Mut (H a))(hs:Heap.SameBut a s.heap h')(he:∃q,h'.get? a=some q)(new:ObjOk X.prog X.w (upd H a ob) h' a ob):
  Inv X pins σ (upd H a ob) {s with heap:=h',toks:=t'} :=
 I.write (x:=a) (e:=a) mu (.inl rfl) (λb q hb z=>(hs.2 b hb).trans z) he new
theorem QkH{P:Program}{w:World}{H':Hp}{h':Heap}{kvs:List (Key×V)}{vs:List (Key×Value)}(z:kvs.length<=sizeLine)(hd:(a == sysModules)=false)(rel:KV kvs vs)(dd:h'.DictOf (Yu P w) a vs):
  ObjOk P w H' h' a (.dK kvs):=⟨z,hd,vs,rel,dd⟩
end
section
variable{X:Cx}{pins:List (Addr×Obj)}{σ:St}{H:Hp}{s:Shared}{a:Addr}{kvs:List (Key×V)}{k:Key}{u:Value}{A:Around}{E:Value->Shared->Prop}
theorem Qn7{v:V}{more:List Value}{Q:Value->Shared->Prop}(I:Inv X pins σ H s)(e:H a=some (.dK kvs))(ry:RelV (kV k) u)(l:valV kvs k=some v)(hm:more=[]\/∃x,more=[x])(h:∀w' s',Inv X pins σ (upd H a (.dK (Qew kvs k))) s'->RelV v w'->Q w' s'):wpAny (model X.prog X.w) A (call (.builtin "dict.pop") (.ref a::u::more)) Q E s:=by
 obtain⟨z,hd,vs,rel,dd⟩:=QgN I.hok e
 obtain⟨w',hw,rw'⟩:=RelO.some_of (v:=v) (o:=valueAt vs k) (by rw[<-l];exact rel.val k)
 have hp:(keyPart u).isSome=true:=by
  cases k with
  |inl i=>obtain⟨t,q⟩:=(show ∃t,u=Value.int i t from ry);subst q;rfl
  |inr x=>obtain⟨t,q⟩:=(show ∃t,u=Value.str x t from ry);subst q;rfl
 have ha:argsOk "dict.pop" ⟨.ref a::u::more,[]⟩:=by
  rcases hm with q|⟨x,q⟩
  ·subst q;exact PySem.F.args_dict_pop_2 _ _
  ·subst q;exact PySem.F.args_dict_pop_3 _ _ _
 refine call_meetsIn Wy dd.typeIs PySem.F.entry_dict_pop ha (meets_dict_pop_there (Yu X.prog X.w) a (QjU ry) more hm hp)
  ⟨vs,w',dd,by rw[<-rel.length];exact z,hw,λh' dd' hs=>h w' _ ?_ rw'⟩
 have he:∃q,h'.get? a=some q:=let ⟨q,_,_,hq,_⟩:=dd';⟨q,hq⟩
 exact Qic I (by rw[e];exact True.intro) hs he (QkH (Ur (QjT kvs k) z) hd (rel.drop k) dd')
end
section
variable{X:Cx}{o i e value:Expr}{pos pos' tpos:Pos}{td ty tv:TE}
end
theorem QjV{P:Program}{w:World}{H:Hp}(h:Heap)(hb:sysModules<h.objs.size):ObjOk P w H (h.push {cls:=.type "dict",data:=.dict #[]}) h.objs.size (.dK []) :=
 ⟨RY _,Tg.mpr (Ne.symm (UP hb)),[],.nil,Heap.DictOf.new h⟩
noncomputable def Qnc:TE:=λ_ H Q=>∀p,H p=none->Q (.ref p) (upd H p (.dK []))
section
variable{X:Cx}{pos:Pos}
theorem QjW:PE X (.Dict [] [] pos) Qnc:=λpins s σ H Q I h =>
 wpAny_Dict_empty ⟨.ref s.heap.objs.size,_,I.laid (a:=s.heap.objs.size) (o:=.dK []) (t':=s.toks) (λ_ _ q=>Ub _ q) (Ui _) (QjV s.heap I.big),rfl,h _ (I.hok.fresh (Ui _))⟩
end
section
variable{X:Cx}{pins:List (Addr×Obj)}{σ:St}{H:Hp}{s:Shared}{a:Addr}{y d:V}{u r:Value}{o:Option V}{A:Around}{E:Value->Shared->Prop}
end
section
variable{X:Cx}{o e f:Expr}{apos cpos:Pos}{td ty tx:TE}
end
section
variable{X:Cx}{pins:List (Addr×Obj)}{σ:St}{H:Hp}{s:Shared}{a:Addr}{kvs:List (Key×V)}{A:Around}{E:Value->Shared->Prop}
end
section
variable{X:Cx}{pins:List (Addr×Obj)}{σ:St}{H:Hp}{s:Shared}{a:Addr}{y:V}{u:Value}{A:Around}{E:Value->Shared->Prop}
end
end L2
namespace L3
open PySem
noncomputable abbrev DK:=Sum Int Str
noncomputable def dGet(ks:List (DK×D))(k:DK):Option D:=(ks.find? λp=>decide (p.1=k)).map (·.2)
noncomputable def dPut(ks:List (DK×D))(k:DK)(v:D):List (DK×D):=if (ks.any λp=>decide (p.1=k))=true then ks.map λp=>if p.1=k then (p.1,v) else p else ks++[(k,v)]
noncomputable def Qb3(ks:List (DK×D))(k:DK):List (DK×D):=ks.filter λp=>decide (p.1≠k)
noncomputable def Qly:ME:=λ_ g=>.ok (.ref g.length) (g++[.dct []])
noncomputable def Qbv(o k x:ME):ME:=λσ g=>(o σ g).bind λa g1=>match a with
 |.ref n=>(match g1[n]? with
  |some (.dct _)=>(k σ g1).bind λy g2=>(x σ g2).bind λz g3=>(match y with
   |.int i=>(match g3[n]? with
    |some (.dct ks)=>.ok ((dGet ks (.inl i)).getD z) g3
    |_=>.stuck)
   |_=>.stuck)
  |_=>.stuck)
 |_=>.stuck
noncomputable def Qid(o k:ME):ME:=λσ g=>(o σ g).bind λa g1=>match a with
 |.ref n=>(match g1[n]? with
  |some (.dct _)=>(k σ g1).bind λy g2=>(match y with
   |.int i=>(match g2[n]? with
    |some (.dct ks)=>(match dGet ks (.inl i) with
     |some v=>.ok v (g2.set n (.dct (Qb3 ks (.inl i))))
     |none=>.stuck)
    |_=>.stuck)
   |_=>.stuck)
  |_=>.stuck)
 |_=>.stuck
noncomputable def Qfh(o k v:ME):MS:=λσ g=>match v σ g with
 |.ok y g1=>(match o σ g1 with
  |.ok (.ref n) g2=>(match k σ g2 with
   |.ok (.int i) g3=>(match g3[n]? with
    |some (.dct ks)=>if ks.length<SZ then .nx σ (g3.set n (.dct (dPut ks (.inl i) y))) else .stuck
    |_=>.stuck)
   |.raise e g'=>.raise e σ g'
   |_=>.stuck)
  |.raise e g'=>.raise e σ g'
  |_=>.stuck)
 |.raise e g'=>.raise e σ g'
 |.stuck=>.stuck
end L3
namespace L3
open PySem PySem.Spec PyProof.Rows L2
section
variable{K:Frag}{μ:List Addr}{H:Hp}
theorem KRel.get{kv:List (Key×V)}{ks:List (Key×D)}(r:KRel K μ H kv ks)(k:Key):(valV kv k=none/\dGet ks k=none)\/∃v d,valV kv k=some v/\dGet ks k=some d/\Den K μ H v d:=by
 unfold KRel at r
 induction r with
 |nil=>exact .inl ⟨rfl,rfl⟩
 |@cons p q ps qs h t ih =>
  obtain⟨h1,h2⟩:=h
  by_cases e:p.1=k
  ·refine .inr ⟨p.2,q.2,Qf4 e,?_,h2⟩
   unfold dGet;rw[UO,Uz (h1.symm.trans e)];rfl
  ·have e':dGet (q::qs) k=dGet qs k:=by
    unfold dGet;rw[UO,Ul (λz=>e (h1.trans z))]
   rw[Qf5 e,e'];exact ih
theorem KRel.put{kv:List (Key×V)}{ks:List (Key×D)}{v:V}{d:D}(r:KRel K μ H kv ks)(k:Key)(h:Den K μ H v d):KRel K μ H (putK kv k v) (dPut ks k d):=by
 have ha:(kv.any λp=>decide (p.1=k))=ks.any λp=>decide (p.1=k):=by
  unfold KRel at r
  induction r with
  |nil=>rfl
  |cons h t ih=>rw[Tl,Tl,ih,h.1]
 unfold putK dPut
 rw[ha]
 by_cases e:(ks.any λp=>decide (p.1=k))=true
 ·rw[Ue e,Ue e]
  clear ha e
  unfold KRel at r ⊢
  induction r with
  |nil=>exact .nil
  |@cons p q ps qs hp t ih =>
   rw[UJ,UJ]
   refine .cons ?_ ih
   obtain⟨h1,h2⟩:=hp
   by_cases e:p.1=k
   ·rw[Ue e,Ue (h1.symm.trans e)];exact⟨h1,h⟩
   ·rw[Uh e,Uh (λz=>e (h1.trans z))];exact⟨h1,h2⟩
 ·rw[Uh e,Uh e];exact Paired.snoc r ⟨rfl,h⟩
theorem KRel.drop{kv:List (Key×V)}{ks:List (Key×D)}(r:KRel K μ H kv ks)(k:Key):KRel K μ H (Qew kv k) (Qb3 ks k):=by
 unfold KRel at r ⊢
 unfold Qew Qb3
 induction r with
 |nil=>exact .nil
 |@cons p q ps qs h t ih =>
  obtain⟨h1,h2⟩:=h
  rw[Tw,Tw,<-h1]
  by_cases e:decide (p.1≠k)=true
  ·rw[Ue e,Ue e];exact .cons ⟨h1,h2⟩ ih
  ·rw[Uh e,Uh e];exact ih
end
section
variable{X:Cx}
theorem QjX:MtR X "dict.get" (λx vs H Q=>∃a kvs k d,x=.ref a/\vs=[kV k,d]/\H a=some (.dK kvs)/\Q ((valV kvs k).getD d) H):=by
 intro pins s σ H x vs v us Q I rx rv h
 obtain⟨a,kvs,k,d,rfl,rfl,e,q⟩:=h
 cases rx
 cases rv with
 |cons ry r2=>cases r2 with
  |cons rd r3 =>
   cases r3
   obtain⟨z,hd,vs,rel,dd⟩:=QgN I.hok e
   exact call_meetsIn Wz dd.typeIs PySem.F.entry_dict_get (PySem.F.args_dict_get_3 _ _ _) (meets_dict_get_default (Yu X.prog X.w) a (QjU ry) hd _) ⟨_,dd.mapOf,_,H,I.tok _,(rel.val k).getD rd,q⟩
theorem Qlz:MtR X "dict.pop" (λx vs H Q=>∃a kvs k v,x=.ref a/\vs=[kV k]/\H a=some (.dK kvs)/\valV kvs k=some v/\Q v (upd H a (.dK (Qew kvs k)))):=by
 intro pins s σ H x vs v us Q I rx rv h
 obtain⟨a,kvs,k,w,rfl,rfl,e,l,q⟩:=h
 cases rx
 obtain⟨u,rfl,ru⟩:=rv.one
 exact Qn7 I e ru l (.inl rfl) λw' s' I' rw'=>⟨_,_,I',rw',q⟩
theorem QjY:PSet X (λo i v H Q=>∃a kvs k,o=.ref a/\i=kV k/\H a=some (.dK kvs)/\kvs.length<sizeLine/\Q (upd H a (.dK (putK kvs k v)))):=by
 intro pins s σ H o i v ov iv u Q I ro ri rv h
 obtain⟨a,kvs,k,rfl,rfl,e,l,q⟩:=h
 cases ro
 obtain⟨z,hd,vs,rel,dd⟩:=QgN I.hok e
 have hz:vs.length<=sizeLine:=by rw[<-rel.length];exact z
 have hl:(putK kvs k v).length<=sizeLine:=by have:=Qfg kvs k v;omega
 refine wpAny_setItem_pairs (hsz:=hz) (QjU ri) dd λh' dd' hs=>?_
 have he:∃q,h'.get? a=some q:=let ⟨q,_,_,hq,_⟩:=dd';⟨q,hq⟩
 exact⟨_,Qic I (by rw[e];exact True.intro) hs he (QkH hl hd (rel.put k rv) dd'),q⟩
end
section
variable{X:Cx}{ca:Nat->Addr}{o e f:Expr}{mo me mf:ME}{p pos apos:Pos}
theorem Qnd:PE3 ca X (.Dict [] [] pos) Qly :=
 λpn Φ=>Zu (QjW (X:=xat X ca pn Φ)) λσ H Q ⟨σ3,g,μ,R,q⟩=>λt ht=>q _ _ (μ++[t]) (QS ht) (R.g.push ht ⟨[],Qr,.nil⟩) (.ref (by rw[<-R.g.len];simp))
theorem Qie(ho:PE3 ca X o mo)(he:PE3 ca X e me)(hf:PE3 ca X f mf)(hbase:attributeBase o "get" X.env (eval o X.env)=eval o X.env:=by rfl)(hfew:((backTo pos (starEach [e,f] X.env)).all (λx=>!x.1) && (backToKw pos (keywordEach [] X.env)).all (λx=>x.1.isSome) && decide ([e,f].length+([]:List Keyword).length+(if ([]:List Keyword).isEmpty then 0 else 1)<30))=true:=by rfl)(hline:(apos.endLine == pos.line)=true:=by rfl)(hs:starEach [e,f] X.env=(false,eval e X.env)::starEach [f] X.env:=by rfl)(hs2:starEach [f] X.env=(false,eval f X.env)::starEach [] X.env:=by rfl)(hplain:(backTo pos (starEach [f] X.env)).any (·.1)=false:=by rfl):
  PE3 ca X (.Call (.Attribute o "get" apos) [e,f] [] pos) (Qbv mo me mf) :=
 λpn Φ=>Zu (QjB (X:=xat X ca pn Φ) Wc Wz PySem.F.type_dict_get QjX (ho pn Φ) (Jd he (Jd hf Qi hs2) hs pn Φ) hbase hfew hline hs hplain) λσ H Q ⟨σ3,g,μ,R,q⟩=>Zs (Qar R q) λx H1 hQ=>by
  obtain⟨d,g1,μ1,e1,R1,q1,p1⟩:=hQ
  cases q1 with
  |@ref n t hn =>
   dsimp only at p1
   cases hgn:g1[n]? with
   |none=>rw[hgn]at p1;exact p1.elim
   |some ob =>
    rw[hgn]at p1
    obtain⟨t',ht',orp⟩:=R1.g.addr hgn
    rw[hn]at ht';cases ht'
    cases ob with
    |dct ks0 =>
     obtain⟨kv0,hH0,_⟩:=orp
     dsimp only at p1
     refine⟨.inr (.inr (.inl ⟨rfl,.inl ⟨_,hH0⟩⟩)),σ3,g1,μ1,R1,?_⟩
     unfold Qb mNil
     cases hm:me σ3 g1 with
     |raise _ _=>rw[hm]at p1;exact p1
     |stuck=>rw[hm]at p1;exact p1.elim
     |ok y g2 =>
      rw[hm,Res.bind_ok]at p1
      rw[Res.bind_ok]
      cases hm2:mf σ3 g2 with
      |raise _ _=>rw[hm2]at p1;exact p1
      |stuck=>rw[hm2]at p1;exact p1.elim
      |ok z g3 =>
       rw[hm2,Res.bind_ok]at p1
       rw[Res.bind_ok,Res.bind_ok,Res.bind_ok]
       intro vs H2 μ2 e2 r2 q2
       cases q2 with
       |cons h1 h2=>cases h2 with
        |cons h2 h3 =>
         cases h3
         cases h1 with
         |int i =>
          dsimp only at p1
          cases hg2:g3[n]? with
          |none=>rw[hg2]at p1;exact p1.elim
          |some ob2 =>
           rw[hg2]at p1
           obtain⟨t',ht',orp⟩:=r2.addr hg2
           rw[e2.at hn]at ht';cases ht'
           cases ob2 with
           |dct ks =>
            obtain⟨kv,hH,qs⟩:=orp
            dsimp only at p1
            refine⟨t,kv,.inl i,_,rfl,rfl,hH,p1 _ _ μ2 e2 r2 ?_⟩
            rcases qs.get (.inl i) with⟨a,b⟩|⟨v,d,a,b,c⟩
            ·rw[a,b];exact h2
            ·rw[a,b];exact c
           |_=>exact p1.elim
         |_=>exact p1.elim
    |_=>exact p1.elim
  |_=>exact p1.elim
theorem Qne(ho:PE3 ca X o mo)(he:PE3 ca X e me)(hbase:attributeBase o "pop" X.env (eval o X.env)=eval o X.env:=by rfl)(hfew:((backTo pos (starEach [e] X.env)).all (λx=>!x.1) && (backToKw pos (keywordEach [] X.env)).all (λx=>x.1.isSome) && decide ([e].length+([]:List Keyword).length+(if ([]:List Keyword).isEmpty then 0 else 1)<30))=true:=by rfl)(hline:(apos.endLine == pos.line)=true:=by rfl)(hs:starEach [e] X.env=(false,eval e X.env)::starEach [] X.env:=by rfl)(hplain:(backTo pos (starEach [] X.env)).any (·.1)=false:=by rfl):
  PE3 ca X (.Call (.Attribute o "pop" apos) [e] [] pos) (Qid mo me) :=
 λpn Φ=>Zu (QjB (X:=xat X ca pn Φ) Wc Wy PySem.F.type_dict_pop Qlz (ho pn Φ) (Jd he Qi hs pn Φ) hbase hfew hline hs hplain) λσ H Q ⟨σ3,g,μ,R,q⟩=>Zs (Qar R q) λx H1 hQ=>by
  obtain⟨d,g1,μ1,e1,R1,q1,p1⟩:=hQ
  cases q1 with
  |@ref n t hn =>
   dsimp only at p1
   cases hgn:g1[n]? with
   |none=>rw[hgn]at p1;exact p1.elim
   |some ob =>
    rw[hgn]at p1
    obtain⟨t',ht',orp⟩:=R1.g.addr hgn
    rw[hn]at ht';cases ht'
    cases ob with
    |dct ks0 =>
     obtain⟨kv0,hH0,_⟩:=orp
     dsimp only at p1
     refine⟨.inr (.inr (.inl ⟨rfl,.inl ⟨_,hH0⟩⟩)),σ3,g1,μ1,R1,?_⟩
     unfold Qb mNil
     cases hm:me σ3 g1 with
     |raise _ _=>rw[hm]at p1;exact p1
     |stuck=>rw[hm]at p1;exact p1.elim
     |ok y g2 =>
      rw[hm,Res.bind_ok]at p1
      rw[Res.bind_ok,Res.bind_ok]
      intro vs H2 μ2 e2 r2 q2
      cases q2 with
      |cons h1 h2 =>
       cases h2
       cases h1 with
       |int i =>
        dsimp only at p1
        cases hg2:g2[n]? with
        |none=>rw[hg2]at p1;exact p1.elim
        |some ob2 =>
         rw[hg2]at p1
         obtain⟨t',ht',orp⟩:=r2.addr hg2
         rw[e2.at hn]at ht';cases ht'
         cases ob2 with
         |dct ks =>
          obtain⟨kv,hH,qs⟩:=orp
          dsimp only at p1
          rcases qs.get (.inl i) with⟨a,b⟩|⟨v,d,a,b,c⟩
          ·rw[b]at p1;exact p1.elim
          ·rw[b]at p1
           have ex:Ext X.K μ2 H2 μ2 (upd H2 t (.dK (Qew kv (.inl i)))):=Jn hH (by intro _ z;cases z) (by intro _ _ z;cases z)
           refine⟨t,kv,.inl i,v,rfl,rfl,hH,a,p1 _ _ μ2 (e2.trans ex) ?_ (c.mono ex)⟩
           exact r2.set (e2.at hn) hH (by intro _ z;cases z) (by intro _ _ z;cases z) ⟨_,Qr,(qs.mono ex).drop _⟩
         |_=>exact p1.elim
       |_=>exact p1.elim
    |_=>exact p1.elim
  |_=>exact p1.elim
theorem QkI{i:Expr}{mi:ME}{pos':Pos}(ho:PE3 ca X o mo)(hi:PE3 ca X i mi)(he:PE3 ca X e me)(hs:swapsWithSole [.Subscript o i pos'] e pos.line X.env=pure false:=by rfl)(hw:swappedStores [.Subscript o i pos'] e X.env=pure none:=by rfl)(h1:(assignEach [.Subscript o i pos'] X.env).map (·.2)=[assign (.Subscript o i pos') X.env]:=by rfl)(ha:∀v,assign (.Subscript o i pos') X.env v=(do
   let ov <-holding [v] (eval o X.env)
   let iv <-holding [v,ov] (eval i X.env)
   standAt pos'
   holding [v,ov,iv] (setItem ov iv v)
   release [v,ov,iv] []):=by intro _;rfl):PS3 ca X (.Assign [.Subscript o i pos'] e pos) (Qfh mo mi me) :=
 λpn Φ=>Y8 (Qhj (X:=xat X ca pn Φ) (he pn Φ) (Qkq (X:=xat X ca pn Φ) (ho pn Φ) (hi pn Φ) QjY ha) hs hw h1) λE σ H ⟨σ3,g,μ,R,p⟩=>⟨σ3,g,μ,R,by
  unfold Qfh at p
  cases hm:me σ3 g with
  |ok y g1 =>
   rw[hm]at p
   dsimp only at p
   intro vy H1 μ1 e1 r1 q1
   refine⟨σ3,g1,μ1,R.go e1 r1,?_⟩
   cases hm2:mo σ3 g1 with
   |ok d g2 =>
    rw[hm2]at p
    intro vx H2 μ2 e2 r2 q2
    cases q2 with
    |@ref n a hn =>
     dsimp only at p
     refine⟨σ3,g2,μ2,R.go (e1.trans e2) r2,?_⟩
     cases hm3:mi σ3 g2 with
     |ok di g3 =>
      rw[hm3]at p
      intro vi H3 μ3 e3 r3 q3
      cases q3 with
      |int k =>
       dsimp only at p
       cases hg:g3[n]? with
       |none=>rw[hg]at p;exact p.elim
       |some ob =>
        rw[hg]at p
        obtain⟨a',ha',orp⟩:=r3.addr hg
        rw[e3.at hn]at ha';cases ha'
        cases ob with
        |dct ks =>
         dsimp only at p
         obtain⟨kv,hH,q⟩:=orp
         by_cases z:ks.length<SZ
         ·rw[Ue z]at p
          have ex:Ext X.K μ3 H3 μ3 (upd H3 a (.dK (putK kv (.inl k) vy))):=Jn hH (by intro _ z;cases z) (by intro _ _ z;cases z)
          refine⟨a,kv,.inl k,rfl,rfl,hH,by rw[Paired.length q];exact UC z YK,?_⟩
          refine p σ _ μ3 (((e1.trans e2).trans e3).trans ex) ((R.go ((e1.trans e2).trans e3) r3).go ex ?_)
          exact r3.set (e3.at hn) hH (by intro _ z;cases z) (by intro _ _ z;cases z) ⟨_,Qr,(q.mono ex).put _ (((q1.mono e2).mono e3).mono ex)⟩
         ·rw[Uh z]at p;exact p.elim
        |_=>exact p.elim
      |_=>exact p.elim
     |raise _ _=>rw[hm3]at p;exact(RaP.stmt R p).go (e1.trans e2)
     |stuck=>rw[hm3]at p;exact p
    |_=>exact p.elim
   |raise _ _=>rw[hm2]at p;exact(RaP.stmt R p).go e1
   |stuck=>rw[hm2]at p;exact p
  |raise _ _=>rw[hm]at p;exact RaP.stmt R p
  |stuck=>rw[hm]at p;exact p⟩
end
end L3
namespace L3
open PySem
noncomputable def QjZ(x y:D)(g:G):Res D:=match x,y with
 |.int i,.int j=>.ok (.int (if j<i then j else i)) g
 |_,_=>.stuck
noncomputable def Qj0(x y:D)(g:G):Res D:=match x,y with
 |.int i,.int j=>.ok (.int (if i<j then j else i)) g
 |_,_=>.stuck
noncomputable def Qb4(o e:ME):ME:=λσ g=>(o σ g).bind λx g1=>match x with
 |.ref n=>(match g1[n]? with
  |some (.lst _)=>(e σ g1).bind λy g2=>(match y with
   |.ref m=>(match g2[n]?,g2[m]? with
    |some (.lst ds),some (.lst es)=>if n≠m/\ds.length+es.length<=SZ then .ok .non (g2.set n (.lst (ds++es))) else .stuck
    |_,_=>.stuck)
   |.tup es=>(match g2[n]? with
    |some (.lst ds)=>if ds.length+es.length<=SZ then .ok .non (g2.set n (.lst (ds++es))) else .stuck
    |_=>.stuck)
   |_=>.stuck)
  |_=>.stuck)
 |_=>.stuck
noncomputable def Yq:List (DK×D)->Option (List Int)
 |[]=>some []
 | (.inl i,_)::r=>(Yq r).map (i :: ·)
 |_::_=>none
end L3
namespace L3
open PySem PySem.Spec PyProof.Rows L2
section
variable{X:Cx}
theorem QlA{i:Int}{v:Value}(h:Qe2 (.inl i) v=true):∃t,v=.int i t:=by
 rcases Zg h with⟨j,t,e1,e2⟩|⟨x,t,e1,e2⟩
 ·cases e1;exact⟨t,e2⟩
 ·cases e1
theorem Qif{kvs:List (Key×V)}{vs:List (Key×Value)}(rel:KV kvs vs):kvs.map (·.1)=vs.map (·.1):=by
 unfold KV at rel
 induction rel with
 |nil=>rfl
 |cons h t ih=>rw[UJ,UJ,ih,h.1]
end
section
variable{X:Cx}{ca:Nat->Addr}{a b e f o:Expr}{ma mb me mf mo:ME}{p pos apos:Pos}
theorem KRel.keys{K:Frag}{μ:List Addr}{H:Hp}{kv:List (Key×V)}{ks:List (Key×D)}(r:KRel K μ H kv ks):kv.map (·.1)=ks.map (·.1):=by
 unfold KRel at r
 induction r with
 |nil=>rfl
 |cons h t ih=>rw[UJ,UJ,ih,h.1]
theorem Qex:∀{ks:List (Key×D)}{is:List Int},Yq ks=some is->ks.map (·.1)=is.map Sum.inl
 |[],_,h=>by cases h;rfl
 | (.inl i,_)::r,is,h=>by
  have h:(Yq r).map (i :: ·)=some is:=h
  obtain⟨js,h1,h2⟩:=TV.mp h
  subst h2
  rw[UJ,UJ,Qex h1]
theorem QkJ{x:Str}{id:String}{r:List V->Hp->VK->Prop}{h:D->D->G->Res D}(hc:∀pn Φ,CallR (xat X ca pn Φ) (.builtin id) r)(hm:X.mg x=none)(hv:bootBuiltins x=some (.builtin id))(hp:∀(Φ:XS) (σ:L2.St) (H:Hp) (μ:List Addr) (g:G) (y z:V) (d c:D) (Q:VK),GRep X.K ca μ H g->Den X.K μ H y d->Den X.K μ H z c->Post X.K ca Φ σ Q H μ (h d c g)->r [y,z] H Q)(he:PE3 ca X e me)(hf:PE3 ca X f mf)(hg:Gl X x)(hn:x ≠ "__name__")(hdb:(x == ("__debug__" : Str))=false)(hs:starEach [e,f] X.env=(false,eval e X.env)::starEach [f] X.env)(hs2:starEach [f] X.env=(false,eval f X.env)::starEach [] X.env)(hpl:(backTo pos (starEach [f] X.env)).any (·.1)=false):PE3 ca X (.Call (.Name x p) [e,f] [] pos) (mOp2 h me mf) :=
 λpn Φ=>Zu (QbE (X:=xat X ca pn Φ) (hc pn Φ) hg hm hv (Jd he (Jd hf Qi hs2) hs pn Φ) hn hdb hs hpl) λσ H Q hQ=>by
  obtain⟨σ3,g,μ,R,q⟩:=hQ
  refine⟨σ3,g,μ,R,?_⟩
  unfold mOp2 at q
  unfold Qb mNil
  cases hm:me σ3 g with
  |raise _ _=>rw[hm]at q;exact q
  |stuck=>rw[hm]at q;exact q.elim
  |ok d g1 =>
   rw[hm,Res.bind_ok]at q
   rw[Res.bind_ok]
   cases hm2:mf σ3 g1 with
   |raise _ _=>rw[hm2]at q;exact q
   |stuck=>rw[hm2]at q;exact q.elim
   |ok c g2 =>
    rw[hm2,Res.bind_ok]at q
    rw[Res.bind_ok,Res.bind_ok,Res.bind_ok]
    intro vs H1 μ1 e1 r1 q1
    cases q1 with
    |cons h1 h2=>cases h2 with
     |cons h2 h3 =>
      cases h3
      exact hp Φ σ H1 μ1 g2 _ _ d c Q r1 h1 h2 (q.go e1)
theorem Qnf(hc:X.calm=true)(hm:X.mg "min" = none)(he:PE3 ca X e me)(hf:PE3 ca X f mf)(hg:Gl X "min":=by rfl)(hs:starEach [e,f] X.env=(false,eval e X.env)::starEach [f] X.env:=by rfl)(hs2:starEach [f] X.env=(false,eval f X.env)::starEach [] X.env:=by rfl)(hpl:(backTo pos (starEach [f] X.env)).any (·.1)=false:=by rfl):
  PE3 ca X (.Call (.Name "min" p) [e,f] [] pos) (mOp2 QjZ me mf) :=
 QkJ (λpn Φ=>Qhp (X:=xat X ca pn Φ) hc) hm boot_min (λΦ σ H μ g y z d c Q r q1 q2 pp=>by
  unfold QjZ at pp
  cases q1 with
  |int i =>
   cases q2 with
   |int j=>exact⟨i,j,rfl,pp _ H μ .refl r (.int _)⟩
   |_=>exact pp.elim
  |_=>cases q2 <;> exact pp.elim) he hf hg (by decide) (by decide) hs hs2 hpl
theorem Qng(hc:X.calm=true)(hm:X.mg "max" = none)(he:PE3 ca X e me)(hf:PE3 ca X f mf)(hg:Gl X "max":=by rfl)(hs:starEach [e,f] X.env=(false,eval e X.env)::starEach [f] X.env:=by rfl)(hs2:starEach [f] X.env=(false,eval f X.env)::starEach [] X.env:=by rfl)(hpl:(backTo pos (starEach [f] X.env)).any (·.1)=false:=by rfl):
  PE3 ca X (.Call (.Name "max" p) [e,f] [] pos) (mOp2 Qj0 me mf) :=
 QkJ (λpn Φ=>Qho (X:=xat X ca pn Φ) hc) hm boot_max (λΦ σ H μ g y z d c Q r q1 q2 pp=>by
  unfold Qj0 at pp
  cases q1 with
  |int i =>
   cases q2 with
   |int j=>exact⟨i,j,rfl,pp _ H μ .refl r (.int _)⟩
   |_=>exact pp.elim
  |_=>cases q2 <;> exact pp.elim) he hf hg (by decide) (by decide) hs hs2 hpl
theorem Qf6(ho:PE3 ca X o mo)(he:PE3 ca X e me)(hbase:attributeBase o "extend" X.env (eval o X.env)=eval o X.env:=by rfl)(hfew:((backTo pos (starEach [e] X.env)).all (λx=>!x.1) && (backToKw pos (keywordEach [] X.env)).all (λx=>x.1.isSome) && decide ([e].length+([]:List Keyword).length+(if ([]:List Keyword).isEmpty then 0 else 1)<30))=true:=by rfl)(hline:(apos.endLine == pos.line)=true:=by rfl)(hs:starEach [e] X.env=(false,eval e X.env)::starEach [] X.env:=by rfl)(hplain:(backTo pos (starEach [] X.env)).any (·.1)=false:=by rfl):
  PE3 ca X (.Call (.Attribute o "extend" apos) [e] [] pos) (Qb4 mo me) :=
 λpn Φ=>Zu (QjB (X:=xat X ca pn Φ) Wb PySem.F.slot_list_extend PySem.F.type_list_extend QgF (ho pn Φ) (Jd he Qi hs pn Φ) hbase hfew hline hs hplain) λσ H Q ⟨σ3,g,μ,R,q⟩=>Zs (Qar R q) λx H1 hQ=>by
  obtain⟨d,g1,μ1,e1,R1,q1,p1⟩:=hQ
  cases q1 with
  |@ref n t hn =>
   dsimp only at p1
   cases hgn:g1[n]? with
   |none=>rw[hgn]at p1;exact p1.elim
   |some ob =>
    rw[hgn]at p1
    obtain⟨t',ht',orp⟩:=R1.g.addr hgn
    rw[hn]at ht';cases ht'
    cases ob with
    |lst ds0 =>
     obtain⟨vs0,hH0,_⟩:=orp
     dsimp only at p1
     refine⟨.inl ⟨rfl,_,.of hH0⟩,σ3,g1,μ1,R1,?_⟩
     unfold Qb mNil
     cases hm:me σ3 g1 with
     |raise _ _=>rw[hm]at p1;exact p1
     |stuck=>rw[hm]at p1;exact p1.elim
     |ok y g2 =>
      rw[hm,Res.bind_ok]at p1
      rw[Res.bind_ok,Res.bind_ok]
      intro vs H2 μ2 e2 r2 q2
      cases q2 with
      |cons h1 h2 =>
       cases h2
       cases h1 with
       |@ref m c hmm =>
        dsimp only at p1
        cases hg2:g2[n]? with
        |none=>rw[hg2]at p1;exact p1.elim
        |some ob2 =>
         cases hg3:g2[m]? with
         |none=>rw[hg2,hg3]at p1;cases ob2 <;> exact p1.elim
         |some ob3 =>
          rw[hg2,hg3]at p1
          obtain⟨t',ht',orp⟩:=r2.addr hg2
          rw[e2.at hn]at ht';cases ht'
          obtain⟨c',hc',orp3⟩:=r2.addr hg3
          rw[hmm]at hc';cases hc'
          cases ob2 with
          |lst ds =>
           cases ob3 with
           |lst es =>
            obtain⟨ws,hH,qs⟩:=orp
            obtain⟨zs,hH3,qz⟩:=orp3
            dsimp only at p1
            by_cases z:n≠m/\ds.length+es.length<=SZ
            ·rw[Ue z]at p1
             have ex:Ext X.K μ2 H2 μ2 (upd H2 t (.lst (ws++zs))):=Jn hH (by intro _ z;cases z) (by intro _ _ z;cases z)
             refine .inl ⟨t,c,ws,zs,rfl,rfl,hH,hH3,by rw[qs.length,qz.length];exact Ur z.2 YK,p1 _ _ μ2 (e2.trans ex) ?_ .non⟩
             exact r2.set (e2.at hn) hH (by intro _ z;cases z) (by intro _ _ z;cases z) ⟨_,Qr,(qs.mono ex).append (qz.mono ex)⟩
            ·rw[Uh z]at p1;exact p1.elim
           |_=>exact p1.elim
          |_=>cases ob3 <;> exact p1.elim
       |@tup c zs es hc qz =>
        dsimp only at p1
        cases hg2:g2[n]? with
        |none=>rw[hg2]at p1;exact p1.elim
        |some ob2 =>
         rw[hg2]at p1
         obtain⟨t',ht',orp⟩:=r2.addr hg2
         rw[e2.at hn]at ht';cases ht'
         cases ob2 with
         |lst ds =>
          obtain⟨ws,hH,qs⟩:=orp
          dsimp only at p1
          by_cases z:ds.length+es.length<=SZ
          ·rw[Ue z]at p1
           have ex:Ext X.K μ2 H2 μ2 (upd H2 t (.lst (ws++zs))):=Jn hH (by intro _ z;cases z) (by intro _ _ z;cases z)
           refine .inr ⟨t,c,ws,zs,rfl,rfl,hH,hc,by rw[qs.length,qz.length];exact Ur z YK,p1 _ _ μ2 (e2.trans ex) ?_ .non⟩
           exact r2.set (e2.at hn) hH (by intro _ z;cases z) (by intro _ _ z;cases z) ⟨_,Qr,(qs.mono ex).append (qz.mono ex)⟩
          ·rw[Uh z]at p1;exact p1.elim
         |_=>exact p1.elim
       |_=>exact p1.elim
    |_=>exact p1.elim
  |_=>exact p1.elim
end
end L3
namespace L3
open PySem
noncomputable def QcZ(x:D)(g:G):Res D:=match tyOf g x with
 |some t=>.ok (.bl (tyLe t .list || tyLe t .tuple)) g
 |none=>.stuck
end L3
namespace L3
open PySem PySem.Spec PyProof.Rows L2
section
variable{X:Cx}{ca:Nat->Addr}{e:Expr}{me:ME}{pos p p2 tp:Pos}{all cs:List Nat}
theorem JS(K:Frag)(t:Ty):kitAny K (.type t.name) [.type "list",.type "tuple"]=some (tyLe t .list || tyLe t .tuple):=by
 unfold kitAny
 rw[show Value.type "list" = .type Ty.list.name from rfl,Ja]
 cases tyLe t .list with
 |true=>rfl
 |false =>
  dsimp only
  unfold kitAny
  rw[show Value.type "tuple" = .type Ty.tuple.name from rfl,Ja]
  cases tyLe t .tuple <;> rfl
theorem QlB{h:Heap}{a:Addr}{xs:Array Value}(p:IsTup h a xs):∃dd n sl,h.get? a=some ⟨.type "tuple",dd,.seq xs n,sl⟩:=by
 obtain⟨⟨cls,dd,data,sl⟩,h1,h2,n,h3⟩:=p
 simp only at h2 h3
 subst h2 h3
 exact⟨dd,n,sl,h1⟩
theorem QgO:CallR X (.builtin "isinstance") (λxs H Q=>∃x q g μ d t,xs=[x,.ref q]/\SqT X.K H q [.ty "list",.ty "tuple"]/\GRep X.K ca μ H g/\Den X.K μ H x d/\tyOf g d=some t/\Q (.bl (tyLe t .list || tyLe t .tuple)) H):=by
 intro pins s σ H xs us Q I rv h
 obtain⟨x,q,g,μ,d,t,rfl,hq,r,qd,ht,qq⟩:=h
 obtain⟨u,u2,rfl,ru,ru2⟩:=rv.two
 cases ru2
 obtain⟨its,r1,p1,_⟩:=I.tuple hq
 obtain⟨w1,w2,rfl,a1,a2⟩:=r1.two
 cases a1;cases a2
 obtain⟨dd,n,sl,ho⟩:=QlB p1
 have fin:∀tk,EP X pins σ Q (.bool (tyLe t .list || tyLe t .tuple)) {s with toks:=tk}:=λtk=>⟨.bl _,H,I.tok tk,rfl,qq⟩
 cases qd with
 |non=>cases ht;cases (show u=Value.none from ru);exact To kitx_none I.kIn True.intro ho (JS X.K .non) (λz=>nomatch z) fin
 |bl y=>cases ht;cases (show u=Value.bool y from ru);exact To kitx_bool I.kIn True.intro ho (JS X.K .bool) (λz=>nomatch z) fin
 |int y=>cases ht;obtain⟨t,q⟩:=(show ∃t,u=Value.int y t from ru);cases q;exact To kitx_int I.kIn True.intro ho (JS X.K .int) (λz=>nomatch z) fin
 |str y=>cases ht;obtain⟨t,q⟩:=(show ∃t,u=Value.str y t from ru);cases q;exact To kitx_str I.kIn True.intro ho (JS X.K .str) (λz=>nomatch z) fin
 |@tup a vs ds hq hs =>
  cases ht
  cases ru
  obtain⟨its,_,⟨o,h1,h2,_⟩,_⟩:=I.tuple hq
  exact To RL I.kIn ⟨o,h1,h2⟩ ho (JS X.K .tuple) (λz=>nomatch z) fin
 |@fl a vs ds hq hs =>
  cases ht
  cases ru
  obtain⟨its,_,p,_⟩:=I.list hq.sq
  obtain⟨o,h1,h2,_⟩:=p.isList
  exact To T4 I.kIn ⟨o,h1,h2⟩ ho (JS X.K .list) (λz=>nomatch z) fin
 |@ref n a hn =>
  unfold tyOf at ht
  dsimp only at ht
  cases hg:g[n]? with
  |none=>rw[hg]at ht;cases ht
  |some o =>
   rw[hg]at ht
   obtain⟨a',ha',ob⟩:=r.addr hg
   rw[hn]at ha';cases ha'
   cases o with
   |lst ds =>
    cases ht
    obtain⟨vs,hH,_⟩:=ob
    cases ru
    obtain⟨_,_,n,_,h1⟩:=(show ObjOk X.prog X.w H s.heap a (.lst vs) from I.hok a _ hH)
    exact To T4 I.kIn ⟨_,h1,rfl⟩ ho (JS X.K .list) (λz=>nomatch z) fin
   |dct ks =>
    cases ht
    obtain⟨kv,hH,_⟩:=ob
    cases ru
    obtain⟨_,_,vs,_,p⟩:=(show ObjOk X.prog X.w H s.heap a (.dK kv) from I.hok a _ hH)
    obtain⟨o,es,ep,h1,h2,_⟩:=p
    exact To RS I.kIn ⟨o,h1,h2.1⟩ ho (JS X.K .dict) (λz=>nomatch z) fin
   |ins _ _=>cases ht
   |exc _=>cases ht
   |dfz _=>cases ht
theorem QlC{k:Nat}{p3:Pos}(hi:X.mg "isinstance" = none)(hl:X.mg "list" = none)(ht:X.mg "tuple" = none)(he:PE3 ca X e me)(hgi:Gl X "isinstance":=by rfl)(hgl:Gl X "list":=by rfl)(hgt:Gl X "tuple":=by rfl)(hs:starEach [e,.Tuple [.Name "list" p2,.Name "tuple" p3] k tp] X.env=(false,eval e X.env)::starEach [.Tuple [.Name "list" p2,.Name "tuple" p3] k tp] X.env:=by rfl)(hs2:starEach [.Tuple [.Name "list" p2,.Name "tuple" p3] k tp] X.env=(false,eval (.Tuple [.Name "list" p2,.Name "tuple" p3] k tp) X.env)::starEach [] X.env:=by rfl)(hs3:starEach [.Name "list" p2,.Name "tuple" p3] X.env=(false,eval (.Name "list" p2) X.env)::starEach [.Name "tuple" p3] X.env:=by rfl)(hs4:starEach [.Name "tuple" p3] X.env=(false,eval (.Name "tuple" p3) X.env)::starEach [] X.env:=by rfl)(hpl:(backTo pos (starEach [.Tuple [.Name "list" p2,.Name "tuple" p3] k tp] X.env)).any (·.1)=false:=by rfl):
  PE3 ca X (.Call (.Name "isinstance" p) [e,.Tuple [.Name "list" p2,.Name "tuple" p3] k tp] [] pos) (mOp1 QcZ me) :=
 λpn Φ=>Zu (QbE (X:=xat X ca pn Φ) (QgO (ca:=ca)) hgi hi boot_isinstance (QaE (X:=xat X ca pn Φ) (he pn Φ) (QaE (X:=xat X ca pn Φ) (Qkt (X:=xat X ca pn Φ) (QaE (X:=xat X ca pn Φ) (Qe5 (X:=xat X ca pn Φ) (v:=.ty "list") hgl hl boot_list rfl (by decide) (by decide)) (QaE (X:=xat X ca pn Φ) (Qe5 (X:=xat X ca pn Φ) (v:=.ty "tuple") hgt ht boot_tuple rfl (by decide) (by decide)) QfK hs4) hs3)) QfK hs2) hs) (by decide) (by decide) hs hpl) λσ H Q ⟨σ3,g,μ,R,q⟩ =>
  Zs (Qar R q) λy H1 hQ=>by
   obtain⟨d,g1,μ1,e1,R1,q1,p1⟩:=hQ
   unfold QcZ at p1
   cases ht:tyOf g1 d with
   |none=>rw[ht]at p1;exact p1.elim
   |some t =>
    rw[ht]at p1
    exact⟨Ur (by decide:2<=SZ) YK,λq hq=>⟨y,q,g1,μ1,d,t,rfl,.of Qr,R1.g.new hq,q1.mono (Zc hq),ht,p1 _ _ μ1 (Zc hq) (R1.g.new hq) (.bl _)⟩⟩
end
noncomputable def datB(K:Frag):Nat->Value->D->Bool
 |0,_,_=>false
 |f+1,u,d=>match u,d with
  |.none,.non=>true
  |.int i _,.int j=>i == j
  |.str s _,.str z=>s == z
  |.ref a,.tup ds=>(match K.lookup a with
   |some ⟨.type t,_,.seq its _,_⟩=>t == "tuple" && decide (its.size<=63) && decide (its.toList.length=ds.length) && (its.toList.zip ds).all λp=>datB K f p.1 p.2
   |_=>false)
  |_,_=>false
theorem Qig{K:Frag}:∀{us:List Value}{ds:List D},us.length=ds.length->(∀p∈us.zip ds,∃v,RelV v p.1/\∀μ H,Den K μ H v p.2)->∃vs,Vals vs us/\∀μ H,Dens K μ H vs ds
 |[],[],_,_=>⟨[],.nil,λ_ _=>.nil⟩
 |[],_::_,h,_=>nomatch h
 |_::_,[],h,_=>nomatch h
 |u::us,d::ds,h,k=>by
  obtain⟨v,r,q⟩:=k (u,d) (by simp)
  obtain⟨vs,rs,qs⟩:=Qig (us:=us) (ds:=ds) (by simpa using h) λp hp=>k p (by simp[hp])
  exact⟨v::vs,.cons r rs,λμ H=>.cons (q μ H) (qs μ H)⟩
theorem Qf7{K:Frag}:∀(f:Nat)(u:Value)(d:D),datB K f u d=true->∃v,RelV v u/\∀μ H,Den K μ H v d
 |0,_,_,h=>nomatch h
 |f+1,u,d,h=>by
  unfold datB at h
  split at h
  ·exact⟨.non,rfl,λ_ _=>.non⟩
  ·rename_i i t j
   have e:i=j:=Tt.mp h
   subst e
   exact⟨.int i,⟨t,rfl⟩,λ_ _=>.int i⟩
  ·rename_i i t j
   have e:i=j:=Tt.mp h
   subst e
   exact⟨.str i,⟨t,rfl⟩,λ_ _=>.str i⟩
  ·rename_i a ds
   split at h
   ·rename_i t dd its n sl hk
    simp only[UD,Tt,TJ,UE]at h
    obtain⟨⟨⟨h1,h2⟩,h3⟩,h4⟩:=h
    subst h1
    obtain⟨vs,rs,qs⟩:=Qig h3 λp hp=>Qf7 f p.1 p.2 (h4 p hp)
    exact⟨.ref a,rfl,λμ H=>.tup (.inr ⟨_,its,n,hk,rfl,rfl,Ur h2 (by rw[Ri];decide),rs⟩) (qs μ H)⟩
   ·cases h
  ·cases h
theorem Qfi{X:Cx}{ca:Nat->Addr}{pos:Pos}{x:Str}{d:D}(h:∃u v,X.mg x=some u/\RelV v u/\∀μ H,Den X.K μ H v d)(hg:Gl X x:=by rfl)(hd:(x == ("__debug__" : Str))=false:=by decide):PE3 ca X (.Name x pos) (mLit d):=by
 obtain⟨u,v,hm,r,q⟩:=h
 exact λpn Φ=>Zu (Qhh (X:=xat X ca pn Φ) hg hm r hd) λ_ H _ z=>by
  obtain⟨_,_,μ,R,p⟩:=z
  exact p v H μ .refl R.g (q _ _)
end L3
namespace L3
open PySem
noncomputable def Qey(x:D)(g:G):Res D:=match x with
 |.ref n=>(match g[n]? with
  |some (.dct ks)=>.ok (.int ks.length) g
  |_=>.stuck)
 |_=>.stuck
noncomputable def Qb5(e:ME):MI:=λσ g=>(e σ g).bind λx g1=>match x with
 |.ref n=>(match g1[n]? with
  |some (.dct ks)=>(match Yq ks with
   |some is=>.ok ⟨λ_ i=>some (is.map D.int)[i]?,is.length⟩ (g1.set n (.dfz ks))
   |none=>.stuck)
  |_=>.stuck)
 |_=>.stuck
noncomputable def Qfj(x y:D)(g:G):Res D:=match x,y with
 |.ref n,.int i=>(match g[n]? with
  |some (.dfz ks)=>(match dGet ks (.inl i) with
   |some v=>.ok v g
   |none=>.stuck)
  |_=>.stuck)
 |_,_=>.stuck
end L3
namespace L3
open PySem PySem.Spec PyProof.Rows L2
section
variable{X:Cx}
theorem Qih:CallR X (.builtin "len") (λxs H Q=>∃p kvs,xs=[.ref p]/\H p=some (.dK kvs)/\Q (.int kvs.length) H):=by
 intro pins s σ H xs us Q I rv h
 obtain⟨a,kvs,rfl,e,q⟩:=h
 obtain⟨u,rfl,ru⟩:=rv.one
 cases ru
 obtain⟨z,hd,vs,rel,dd⟩:=QgN I.hok e
 have hs:sizeLine=16777216:=Ri
 rw[rel.length]at q z
 exact call_len_dict hd dd (by omega) ⟨.int _,H,I.tok _,⟨_,rfl⟩,q⟩
theorem QlD:IxR X (λx y H Q=>∃a o kvs k v,x=.ref a/\y=kV k/\H a=some (.frz o (.dK kvs))/\valV kvs k=some v/\Q v H):=by
 intro value slice pins s σ H x y v u Q I rx ry h hs
 obtain⟨a,o,kvs,k,w,rfl,rfl,e,l,q⟩:=h
 cases rx
 obtain⟨z,hd,vs,rel,dd⟩:=Qnb I.hok (.inr ⟨o,e⟩)
 obtain⟨w',hw,rw'⟩:=RelO.some_of (v:=w) (o:=valueAt vs k) (by rw[<-l];exact rel.val k)
 exact tail_any dd.typeIs PySem.F.slot_dict_getitem.lookup (wpAny_getItem_of (QjU ry) dd.mapOf hw ⟨_,H,I.tok _,rw',q⟩) hs
noncomputable def Itd(a:Addr)(o:Obj)(kvs:List (Key×V))(is:List Int):It :=
 ⟨λi H=>H a=some (.frz o (.dK kvs))/\i<is.length,λi H x H'=>H'=H/\∃k,is[i]?=some k/\x=.int k,λi H=>H a=some (.frz o (.dK kvs))/\is.length<=i⟩
theorem QkK{pins:List (Addr×Obj)}{σ:L2.St}{H:Hp}{s:Shared}{a:Addr}{o:Obj}{es:Array DictEntry}{ep:Nat}{kvs:List (Key×V)}{is:List Int}(I:Inv X pins σ H s)(e:H a=some (.frz o (.dK kvs)))(hoe:o.data=.dict es ep)(hk:kvs.map (·.1)=is.map Sum.inl):∃vs,s.heap.DictAt (Yu X.prog X.w) a vs ep/\vs.map (·.1)=is.map Sum.inl/\vs.length=is.length:=by
 obtain⟨ho,z,hd,vs,rel,dd⟩:=(show ObjOk X.prog X.w H s.heap a (.frz o (.dK kvs)) from I.hok a _ e)
 obtain⟨o',es',ep',ho',r1,r2,r3⟩:=dd
 rw[ho]at ho';cases ho'
 rw[hoe]at r2;cases r2
 have hl:vs.map (·.1)=is.map Sum.inl:=by rw[<-Qif rel,hk]
 exact⟨vs,⟨o,es,ho,r1,hoe,r3⟩,hl,by have:=Rn List.length hl;simpa using this⟩
theorem Qii{P:Program}{w:World}{K:Frag}{tg:Expr}(a it:Addr){o:Obj}{es:Array DictEntry}{ep:Nat}{kvs:List (Key×V)}{is:List Int}(hoe:o.data=.dict es ep)(hk:kvs.map (·.1)=is.map Sum.inl):Turn P w K tg (Itd a o kvs is) [it] it (λi h=>h.IsKeyIter it a i is.length ep) where
 mem:=by simp
 obj:=λi h st b hb=>by
  have e:b=it:=by simpa using hb
  subst e
  obtain⟨o,e,c,d⟩:=st
  exact⟨o,e,λv z=>by rw[d]at z;cases z⟩
 keep:=λi h h' st k=>by
  obtain⟨o,e,c⟩:=st
  exact⟨o,k it (by simp) o e,c⟩
 item:=by
  intro X hP hw hK hc i pins s σ H E I hf st hg
  subst hP hw hK
  obtain⟨e,hi⟩:=hg
  obtain⟨vs,da,hks,hl⟩:=QkK I e hoe hk
  obtain⟨f0,f1,f2,f3,f4,f5⟩:=hf it (by simp)
  have hx:vs[i]?=some (vs[i]'(by omega)):=by simp[hl,hi]
  rw[<-hl]at st
  refine wpAny_pyNext_dict_item (k:=(vs[i]'(by omega)).1) (v:=(vs[i]'(by omega)).2) st da hx λkey h' hkey st' sb=>?_
  have I1:Inv X pins σ H {s with heap:=h'}:=I.turned (t':=s.toks) (λb o hb e=>(sb.2 b hb).trans e) f0 f1 f3 f4 f5
  have h1:(vs.map (·.1))[i]?=some (vs[i]'(by omega)).1:=by rw[Uy,hx];rfl
  rw[hks,Uy,Uq hi]at h1
  have h1:Sum.inl is[i]=(vs[i]'(by omega)).1:=Option.some.inj h1
  rw[<-h1]at hkey
  rw[hl]at st'
  obtain⟨ob,e',c,d⟩:=id st'
  exact⟨key,rfl,Qju (s:={s with heap:=h'}) e' c d (by decide) ⟨.int is[i],H,I1,QlA hkey,⟨rfl,is[i],by simp[hi],rfl⟩,st',λb hb=>(hf b hb).1⟩⟩
 done:=by
  intro X hP hw hK hc i pins s σ H E I hf st hg
  subst hP hw hK
  obtain⟨e,hi⟩:=hg
  obtain⟨vs,da,hks,hl⟩:=QkK I e hoe hk
  obtain⟨f0,f1,f2,f3,f4,f5⟩:=hf it (by simp)
  rw[<-hl]at st
  exact wpAny_pyNext_dict_end (I.ok.hd hc) st da (by simp;omega) λh' eb=>⟨rfl,I.turned (t':=s.toks) (λb o hb e=>eb b o hb e) f0 f1 f3 f4 f5⟩
 self:=λ_ _ _ _ _ st h=>wpAny_pyIter_keyiter st h
theorem Qnh{pins:List (Addr×Obj)}{σ:L2.St}{H:Hp}{s:Shared}{a:Addr}{o:Obj}{kvs:List (Key×V)}(I:Inv X pins σ H s)(e:H a=some (.dK kvs))(ho:s.heap.get? a=some o):Inv X pins σ (upd H a (.frz o (.dK kvs))) s:=by
 obtain⟨z,hd,vs,rel,dd⟩:=QgN I.hok e
 exact I.write (x:=a) (e:=a) (h':=s.heap) (t':=s.toks) (o:=.frz o (.dK kvs)) (by rw[e];trivial) (.inl rfl) (λ_ _ _ h=>h) ⟨o,ho⟩ ⟨ho,z,hd,vs,rel,dd⟩
theorem QlE{tg l:Expr}{tl:TE}(hl:PE X l tl):PI X tg l (λσ H R=>tl σ H λx H1=>∃a kvs is,x=.ref a/\H1 a=some (.dK kvs)/\kvs.map (·.1)=is.map Sum.inl/\∀o,R (Itd a o kvs is) (upd H1 a (.frz o (.dK kvs)))):=by
 intro pins s σ H R I h
 refine thn (hl pins s σ H _ I h) λv s1 ⟨x,H1,I1,r1,q1⟩=>?_
 obtain⟨a,kvs,is,rfl,e,hk,q⟩:=q1
 cases r1
 obtain⟨z,hd,vs,rel,dd⟩:=QgN I1.hok e
 obtain⟨o,es,ep,ho,r1,r2,r3⟩:=id dd
 have I2:=Qnh I1 e ho
 have hlen:vs.length=is.length:=by
  have:=Rn List.length ((Qif rel).symm.trans hk)
  simpa using this
 refine wpAny_pyIter_dict hd (⟨o,es,ho,r1,r2,r3⟩:s1.heap.DictAt (Yu X.prog X.w) a vs ep) ?_
 refine⟨s1.heap.objs.size,[s1.heap.objs.size],_,_,_,rfl,I2.kept (t':=s1.toks) λb o e=>Ub _ e,Qii a _ r2 hk,⟨_,Us _ rfl,rfl,by rw[hlen];rfl⟩,λb hb=>?_,q o⟩
 have e:b=s1.heap.objs.size:=by simpa using hb
 subst e
 exact I2.fpOk (Ui _) (I2.hok.fresh (Ui _))
end
section
variable{X:Cx}{ca:Nat->Addr}{a b e tg:Expr}{ma mb me:ME}{p pos:Pos}
theorem QkL(hm:X.mg "len" = none)(he:PE3 ca X e me)(hg:Gl X "len":=by rfl)(hs:starEach [e] X.env=[(false,eval e X.env)]:=by rfl)(hpl:(backTo pos (starEach [] X.env)).any (·.1)=false:=by rfl):
  PE3 ca X (.Call (.Name "len" p) [e] [] pos) (mOp1 Qey me) :=
 QjN (r:=λxs H Q=>∃p kvs,xs=[V.ref p]/\H p=some (.dK kvs)/\Q (V.int (kvs.length:Int)) H) (λ_ _=>Qih) hm boot_len (λΦ σ H μ g y d Q r q pp=>by
  unfold Qey at pp
  cases q with
  |@ref n t hn =>
   dsimp only at pp
   cases hgn:g[n]? with
   |none=>rw[hgn]at pp;exact pp.elim
   |some ob =>
    rw[hgn]at pp
    obtain⟨t',ht',orp⟩:=r.addr hgn
    rw[hn]at ht';cases ht'
    cases ob with
    |dct ks =>
     obtain⟨kv,hH,q⟩:=orp
     have hl:kv.length=ks.length:=by have:=Rn List.length q.keys;simpa using this
     exact⟨t,kv,rfl,hH,pp _ H μ .refl r (by rw[hl];exact .int _)⟩
    |_=>exact pp.elim
  |_=>exact pp.elim) he hg (by decide) (by decide) hs hpl
theorem Qij{K:Frag}:Jo K ca (λx y H Q=>∃a o kvs k v,x=.ref a/\y=kV k/\H a=some (.frz o (.dK kvs))/\valV kvs k=some v/\Q v H) Qfj:=by
 intro Φ σ H μ g x y dx dy Q r qx qy p
 unfold Qfj at p
 cases qx with
 |@ref n t hn =>
  cases qy with
  |int i =>
   dsimp only at p
   cases hg:g[n]? with
   |none=>rw[hg]at p;exact p.elim
   |some ob =>
    rw[hg]at p
    obtain⟨t',ht',orp⟩:=r.addr hg
    rw[hn]at ht';cases ht'
    cases ob with
    |dfz ks =>
     obtain⟨o,kv,hH,q⟩:=orp
     dsimp only at p
     rcases q.get (.inl i) with⟨a,b⟩|⟨v,d,a,b,c⟩
     ·rw[b]at p;exact p.elim
     ·rw[b]at p
      exact⟨t,o,kv,.inl i,v,rfl,rfl,hH,a,p v H μ .refl r c⟩
    |_=>exact p.elim
  |_=>exact p.elim
 |_=>cases qy <;> exact p.elim
theorem Qni(ha:PE3 ca X a ma)(hb:PE3 ca X b mb)(hs:Qdj b:=by exact λ_ _=>rfl):PE3 ca X (.Subscript a b pos) (mOp2 Qfj ma mb):=r_ix (λ_ _=>QlD) Qij ha hb hs
theorem Qj1{K:Frag}{μ:List Addr}{H:Hp}{a:Addr}{o:Obj}{kvs:List (Key×V)}{is:List Int}(h:H a=some (.frz o (.dK kvs))):Sim K ca μ H ⟨λ_ i=>some (is.map D.int)[i]?,is.length⟩ (Itd a o kvs is):=by
 intro i H1 μ1 g1 e r
 dsimp only
 have h1:=e.frz _ _ _ h
 by_cases hi:i<is.length
 ·rw[Uy,Uq hi]
  exact⟨⟨h1,hi⟩,λx H' y=>by
   obtain⟨rfl,k,y1,rfl⟩:=y
   rw[Uq hi]at y1;cases y1
   exact⟨.refl,r,.int _⟩⟩
 ·rw[Uy,U8 (TR hi)]
  exact⟨h1,TR hi⟩
theorem Qj2(he:PE3 ca X e me):PI3 ca X tg e (Qb5 me) :=
 λpn Φ=>Qdo (QlE (X:=xat X ca pn Φ) (he pn Φ)) λσ H R hQ=>by
  obtain⟨σ3,g,μ,Rp,p⟩:=hQ
  unfold Qb5 at p
  refine⟨σ3,g,μ,Rp,?_⟩
  cases hm:me σ3 g with
  |raise _ _=>rw[hm]at p;exact p
  |stuck=>rw[hm]at p;exact p.elim
  |ok d g1 =>
   rw[hm,Res.bind_ok]at p
   intro v H1 μ1 e1 r1 q1
   cases q1 with
   |@ref n a hn =>
    dsimp only at p
    cases hg:g1[n]? with
    |none=>rw[hg]at p;exact p.elim
    |some ob =>
     rw[hg]at p
     obtain⟨a',ha',orp⟩:=r1.addr hg
     rw[hn]at ha';cases ha'
     cases ob with
     |dct ks =>
      obtain⟨kv,hH,q⟩:=orp
      dsimp only at p
      cases hk:Yq ks with
      |none=>rw[hk]at p;exact p.elim
      |some is =>
       rw[hk]at p
       have ex:∀o,Ext X.K μ1 H1 μ1 (upd H1 a (.frz o (.dK kv))):=λo=>Jn hH (λ_ z=>nomatch z) (λ_ _ z=>nomatch z)
       exact⟨a,kv,is,rfl,hH,q.keys.trans (Qex hk),λo=>p _ _ μ1 (e1.trans (ex o)) (r1.set hn hH (λ_ z=>nomatch z) (λ_ _ z=>nomatch z) ⟨o,kv,Qr,q.mono (ex o)⟩) (Qj1 Qr)⟩
     |_=>exact p.elim
   |_=>exact p.elim
end
end L3
namespace L3
open PySem
noncomputable def QgP:MS:=(mRet (mAnd (mOp1 (ZT .int) (mVar 0)) (mNot (mOp1 (ZT .bool) (mVar 0)))))
noncomputable def Jf:MF:=mDef 1 0 QgP
noncomputable def QgQ:MS:=(mRet (mAnd (Ql Jf (Qb (mVar 0) mNil)) (QcS pLe pLt (mLit (.int 0)) (mVar 0) (mVar 1))))
noncomputable def QE:MF:=mDef 2 0 QgQ
noncomputable def QbA:MS:=(mRet (mAnd (Ql Jf (Qb (mVar 0) mNil)) (mOp2 pGe (mVar 0) (mLit (.int 0)))))
noncomputable def Qs:MF:=mDef 1 0 QbA
noncomputable def QgR:MS:=(mSeq (mIf (Qj (mOp2 pIs (mVar 0) (mLit .non))) (mRet (mLit (.bl true))) QA)
 (mSeq (mIf (mOrT (ZK (Qj (mOp1 (ZT .tuple) (mVar 0)))) (Qj (mOp2 pNe (mOp1 pLen (mVar 0)) (mLit (.int 3))))) (mRet (mLit (.bl false))) QA)
 (mRet (mAnd (Ql QE (Qb (mOp2 pIx (mVar 0) (mLit (.int 0))) (Qb (mVar 2) mNil))) (mAnd (mOp2 (pIn false) (mOp2 pIx (mVar 0) (mLit (.int 1))) (mOpA pTup (Qb (mLit (.str "l")) (Qb (mLit (.str "r")) mNil)))) (Ql QE (Qb (mOp2 pIx (mVar 0) (mLit (.int 2))) (Qb (mVar 1) mNil))))))))
noncomputable def YF:MF:=mDef 3 0 QgR
noncomputable def Zo:MS:=(mSeq (mIf (Qj (mOp2 pNe (mOp1 pLen (mVar 3)) (mVar 2))) (Ze 1 (Qb (mLit (.str "each state has one entry for each sign")) mNil)) QA)
 (mIf (ZK (Qj (mOp1 pAll (Yf (QN (mVar 3)) 1 [1,2] (gSet 0) ZS (Ql YF (Qb (mVar 0) (Qb (mVar 1) (Qb (mVar 2) mNil)))))))) (Ze 1 (Qb (mLit (.str "an entry is None or a tuple of a sign, a way and a state of the machine")) mNil)) QA))
noncomputable def ZX:MS:=(mSeq (mIf (Qj (mOp2 pEq (mOp1 pLen (mVar 0)) (mLit (.int 0)))) (Ze 1 (Qb (mLit (.str "a machine has at least one state")) mNil)) QA)
 (mSeq (mAsg (gSet 1) (mOp1 pLen (mVar 0)))
 (mSeq (mAsg (gSet 2) (mOp1 pLen (mOp2 pIx (mVar 0) (mLit (.int 0)))))
 (mSeq (mIf (Qj (mOp2 pEq (mVar 2) (mLit (.int 0)))) (Ze 1 (Qb (mLit (.str "a machine has at least one sign")) mNil)) QA)
 (mFor (QN (mVar 0)) (gSet 3) Zo)))))
noncomputable def ZY:MF:=mDef 1 3 ZX
noncomputable def Qax:MS:=(mSeq (mAsg (gSet 2) (mOp1 Zq (Yf (QN (mVar 1)) 1 [] (gSet 0) ZS (mOp1 Zq (mVar 0)))))
 (mSeq (Z7 (Ql ZY (Qb (mVar 2) mNil)))
 (QbF [11] "table" (mVar 0) (mVar 2))))
noncomputable def ZP:MF:=mDef 2 1 Qax
noncomputable def Qb6:MS:=(mRet (mOp1 pLen (QcE [11] "table" (mVar 0))))
noncomputable def Jr:MF:=mDef 1 0 Qb6
noncomputable def Qc0:MS:=(mRet (mOp1 pLen (mOp2 pIx (QcE [11] "table" (mVar 0)) (mLit (.int 0)))))
noncomputable def Qae:MF:=mDef 1 0 Qc0
noncomputable def Qik:MS:=(mRet (mAnd (mOp1 (ZT .tuple) (mVar 0)) (mAnd (mOp2 pGt (mOp1 pLen (mVar 0)) (mLit (.int 0))) (mOp1 pAll (Yf (QN (mVar 0)) 1 [] (gSet 0) ZS (Ql Qs (Qb (mVar 0) mNil)))))))
noncomputable def Jg:MF:=mDef 1 0 Qik
noncomputable def Jh:MS:=(mSeq (mIf (ZK (Qj (mOp1 (ZT .tuple) (mVar 0)))) (mRet (mLit (.bl false))) QA)
 (mSeq (mIf (Qj (mOp2 pEq (mOp1 pLen (mVar 0)) (mLit (.int 2)))) (mRet (mAnd (mOp2 pEq (mOp2 pIx (mVar 0) (mLit (.int 0))) (mLit (.str "one"))) (Ql Qs (Qb (mOp2 pIx (mVar 0) (mLit (.int 1))) mNil)))) QA)
 (mRet (mAnd (mOp2 pEq (mOp1 pLen (mVar 0)) (mLit (.int 3))) (mAnd (mOp2 pEq (mOp2 pIx (mVar 0) (mLit (.int 0))) (mLit (.str "many"))) (mAnd (Ql Jg (Qb (mOp2 pIx (mVar 0) (mLit (.int 1))) mNil)) (Ql Qs (Qb (mOp2 pIx (mVar 0) (mLit (.int 2))) mNil))))))))
noncomputable def Yi:MF:=mDef 1 0 Jh
noncomputable def QcH:MS:=(mIf (mOrT (ZK (Qj (mOp1 QcZ (mVar 0)))) (ZK (Qj (mOp1 pAll (Yf (QN (mVar 0)) 1 [] (gSet 0) ZS (Ql Yi (Qb (mVar 0) mNil))))))) (Ze 7 (Qb (mLit (.str "the machine stands between two lists of tokens")) mNil)) QA)
noncomputable def QH:MF:=mDef 1 0 QcH
noncomputable def Js:MS:=(mSeq (mIf (mOrT (ZK (Qj (mOp1 (ZT .tuple) (mVar 0)))) (Qj (mOp2 pNe (mOp1 pLen (mVar 0)) (mLit (.int 4))))) (Ze 7 (Qb (mLit (.str "a shape is a state, a facing and two lists")) mNil)) QA)
 (mSeq (mIf (ZK (Qj (Ql Qs (Qb (mOp2 pIx (mVar 0) (mLit (.int 0))) mNil)))) (Ze 7 (Qb (mLit (.str "the state is a whole number from nought on")) mNil)) QA)
 (mSeq (mIf (Qj (mOp2 (pIn true) (mOp2 pIx (mVar 0) (mLit (.int 1))) (mOpA pTup (Qb (mLit (.str "l")) (Qb (mLit (.str "r")) mNil))))) (Ze 7 (Qb (mLit (.str "the machine faces l or r")) mNil)) QA)
 (mSeq (Z7 (Ql QH (Qb (mOp2 pIx (mVar 0) (mLit (.int 2))) mNil)))
 (Z7 (Ql QH (Qb (mOp2 pIx (mVar 0) (mLit (.int 3))) mNil)))))))
noncomputable def Ya:MF:=mDef 1 0 Js
noncomputable def Qay:MS:=(mRet (mIfE (Qj (mOp2 pEq (mOp2 pIx (mVar 0) (mLit (.int 0))) (mLit (.str "one")))) (mVar 0) (mOpA pTup (Qb (mLit (.str "many")) (Qb (mOp2 pIx (mVar 0) (mLit (.int 1))) (Qb (mOp2 pAdd (mOp2 pIx (mVar 0) (mLit (.int 2))) (mLit (.int 1))) mNil))))))
noncomputable def Yl:MF:=mDef 1 0 Qay
noncomputable def Qbf:MS:=(mRet (mIfE (Qj (mOp2 pEq (mOp2 pIx (mVar 0) (mLit (.int 0))) (mLit (.str "one")))) (mOpA pTup (Qb (mOp2 pIx (mVar 0) (mLit (.int 1))) mNil)) (mOp2 pIx (mVar 0) (mLit (.int 1)))))
noncomputable def YG:MF:=mDef 1 0 Qbf
noncomputable def Q7:MS:=(mIf (Qj (mOp2 pGe (mOp1 Qff (Ql YG (Qb (mVar 4) mNil))) (mVar 2))) (Ze 7 (Qb (mLit (.str "a sign is not the machine's")) mNil)) QA)
noncomputable def Q8:MS:=(mFor (QN (mVar 3)) (gSet 4) Q7)
noncomputable def Zv:MS:=(mSeq (Z7 (Ql Ya (Qb (mVar 1) mNil)))
 (mSeq (mIf (Qj (mOp2 pGe (mOp2 pIx (mVar 1) (mLit (.int 0))) (Ql Jr (Qb (mVar 0) mNil)))) (Ze 7 (Qb (mLit (.str "the state is not the machine's")) mNil)) QA)
 (mSeq (mAsg (gSet 2) (Ql Qae (Qb (mVar 0) mNil)))
 (mFor (QN (QM (mVar 1) (Zp (mLit (.int 2))) QB)) (gSet 3) Q8))))
noncomputable def QY:MF:=mDef 2 3 Zv
noncomputable def QaT:MS:=(mRet (mOpA pTup (Qb (mOp2 pIx (mVar 0) (mLit (.int 0))) (Qb (mOp2 pIx (mVar 0) (mLit (.int 1))) (Qb (mOp1 Zq (mOp2 pIx (mVar 0) (mLit (.int 2)))) (Qb (mOp1 Zq (mOp2 pIx (mVar 0) (mLit (.int 3)))) mNil))))))
noncomputable def Yz:MF:=mDef 1 0 QaT
noncomputable def Qil:MS:=(mRet (mOp1 Zq (Yf (QN (mVar 0)) 1 [] (gSet 0) ZS (mOpA pTup (Qb (mLit (.str "one")) (Qb (mVar 0) mNil))))))
noncomputable def QaU:MF:=mDef 1 0 Qil
noncomputable def Jt:MS:=(mSeq (mAsg (gSet 1) (mIfE (Qj (mOp2 pEq (mOp2 pIx (mVar 0) (mLit (.int 1))) (mLit (.str "r")))) (QM (mOp2 pIx (mVar 0) (mLit (.int 3))) QB (Zp (mLit (.int 1)))) (QM (mOp2 pIx (mVar 0) (mLit (.int 2))) (Zp (mOp1 pNeg (mLit (.int 1)))) QB)))
 (mRet (mIfE (Qj (mOp2 pGt (mOp1 pLen (mVar 1)) (mLit (.int 0)))) (mOp2 pIx (mVar 1) (mLit (.int 0))) (mLit .non))))
noncomputable def ZF:MF:=mDef 1 1 Jt
noncomputable def JT:MS:=(mSeq (mAsg (gSet 1) (Ql ZF (Qb (mVar 0) mNil)))
 (mSeq (mIf (mOrT (Qj (mOp2 pIs (mVar 1) (mLit .non))) (Qj (mOp2 pNe (mOp2 pIx (mVar 1) (mLit (.int 0))) (mLit (.str "many"))))) (Ze 8 (Qb (mLit (.str "the next token is no many")) mNil)) QA)
 (mRet (mVar 1))))
noncomputable def ZZ:MF:=mDef 1 1 JT
noncomputable def ZU:MS:=(mSeq (mIf (Qj (mOp2 pEq (mOp2 pIx (mVar 0) (mLit (.int 1))) (mLit (.str "r")))) (mRet (mOpA pTup (Qb (mOp2 pIx (mVar 0) (mLit (.int 0))) (Qb (mLit (.str "r")) (Qb (mOp2 pIx (mVar 0) (mLit (.int 2))) (Qb (mOp2 pAdd (mVar 1) (QM (mOp2 pIx (mVar 0) (mLit (.int 3))) (Zp (mLit (.int 1))) QB)) mNil)))))) QA)
 (mRet (mOpA pTup (Qb (mOp2 pIx (mVar 0) (mLit (.int 0))) (Qb (mLit (.str "l")) (Qb (mOp2 pAdd (QM (mOp2 pIx (mVar 0) (mLit (.int 2))) QB (Zp (mOp1 pNeg (mLit (.int 1))))) (mVar 1)) (Qb (mOp2 pIx (mVar 0) (mLit (.int 3))) mNil)))))))
noncomputable def QT:MF:=mDef 2 0 ZU
noncomputable def Qez:MS:=(mSeq (mAsg (gSet 4) (Ql QT (Qb (mVar 0) (Qb (mOpA pTup mNil) mNil))))
 (mSeq (mIf (Qj (mOp2 pEq (mVar 2) (mLit (.str "r")))) (mRet (mOpA pTup (Qb (mVar 1) (Qb (mVar 2) (Qb (mOp2 pAdd (mOp2 pIx (mVar 4) (mLit (.int 2))) (mOpA pTup (Qb (mVar 3) mNil))) (Qb (mOp2 pIx (mVar 4) (mLit (.int 3))) mNil)))))) QA)
 (mRet (mOpA pTup (Qb (mVar 1) (Qb (mVar 2) (Qb (mOp2 pIx (mVar 4) (mLit (.int 2))) (Qb (mOp2 pAdd (mOpA pTup (Qb (mVar 3) mNil)) (mOp2 pIx (mVar 4) (mLit (.int 3)))) mNil))))))))
noncomputable def JU:MF:=mDef 4 1 Qez
noncomputable def YZ:MS:=(mSeq (mAsg (gSet 2) (Ql ZF (Qb (mVar 1) mNil)))
 (mSeq (mIf (JK (Qj (mOp2 QcV (mVar 2) (mLit .non))) (Qj (mOp2 pEq (mOp2 pIx (mVar 2) (mLit (.int 0))) (mLit (.str "many"))))) (Ze 8 (Qb (mLit (.str "the cell to be read is no one")) mNil)) QA)
 (mSeq (mAsg (gSet 3) (mOp2 pIx (mOp2 pIx (QcE [11] "table" (mVar 0)) (mOp2 pIx (mVar 1) (mLit (.int 0)))) (mIfE (Qj (mOp2 pIs (mVar 2) (mLit .non))) (mLit (.int 0)) (mOp2 pIx (mVar 2) (mLit (.int 1))))))
 (mSeq (mIf (Qj (mOp2 pIs (mVar 3) (mLit .non))) (Ze 8 (Qb (mLit (.str "the machine stops there")) mNil)) QA)
 (mRet (Ql JU (Qb (mVar 1) (Qb (mOp2 pIx (mVar 3) (mLit (.int 2))) (Qb (mOp2 pIx (mVar 3) (mLit (.int 1))) (Qb (mOpA pTup (Qb (mLit (.str "one")) (Qb (mOp2 pIx (mVar 3) (mLit (.int 0))) mNil))) mNil))))))))))
noncomputable def Z0:MF:=mDef 2 2 YZ
noncomputable def QD:MS:=(mSeq (mAsg (gSet 8) (mOp2 pIx (mOp2 pIx (QcE [11] "table" (mVar 0)) (mVar 6)) (mOp2 pIx (mVar 4) (mVar 5))))
 (mSeq (mIf (Qj (mOp2 pIs (mVar 8) (mLit .non))) (mRet (mLit .non)) QA)
 (mSeq (YJ (mVar 4) (mVar 5) (mOp2 pIx (mVar 8) (mLit (.int 0))))
 (mSeq (mAsg (gSet 5) (mIfE (Qj (mOp2 pEq (mOp2 pIx (mVar 8) (mLit (.int 1))) (mLit (.str "r")))) (mOp2 pAdd (mVar 5) (mLit (.int 1))) (mOp2 pSub (mVar 5) (mLit (.int 1)))))
 (mSeq (mAsg (gSet 6) (mOp2 pIx (mVar 8) (mLit (.int 2))))
 (mIf (ZK (Qj (Ql QE (Qb (mVar 5) (Qb (mOp1 pLen (mVar 4)) mNil))))) (mRet (mIfE (JK (Qj (mOp2 pEq (mOp2 pIx (mVar 8) (mLit (.int 1))) (mVar 2))) (Qj (mOp2 pEq (mVar 6) (mVar 1)))) (mOp1 Zq (mVar 4)) (mLit .non))) QA))))))
noncomputable def QaV:MS:=(mSeq (mAsg (gSet 4) (mOp1 Qeo (mVar 3)))
 (mSeq (mAsg (gSet 5) (mIfE (Qj (mOp2 pEq (mVar 2) (mLit (.str "r")))) (mLit (.int 0)) (mOp2 pSub (mOp1 pLen (mVar 4)) (mLit (.int 1)))))
 (mSeq (mAsg (gSet 6) (mVar 1))
 (mSeq (mFor (QO (mLit (.int 1000))) (gSet 7) QD)
 (mRet (mLit .non))))))
noncomputable def Ju:MF:=mDef 4 5 QaV
noncomputable def Y0:MS:=(mSeq (mAsg (gSet 2) (Ql ZZ (Qb (mVar 1) mNil)))
 (mSeq (mAsg (gSet 3) (Ql Ju (Qb (mVar 0) (Qb (mOp2 pIx (mVar 1) (mLit (.int 0))) (Qb (mOp2 pIx (mVar 1) (mLit (.int 1))) (Qb (mOp2 pIx (mVar 2) (mLit (.int 1))) mNil))))))
 (mSeq (mIf (Qj (mOp2 pIs (mVar 3) (mLit .non))) (Ze 8 (Qb (mLit (.str "the machine does not go over the word")) mNil)) QA)
 (mRet (Ql JU (Qb (mVar 1) (Qb (mOp2 pIx (mVar 1) (mLit (.int 0))) (Qb (mOp2 pIx (mVar 1) (mLit (.int 1))) (Qb (mOpA pTup (Qb (mLit (.str "many")) (Qb (mVar 3) (Qb (mOp2 pIx (mVar 2) (mLit (.int 2))) mNil)))) mNil)))))))))
noncomputable def Z1:MF:=mDef 2 2 Y0
noncomputable def Z2:MS:=(mSeq (mAsg (gSet 1) (Ql ZZ (Qb (mVar 0) mNil)))
 (mSeq (mIf (Qj (mOp2 pLt (mOp2 pIx (mVar 1) (mLit (.int 2))) (mLit (.int 1)))) (Ze 8 (Qb (mLit (.str "the many has no extra")) mNil)) QA)
 (mSeq (mAsg (gSet 2) (mOpA pTup (Qb (mOpA pTup (Qb (mLit (.str "many")) (Qb (mOp2 pIx (mVar 1) (mLit (.int 1))) (Qb (mOp2 pSub (mOp2 pIx (mVar 1) (mLit (.int 2))) (mLit (.int 1))) mNil)))) mNil)))
 (mSeq (mAsg (gSet 3) (Ql QaU (Qb (mOp2 pIx (mVar 1) (mLit (.int 1))) mNil)))
 (mRet (Ql QT (Qb (mVar 0) (Qb (mIfE (Qj (mOp2 pEq (mOp2 pIx (mVar 0) (mLit (.int 1))) (mLit (.str "r")))) (mOp2 pAdd (mVar 3) (mVar 2)) (mOp2 pAdd (mVar 2) (mVar 3))) mNil))))))))
noncomputable def Zr:MF:=mDef 1 3 Z2
noncomputable def Yb:MS:=(mSeq (mIf (ZK (Qj (Ql QE (Qb (mVar 2) (Qb (mOp1 pLen (mVar 0)) mNil))))) (Ze 8 (Qb (mLit (.str "the list has no such token")) mNil)) QA)
 (mSeq (mAsg (gSet 3) (mIfE (Qj (mOp2 pEq (mVar 1) (mLit (.str "l")))) (mVar 2) (mOp2 pSub (mOp2 pSub (mOp1 pLen (mVar 0)) (mLit (.int 1))) (mVar 2))))
 (mSeq (mIf (Qj (mOp2 pNe (mOp2 pIx (mOp2 pIx (mVar 0) (mVar 3)) (mLit (.int 0))) (mLit (.str "many")))) (Ze 8 (Qb (mLit (.str "the token is no many")) mNil)) QA)
 (mRet (mVar 3)))))
noncomputable def QP:MF:=mDef 3 1 Yb
noncomputable def QQ:MS:=(mSeq (mAsg (gSet 3) (mOp2 pIx (mVar 0) (mVar 1)))
 (mSeq (mAsg (gSet 4) (mIfE (Qj (mVar 2)) (mOp2 pAdd (mVar 1) (mLit (.int 1))) (mOp2 pSub (mVar 1) (mOp1 pLen (mOp2 pIx (mVar 3) (mLit (.int 1)))))))
 (mSeq (mAsg (gSet 5) (mOp2 pAdd (mVar 4) (mOp1 pLen (mOp2 pIx (mVar 3) (mLit (.int 1))))))
 (mSeq (mIf (mOrT (Qj (mOp2 pLt (mVar 4) (mLit (.int 0)))) (Qj (mOp2 pNe (QM (mVar 0) (Zp (mVar 4)) (Zp (mVar 5))) (Ql QaU (Qb (mOp2 pIx (mVar 3) (mLit (.int 1))) mNil))))) (Ze 8 (Qb (mLit (.str "the ones next to the many are not its word")) mNil)) QA)
 (mRet (mOp2 pAdd (mOp2 pAdd (QM (mVar 0) QB (Zp (mOp2 QjZ (mVar 4) (mVar 1)))) (mOpA pTup (Qb (Ql Yl (Qb (mVar 3) mNil)) mNil))) (QM (mVar 0) (Zp (mOp2 Qj0 (mVar 5) (mOp2 pAdd (mVar 1) (mLit (.int 1))))) QB)))))))
noncomputable def Qz:MF:=mDef 3 3 QQ
noncomputable def Qv:MS:=(mSeq (mAsg (gSet 3) (mOp2 pIx (mVar 0) (mVar 1)))
 (mSeq (mAsg (gSet 4) (mOp2 pIx (mVar 3) (mLit (.int 1))))
 (mSeq (mAsg (gSet 5) (mIfE (Qj (mVar 2)) (mOp2 pIx (mVar 4) (mOp1 pNeg (mLit (.int 1)))) (mOp2 pIx (mVar 4) (mLit (.int 0)))))
 (mSeq (mAsg (gSet 6) (mIfE (Qj (mVar 2)) (mOp2 pSub (mVar 1) (mLit (.int 1))) (mOp2 pAdd (mVar 1) (mLit (.int 1)))))
 (mSeq (mIf (mOrT (ZK (Qj (Ql QE (Qb (mVar 6) (Qb (mOp1 pLen (mVar 0)) mNil))))) (Qj (mOp2 pNe (mOp2 pIx (mVar 0) (mVar 6)) (mOpA pTup (Qb (mLit (.str "one")) (Qb (mVar 5) mNil)))))) (Ze 8 (Qb (mLit (.str "the one next to the many is not its word's sign")) mNil)) QA)
 (mSeq (mIf (Qj (mVar 2)) (mSeq (mAsg (gSet 7) (mOpA pTup (Qb (mLit (.str "many")) (Qb (mOp2 pAdd (mOpA pTup (Qb (mVar 5) mNil)) (QM (mVar 4) QB (Zp (mOp1 pNeg (mLit (.int 1)))))) (Qb (mOp2 pIx (mVar 3) (mLit (.int 2))) mNil)))))
 (mRet (mOp2 pAdd (mOp2 pAdd (QM (mVar 0) QB (Zp (mVar 6))) (mOpA pTup (Qb (mVar 7) (Qb (mOp2 pIx (mVar 0) (mVar 6)) mNil)))) (QM (mVar 0) (Zp (mOp2 pAdd (mVar 1) (mLit (.int 1)))) QB)))) QA)
 (mSeq (mAsg (gSet 7) (mOpA pTup (Qb (mLit (.str "many")) (Qb (mOp2 pAdd (QM (mVar 4) (Zp (mLit (.int 1))) QB) (mOpA pTup (Qb (mVar 5) mNil))) (Qb (mOp2 pIx (mVar 3) (mLit (.int 2))) mNil)))))
 (mRet (mOp2 pAdd (mOp2 pAdd (QM (mVar 0) QB (Zp (mVar 1))) (mOpA pTup (Qb (mOp2 pIx (mVar 0) (mVar 6)) (Qb (mVar 7) mNil)))) (QM (mVar 0) (Zp (mOp2 pAdd (mVar 6) (mLit (.int 1)))) QB))))))))))
noncomputable def Qo:MF:=mDef 3 5 Qv
noncomputable def Qaf:MS:=(mSeq (mAsg (gSet 3) (mOpA pTup (Qb (mOpA pTup (Qb (mLit (.str "one")) (Qb (mLit (.int 0)) mNil))) mNil)))
 (mSeq (mIf (Qj (mOp2 pEq (mVar 1) (mLit (.str "pad")))) (mRet (mIfE (Qj (mOp2 pEq (mVar 2) (mLit (.str "l")))) (mOp2 pAdd (mVar 3) (mVar 0)) (mOp2 pAdd (mVar 0) (mVar 3)))) QA)
 (mSeq (mIf (Qj (mOp2 pNe (mVar 1) (mLit (.str "trim")))) (Ze 8 (Qb (mLit (.str "there is no such move of a list")) mNil)) QA)
 (mSeq (mIf (Qj (mOp2 pNe (mIfE (Qj (mOp2 pEq (mVar 2) (mLit (.str "l")))) (QM (mVar 0) QB (Zp (mLit (.int 1)))) (QM (mVar 0) (Zp (mOp1 pNeg (mLit (.int 1)))) QB)) (mVar 3))) (Ze 8 (Qb (mLit (.str "the outermost token is no one of the blank")) mNil)) QA)
 (mRet (mIfE (Qj (mOp2 pEq (mVar 2) (mLit (.str "l")))) (QM (mVar 0) (Zp (mLit (.int 1))) QB) (QM (mVar 0) QB (Zp (mOp1 pNeg (mLit (.int 1)))))))))))
noncomputable def ZG:MF:=mDef 3 1 Qaf
noncomputable def Jv:MS:=(mSeq (mAsg (gSet 4) (Ql QP (Qb (mVar 0) (Qb (mVar 2) (Qb (mVar 3) mNil)))))
 (mSeq (mIf (Qj (mOp2 (pIn false) (mVar 1) (mOpA pTup (Qb (mLit (.str "join")) (Qb (mLit (.str "draw")) mNil))))) (mRet (Ql Qz (Qb (mVar 0) (Qb (mVar 4) (Qb (mOp2 pEq (mOp2 pEq (mVar 1) (mLit (.str "join"))) (mOp2 pEq (mVar 2) (mLit (.str "l")))) mNil))))) QA)
 (mSeq (mIf (Qj (mOp2 (pIn false) (mVar 1) (mOpA pTup (Qb (mLit (.str "roll")) (Qb (mLit (.str "back")) mNil))))) (mRet (Ql Qo (Qb (mVar 0) (Qb (mVar 4) (Qb (mOp2 pEq (mOp2 pEq (mVar 1) (mLit (.str "roll"))) (mOp2 pEq (mVar 2) (mLit (.str "l")))) mNil))))) QA)
 (Ze 8 (Qb (mLit (.str "there is no such move of a many")) mNil)))))
noncomputable def ZB:MF:=mDef 4 1 Jv
noncomputable def ZL:MS:=(mSeq (mIf (mOrT (ZK (Qj (mOp1 (ZT .tuple) (mVar 1)))) (mOrT (Qj (mOp2 (pIn true) (mOp1 pLen (mVar 1)) (mOpA pTup (Qb (mLit (.int 2)) (Qb (mLit (.int 3)) mNil))))) (Qj (mOp2 (pIn true) (mOp2 pIx (mVar 1) (mLit (.int 1))) (mOpA pTup (Qb (mLit (.str "l")) (Qb (mLit (.str "r")) mNil))))))) (Ze 8 (Qb (mLit (.str "there is no such move")) mNil)) QA)
 (mSeq (mAsg (gSet 2) (mOp2 pIx (mVar 1) (mLit (.int 1))))
 (mSeq (mAsg (gSet 3) (mIfE (Qj (mOp2 pEq (mVar 2) (mLit (.str "l")))) (mOp2 pIx (mVar 0) (mLit (.int 2))) (mOp2 pIx (mVar 0) (mLit (.int 3)))))
 (mSeq (mIf (Qj (mOp2 pEq (mOp1 pLen (mVar 1)) (mLit (.int 2)))) (mAsg (gSet 4) (Ql ZG (Qb (mVar 3) (Qb (mOp2 pIx (mVar 1) (mLit (.int 0))) (Qb (mVar 2) mNil))))) (mAsg (gSet 4) (Ql ZB (Qb (mVar 3) (Qb (mOp2 pIx (mVar 1) (mLit (.int 0))) (Qb (mVar 2) (Qb (mOp2 pIx (mVar 1) (mLit (.int 2))) mNil)))))))
 (mSeq (mIf (Qj (mOp2 pEq (mVar 2) (mLit (.str "l")))) (mRet (mOpA pTup (Qb (mOp2 pIx (mVar 0) (mLit (.int 0))) (Qb (mOp2 pIx (mVar 0) (mLit (.int 1))) (Qb (mVar 4) (Qb (mOp2 pIx (mVar 0) (mLit (.int 3))) mNil)))))) QA)
 (mRet (mOpA pTup (Qb (mOp2 pIx (mVar 0) (mLit (.int 0))) (Qb (mOp2 pIx (mVar 0) (mLit (.int 1))) (Qb (mOp2 pIx (mVar 0) (mLit (.int 2))) (Qb (mVar 4) mNil)))))))))))
noncomputable def Zm:MF:=mDef 2 3 ZL
noncomputable def Z3:MS:=(mSeq (mIf (Qj (mOp2 pEq (mVar 2) (mLit (.tup [(.str "step")])))) (mRet (Ql Z0 (Qb (mVar 0) (Qb (mVar 1) mNil)))) QA)
 (mSeq (mIf (Qj (mOp2 pEq (mVar 2) (mLit (.tup [(.str "over")])))) (mRet (Ql Z1 (Qb (mVar 0) (Qb (mVar 1) mNil)))) QA)
 (mSeq (mIf (Qj (mOp2 pEq (mVar 2) (mLit (.tup [(.str "open")])))) (mRet (Ql Zr (Qb (mVar 1) mNil))) QA)
 (mRet (Ql Zm (Qb (mVar 1) (Qb (mVar 2) mNil)))))))
noncomputable def QV:MF:=mDef 3 0 Z3
noncomputable def Qim:MS:=(mSeq (Z7 (Ql QY (Qb (mVar 0) (Qb (mVar 1) mNil))))
 (mRet (Ql QV (Qb (mVar 0) (Qb (Ql Yz (Qb (mVar 1) mNil)) (Qb (mVar 2) mNil))))))
noncomputable def Qdz:MF:=mDef 3 0 Qim
noncomputable def QdA:MS:=(mSeq (YJ (mVar 1) (mLit (.int 0)) (mOp2 pAdd (mOp2 pIx (mVar 1) (mLit (.int 0))) (mLit (.int 1))))
 (mSeq (mAsg (gSet 2) (mLit (.int 0)))
 (mSeq (mIf (Qj (mOp2 pGt (mOp1 pLen (mVar 0)) (mLit (.int 0)))) (mAsg (gSet 2) (mOp2 pIx (mVar 0) (mOp2 pMod (mOp2 pIx (mVar 1) (mLit (.int 0))) (mOp1 pLen (mVar 0))))) QA)
 (mSeq (mAsg (gSet 3) (mOp2 pMod (mOp2 pMul (mOp2 pAdd (mOp2 pAdd (mOp2 pMod (mVar 2) (mLit (.int 2147483647))) (mOp2 pMul (mOp2 pMul (mOp2 pIx (mVar 1) (mLit (.int 0))) (mOp2 pIx (mVar 1) (mLit (.int 0)))) (mLit (.int 7919)))) (mLit (.int 11))) (mLit (.int 48271))) (mLit (.int 2147483647))))
 (mRet (mOp2 pMod (mOp2 pMul (mVar 3) (mVar 3)) (mLit (.int 1999999973))))))))
noncomputable def ZR:MF:=mDef 2 2 QdA
noncomputable def Jw(me:MF):MS:=(mSeq (mIf (Qj (mOp1 (ZT .dict) (mVar 1))) (mSeq (mIf (mOrT (ZK (Qj (mOp1 (ZT .dict) (mVar 0)))) (Qj (mOp2 pNe (mOp1 pLen (mVar 0)) (mOp1 pLen (mVar 1))))) (mRet (mLit (.bl false))) QA)
 (mRet (mOp1 pAll (Yf (QN (mVar 1)) 1 [0,1] (gSet 0) ZS (mAnd (mOp2 (pIn false) (mVar 0) (mVar 1)) (Ql me (Qb (mOp2 pIx (mVar 1) (mVar 0)) (Qb (mOp2 pIx (mVar 2) (mVar 0)) mNil)))))))) QA)
 (mSeq (mIf (mOrT (Qj (mOp1 (ZT .list) (mVar 1))) (Qj (mOp1 (ZT .tuple) (mVar 1)))) (mSeq (mIf (mOrT (Qj (mOp2 pNe (mOp1 (ZT .list) (mVar 0)) (mOp1 (ZT .list) (mVar 1)))) (Qj (mOp2 pNe (mOp1 (ZT .tuple) (mVar 0)) (mOp1 (ZT .tuple) (mVar 1))))) (mRet (mLit (.bl false))) QA)
 (mRet (mAnd (mOp2 pEq (mOp1 pLen (mVar 0)) (mOp1 pLen (mVar 1))) (mOp1 pAll (Yf (Qem (mVar 0) (mVar 1)) 2 [] (QcD [(gSet 0),(gSet 1)]) ZS (Ql me (Qb (mVar 0) (Qb (mVar 1) mNil)))))))) QA)
 (mSeq (mIf (Qj (mOp1 (ZT .str) (mVar 1))) (mRet (mAnd (mOp1 (ZT .str) (mVar 0)) (mOp2 pEq (mVar 0) (mVar 1)))) QA)
 (mRet (mAnd (mOp1 (ZT .int) (mVar 0)) (mAnd (mNot (mOp1 (ZT .bool) (mVar 0))) (mOp2 pEq (mVar 0) (mVar 1))))))))
noncomputable def Ym:Nat->MF
 |0=>λ_ _=>.stuck
 |k+1=>mDef 2 0 (Jw (Ym k))
noncomputable def ZC:MS:=(mSeq (mAsg (gSet 8) (Ql ZR (Qb (mVar 0) (Qb (mVar 1) mNil))))
 (mSeq (mAsg (gSet 9) (mOpA pTup (Qb (mOp2 pMod (mOp2 Q5 (mVar 8) (mLit (.int 9))) (mVar 3)) (Qb (mOp2 pIx (mLit (.str "lr")) (mOp2 pMod (mOp2 Q5 (mVar 8) (mLit (.int 100))) (mLit (.int 2)))) (Qb (mOp2 pMod (mOp2 Q5 (mVar 8) (mLit (.int 300))) (mVar 2)) mNil)))))
 (mSeq (mIf (Qj (mOp2 pEq (mOp2 pMod (mVar 8) (mLit (.int 9))) (mLit (.int 0)))) (mAsg (gSet 9) (mLit .non)) QA)
 (Z7 (Yg (mVar 6) (mVar 9))))))
noncomputable def Y1:MS:=(mSeq (mAsg (gSet 6) (mOpA newL mNil))
 (mSeq (mFor (QO (mVar 3)) (gSet 7) ZC)
 (Z7 (Yg (mVar 4) (mVar 6)))))
noncomputable def Qb7:MS:=(mSeq (mAsg (gSet 4) (mOpA newL mNil))
 (mSeq (mFor (QO (mVar 2)) (gSet 5) Y1)
 (mRet (mVar 4))))
noncomputable def Qb8:MF:=mDef 4 6 Qb7
noncomputable def QdB:MS:=(mSeq (mAsg (gSet 3) (Ql ZR (Qb (mVar 0) (Qb (mVar 1) mNil))))
 (mSeq (mAsg (gSet 4) (mOp2 pIx (mOpA newL (Qb (mLit (.int 1)) (Qb (mLit (.int 1)) (Qb (mLit (.int 2)) (Qb (mLit (.int 2)) (Qb (mLit (.int 3)) (Qb (mLit (.int 3)) (Qb (mOp2 pAdd (mLit (.int 1)) (mOp2 pMod (mOp2 Q5 (mVar 3) (mLit (.int 8))) (mLit (.int 6)))) (Qb (mLit (.int 20)) mNil))))))))) (mOp2 pMod (mVar 3) (mLit (.int 8)))))
 (mSeq (mIf (JK (Qj (mOp2 pEq (mVar 4) (mLit (.int 20)))) (Qj (mOp2 pGt (mOp2 pMod (mOp2 Q5 (mVar 3) (mLit (.int 8))) (mLit (.int 9))) (mLit (.int 0))))) (mAsg (gSet 4) (mLit (.int 2))) QA)
 (mSeq (mAsg (gSet 5) (Ql ZR (Qb (mVar 0) (Qb (mVar 1) mNil))))
 (mRet (mOp1 Zq (Yf (QO (mVar 4)) 1 [2,5,3] (gSet 0) ZS (mOp2 pMod (mOp2 pAdd (mOp2 Q5 (mVar 2) (mOp2 pAdd (mOp2 pMul (mOp2 pMul (mVar 0) (mVar 0)) (mVar 0)) (mLit (.int 1)))) (mOp2 pMul (mVar 0) (mOp2 pMod (mOp2 Q5 (mVar 3) (mLit (.int 72))) (mLit (.int 5))))) (mVar 1)))))))))
noncomputable def QdC:MF:=mDef 3 3 QdB
noncomputable def Yc:MS:=(mSeq (mAsg (gSet 5) (Ql ZR (Qb (mVar 0) (Qb (mVar 1) mNil))))
 (mSeq (mIf (Qj (mOp2 pEq (mOp2 pMod (mVar 5) (mLit (.int 5))) (mLit (.int 0)))) (mRet (mVar 4)) QA)
 (mIf (Qj (mOp2 pLt (mOp2 pMod (mVar 5) (mLit (.int 5))) (mLit (.int 3)))) (Z7 (Yg (mVar 4) (mOpA pTup (Qb (mLit (.str "one")) (Qb (mOp2 pMod (mOp2 Q5 (mVar 5) (mLit (.int 5))) (mVar 2)) mNil))))) (mSeq (mAsg (gSet 6) (Ql QdC (Qb (mVar 0) (Qb (mVar 1) (Qb (mVar 2) mNil)))))
 (mSeq (mAsg (gSet 7) (Yf (QN (QM (mVar 6) QB (Zp (mLit (.int 7))))) 1 [6] (gSet 0) (Qj (mOp2 pLt (mOp1 pLen (mVar 1)) (mLit (.int 8)))) (mOpA pTup (Qb (mLit (.str "one")) (Qb (mVar 0) mNil)))))
 (mSeq (Z7 (Qb4 (mVar 4) (mOp2 pIx (mOpA newL (Qb (mOpA newL mNil) (Qb (mVar 7) (Qb (QM (mVar 7) (Zp (mOp1 pNeg (mLit (.int 1)))) QB) (Qb (QM (mVar 7) QB (Zp (mLit (.int 1)))) (Qb (mVar 7) (Qb (mOpA newL mNil) mNil))))))) (mOp2 pMod (mOp2 Q5 (mVar 5) (mLit (.int 5))) (mLit (.int 6))))))
 (mSeq (Z7 (Yg (mVar 4) (mOpA pTup (Qb (mLit (.str "many")) (Qb (mVar 6) (Qb (mOp2 pMod (mOp2 Q5 (mVar 5) (mLit (.int 30))) (mLit (.int 4))) mNil))))))
 (Z7 (Qb4 (mVar 4) (mOp2 pIx (mOpA newL (Qb (mOpA newL mNil) (Qb (mVar 7) (Qb (QM (mVar 7) QB (Zp (mLit (.int 1)))) (Qb (QM (mVar 7) (Zp (mOp1 pNeg (mLit (.int 1)))) QB) (Qb (mOpA newL mNil) (Qb (mVar 7) mNil))))))) (mOp2 pMod (mOp2 Q5 (mVar 5) (mLit (.int 120))) (mLit (.int 6)))))))))))))
noncomputable def Qbg:MS:=(mSeq (mAsg (gSet 4) (mOpA newL mNil))
 (mSeq (QcT (Qj (mOp2 pLt (mOp1 pLen (mVar 4)) (mVar 3))) Yc)
 (mRet (mVar 4))))
noncomputable def Qag:MF:=mDef 4 4 Qbg
noncomputable def Qb9:MS:=(mSeq (mAsg (gSet 4) (Ql ZR (Qb (mVar 0) (Qb (mVar 1) mNil))))
 (mSeq (mAsg (gSet 5) (Ql Qag (Qb (mVar 0) (Qb (mVar 1) (Qb (mVar 3) (Qb (mOp2 pMod (mOp2 Q5 (mVar 4) (mLit (.int 2))) (mLit (.int 5))) mNil))))))
 (mSeq (mAsg (gSet 6) (Ql Qag (Qb (mVar 0) (Qb (mVar 1) (Qb (mVar 3) (Qb (mOp2 pMod (mOp2 Q5 (mVar 4) (mLit (.int 10))) (mLit (.int 5))) mNil))))))
 (mRet (mOpA pTup (Qb (mOp2 pMod (mOp2 Q5 (mVar 4) (mLit (.int 50))) (mVar 2)) (Qb (mOp2 pIx (mLit (.str "lr")) (mOp2 pMod (mVar 4) (mLit (.int 2)))) (Qb (mVar 5) (Qb (mVar 6) mNil)))))))))
noncomputable def Qca:MF:=mDef 4 3 Qb9
noncomputable def JV:MS:=(mAsg (gSet 2) (mOp2 pAdd (mVar 2) (mOp1 Qeo (mOp2 pIx (mVar 3) (mLit (.int 1))))))
noncomputable def Y2:MS:=(mIf (Qj (mOp2 pEq (mOp2 pIx (mVar 3) (mLit (.int 0))) (mLit (.str "one")))) (Z7 (Yg (mVar 2) (mOp2 pIx (mVar 3) (mLit (.int 1))))) (mFor (QO (mOp2 pAdd (mVar 1) (mOp2 pIx (mVar 3) (mLit (.int 2))))) (gSet 4) JV))
noncomputable def Qcb:MS:=(mSeq (mAsg (gSet 2) (mOpA newL mNil))
 (mSeq (mFor (QN (mVar 0)) (gSet 3) Y2)
 (mRet (mVar 2))))
noncomputable def QaW:MF:=mDef 2 3 Qcb
noncomputable def YL:MS:=(mIf (Qj (mOp2 pNe (mOp2 pIx (mVar 7) (mVar 9)) (mLit (.int 0)))) (Qfh (mVar 8) (mOp2 pSub (mVar 9) (mOp1 pLen (mVar 6))) (mOp2 pIx (mVar 7) (mVar 9))) QA)
noncomputable def Qf8:MS:=(mSeq (mAsg (QcD [(gSet 2),(gSet 3),(gSet 4),(gSet 5)]) (mVar 0))
 (mSeq (mAsg (gSet 6) (Ql QaW (Qb (mVar 4) (Qb (mVar 1) mNil))))
 (mSeq (mAsg (gSet 7) (mOp2 pAdd (mVar 6) (Ql QaW (Qb (mVar 5) (Qb (mVar 1) mNil)))))
 (mSeq (mAsg (gSet 8) Qly)
 (mSeq (mFor (QO (mOp1 pLen (mVar 7))) (gSet 9) YL)
 (mRet (mOpA pTup (Qb (mVar 2) (Qb (mOp1 pNeg (mOp1 pInt (mOp2 pEq (mVar 3) (mLit (.str "l"))))) (Qb (mVar 8) mNil))))))))))
noncomputable def QaX:MF:=mDef 2 8 Qf8
noncomputable def QdD:MS:=(mSeq (mAsg (QcD [(gSet 1),(gSet 2),(gSet 3),(gSet 4)]) (mVar 0))
 (mRet (mOpA pTup (Qb (mVar 1) (Qb (mVar 2) (Qb (mOp1 Zq (mVar 3)) (Qb (mOp1 Zq (mVar 4)) mNil)))))))
noncomputable def QbK:MF:=mDef 1 4 QdD
noncomputable def QkM:MS:=(mSeq (mAsg (gSet 2) (mOp2 pIx (mOp2 pIx (mVar 0) (mOp2 pIx (mVar 1) (mLit (.int 0)))) (Qbv (mOp2 pIx (mVar 1) (mLit (.int 2))) (mOp2 pIx (mVar 1) (mLit (.int 1))) (mLit (.int 0)))))
 (mSeq (mIf (Qj (mOp2 pIs (mVar 2) (mLit .non))) (mRet (mLit (.bl false))) QA)
 (mSeq (Qfh (mOp2 pIx (mVar 1) (mLit (.int 2))) (mOp2 pIx (mVar 1) (mLit (.int 1))) (mOp2 pIx (mVar 2) (mLit (.int 0))))
 (mSeq (mIf (Qj (mOp2 pEq (mOp2 pIx (mVar 2) (mLit (.int 0))) (mLit (.int 0)))) (Z7 (Qid (mOp2 pIx (mVar 1) (mLit (.int 2))) (mOp2 pIx (mVar 1) (mLit (.int 1))))) QA)
 (mSeq (YJ (mVar 1) (mLit (.int 0)) (mOp2 pIx (mVar 2) (mLit (.int 2))))
 (mSeq (YJ (mVar 1) (mLit (.int 1)) (mOp2 pAdd (mOp2 pIx (mVar 1) (mLit (.int 1))) (mOp2 pIx (mOpA newL (Qb (mOp1 pNeg (mLit (.int 1))) (Qb (mLit (.int 1)) mNil))) (mOp1 pInt (mOp2 pEq (mOp2 pIx (mVar 2) (mLit (.int 1))) (mLit (.str "r")))))))
 (mRet (mLit (.bl true)))))))))
noncomputable def Qcc:MF:=mDef 2 1 QkM
noncomputable def Qc1:MS:=(mSeq (mAsg (QcD [(gSet 3),(gSet 4),(gSet 5)]) (Ql QaX (Qb (mVar 1) (Qb (mVar 2) mNil))))
 (mSeq (mAsg (gSet 6) (mOp2 pSub (mOp2 pIx (mVar 0) (mLit (.int 1))) (mVar 4)))
 (mSeq (mIf (mOrT (Qj (mOp2 pNe (mOp2 pIx (mVar 0) (mLit (.int 0))) (mVar 3))) (Qj (mOp2 pNe (mOp1 Qey (mOp2 pIx (mVar 0) (mLit (.int 2)))) (mOp1 Qey (mVar 5))))) (mRet (mLit (.bl false))) QA)
 (mRet (mOp1 pAll (Yf (Qb5 (mVar 5)) 1 [5,6,0] (gSet 0) ZS (mOp2 pEq (Qbv (mOp2 pIx (mVar 3) (mLit (.int 2))) (mOp2 pAdd (mVar 0) (mVar 2)) (mLit (.int 0))) (mOp2 Qfj (mVar 1) (mVar 0)))))))))
noncomputable def Qah:MF:=mDef 3 4 Qc1
noncomputable def Y3:MS:=(mAsg (gSet 1) (mOp2 pAdd (mVar 1) (Yf (QN (mOpA newL (Qb (mLit (.str "join")) (Qb (mLit (.str "draw")) (Qb (mLit (.str "roll")) (Qb (mLit (.str "back")) mNil)))))) 1 [2,4] (gSet 0) ZS (mOpA pTup (Qb (mVar 0) (Qb (mVar 1) (Qb (mVar 2) mNil)))))))
noncomputable def Yr:MS:=(mSeq (mAsg (gSet 3) (mOp2 pIx (mOpA newL (Qb (mOp2 pIx (mVar 0) (mLit (.int 3))) (Qb (mOp2 pIx (mVar 0) (mLit (.int 2))) mNil))) (mOp1 pInt (mOp2 pEq (mVar 2) (mLit (.str "l"))))))
 (mFor (QO (mOp2 pAdd (mOp1 pLen (mVar 3)) (mLit (.int 1)))) (gSet 4) Y3))
noncomputable def QeA:MS:=(mSeq (mAsg (gSet 1) (mOpA newL (Qb (mOpA pTup (Qb (mLit (.str "step")) mNil)) (Qb (mOpA pTup (Qb (mLit (.str "over")) mNil)) (Qb (mOpA pTup (Qb (mLit (.str "open")) mNil)) (Qb (mOpA pTup (Qb (mLit (.str "trim")) (Qb (mLit (.str "l")) mNil))) (Qb (mOpA pTup (Qb (mLit (.str "trim")) (Qb (mLit (.str "r")) mNil))) (Qb (mOpA pTup (Qb (mLit (.str "pad")) (Qb (mLit (.str "l")) mNil))) (Qb (mOpA pTup (Qb (mLit (.str "pad")) (Qb (mLit (.str "r")) mNil))) mNil)))))))))
 (mSeq (mFor (QN (mOpA newL (Qb (mLit (.str "l")) (Qb (mLit (.str "r")) mNil)))) (gSet 2) Yr)
 (mRet (mVar 1))))
noncomputable def QaY:MF:=mDef 1 4 QeA
noncomputable def QdE:MS:=(mSeq (mAsg (gSet 3) (mLit .non))
 (mSeq (mTry (mAsg (gSet 3) (Ql Qdz (Qb (mVar 0) (Qb (mVar 1) (Qb (mVar 2) mNil))))) [⟨[8],[0,1,7],none,(mAsg (gSet 3) (mLit .non))⟩])
 (mRet (mVar 3))))
noncomputable def Jx:MF:=mDef 3 1 QdE
noncomputable def YA:MS:=(mSeq (mAsg (gSet 11) (mOp2 pAdd (mVar 11) (mLit (.int 1))))
 (mIf (mOrT (Qj (mOp2 pGt (mVar 11) (mOp2 pMul (mLit (.int 1000)) (mOp2 pAdd (mVar 3) (mOp2 pIx (mVar 8) (mLit (.int 2))))))) (ZK (Qj (Ql Qcc (Qb (mVar 0) (Qb (mVar 1) mNil)))))) (mRet (mLit (.bl false))) QA))
noncomputable def Qc2:MS:=(mSeq (mAsg (QcD [(gSet 4),(gSet 5),(gSet 6),(gSet 7)]) (mVar 2))
 (mSeq (mAsg (gSet 8) (mOp2 pIx (mOp2 pIx (mOpA newL (Qb (QM (mVar 6) (Zp (mOp1 pNeg (mLit (.int 1)))) QB) (Qb (QM (mVar 7) QB (Zp (mLit (.int 1)))) mNil))) (mOp1 pInt (mOp2 pEq (mVar 5) (mLit (.str "r"))))) (mLit (.int 0))))
 (mSeq (mAsg (gSet 9) (mOp2 pMul (mOp1 pLen (mOp2 pIx (mVar 8) (mLit (.int 1)))) (mOp2 pAdd (mVar 3) (mOp2 pIx (mVar 8) (mLit (.int 2))))))
 (mSeq (mAsg (gSet 10) (mOp2 pMul (mOp1 pNeg (mVar 9)) (mOp1 pInt (mOp2 pEq (mVar 5) (mLit (.str "l"))))))
 (mSeq (mAsg (gSet 11) (mLit (.int 0)))
 (mSeq (QcT (JK (Qj (mOp2 pLe (mVar 10) (mOp2 pIx (mVar 1) (mLit (.int 1))))) (Qj (mOp2 pLt (mOp2 pIx (mVar 1) (mLit (.int 1))) (mOp2 pAdd (mVar 10) (mVar 9))))) YA)
 (mRet (mLit (.bl true)))))))))
noncomputable def Ji:MF:=mDef 4 8 Qc2
noncomputable def YB:MS:=(mSeq (mAsg (gSet 5) (mOp1 Qeo (Ql QaX (Qb (mVar 1) (Qb (mVar 4) mNil)))))
 (mSeq (mIf (JK (Qj (mOp2 pEq (mOp2 pIx (mVar 2) (mLit (.int 0))) (mLit (.str "step")))) (ZK (Qj (Ql Qcc (Qb (mVar 0) (Qb (mVar 5) mNil)))))) (mRet (mLit (.bl false))) QA)
 (mSeq (mIf (JK (Qj (mOp2 pEq (mOp2 pIx (mVar 2) (mLit (.int 0))) (mLit (.str "over")))) (ZK (Qj (Ql Ji (Qb (mVar 0) (Qb (mVar 5) (Qb (mVar 1) (Qb (mVar 4) mNil)))))))) (mRet (mLit (.bl false))) QA)
 (mIf (ZK (Qj (Ql Qah (Qb (mVar 5) (Qb (mVar 3) (Qb (mVar 4) mNil)))))) (mRet (mLit (.bl false))) QA))))
noncomputable def Qc3:MS:=(mSeq (mFor (QO (mLit (.int 4))) (gSet 4) YB)
 (mRet (mLit (.bl true))))
noncomputable def Qai:MF:=mDef 4 2 Qc3
noncomputable def Z4:MS:=(mSeq (mAsg (gSet 10) (Ql Jx (Qb (mVar 6) (Qb (mVar 7) (Qb (mVar 9) mNil)))))
 (mIf (Qj (mOp2 QcV (mVar 10) (mLit .non))) (mSeq (Z7 (Yg (mVar 8) (mVar 9)))
 (mIf (ZK (Qj (Ql Qai (Qb (mVar 5) (Qb (mVar 7) (Qb (mVar 9) (Qb (mVar 10) mNil))))))) (mRet (mLit (.bl false))) QA)) QA))
noncomputable def Ys:MS:=(mSeq (mAsg (gSet 9) (mOp2 pIx (mVar 8) (mOp2 pMod (Ql ZR (Qb (mVar 0) (Qb (mVar 1) mNil))) (mOp1 pLen (mVar 8)))))
 (mSeq (mAsg (gSet 10) (Ql Jx (Qb (mVar 6) (Qb (mVar 7) (Qb (mVar 9) mNil)))))
 (mIf (Qj (mOp2 QcV (mVar 10) (mLit .non))) (mSeq (mIf (ZK (Qj (Ql Qai (Qb (mVar 5) (Qb (mVar 7) (Qb (mVar 9) (Qb (mVar 10) mNil))))))) (mRet (mLit (.bl false))) QA)
 (mSeq (mIf (ZK (Qj (Ql (Ym 6) (Qb (Ql Jx (Qb (mVar 6) (Qb (mVar 7) (Qb (mVar 9) mNil)))) (Qb (mVar 10) mNil))))) (mRet (mLit (.bl false))) QA)
 (mAsg (gSet 7) (mVar 10)))) QA)))
noncomputable def QeB:MS:=(mSeq (mAsg (gSet 2) (Ql ZR (Qb (mVar 0) (Qb (mVar 1) mNil))))
 (mSeq (mAsg (gSet 3) (mOp2 pAdd (mLit (.int 1)) (mOp2 pMod (mVar 2) (mLit (.int 4)))))
 (mSeq (mAsg (gSet 4) (mOp2 pAdd (mLit (.int 1)) (mOp2 pMod (mOp2 Q5 (mVar 2) (mLit (.int 4))) (mLit (.int 4)))))
 (mSeq (mAsg (gSet 5) (Ql Qb8 (Qb (mVar 0) (Qb (mVar 1) (Qb (mVar 3) (Qb (mVar 4) mNil))))))
 (mSeq (mAsg (gSet 6) (QhC 11 ZP (Qb (mVar 5) mNil)))
 (mSeq (mAsg (gSet 7) (Ql QbK (Qb (Ql Qca (Qb (mVar 0) (Qb (mVar 1) (Qb (mVar 3) (Qb (mVar 4) mNil))))) mNil)))
 (mSeq (mAsg (gSet 8) (mOpA newL mNil))
 (mSeq (mFor (QN (Ql QaY (Qb (mVar 7) mNil))) (gSet 9) Z4)
 (mSeq (mFor (QO (mOp2 pAdd (mLit (.int 1)) (mOp2 pMod (mOp2 Q5 (mVar 2) (mLit (.int 16))) (mLit (.int 5))))) (gSet 11) Ys)
 (mRet (mLit (.bl true))))))))))))
noncomputable def Qcd:MF:=mDef 2 10 QeB
noncomputable def QdF:MS:=(mIf (ZK (Qj (Ql Qcd (Qb (mVar 0) (Qb (mVar 1) mNil))))) (mRet (mLit (.bl false))) QA)
noncomputable def QlF:MS:=(mSeq (mAsg (gSet 1) (mOpA newL (Qb (mLit (.int 0)) mNil)))
 (mSeq (mFor (QO (mOp2 pAdd (mLit (.int 1)) (mOp2 Q5 (mOp1 pLen (QM (mVar 0) QB (Zp (mLit (.int 60))))) (mLit (.int 40))))) (gSet 2) QdF)
 (mRet (mLit (.bl true)))))
noncomputable def Qj3:MF:=mDef 1 2 QlF
structure Keeps(S:List Nat)(g g':G):Prop where
 len:g.length<=g'.length
 at':∀n o,n∉S->g[n]?=some o->g'[n]?=some o
theorem Keeps.refl{S:List Nat}{g:G}:Keeps S g g:=⟨Ui _,λ_ _ _ h=>h⟩
theorem Keeps.trans{S:List Nat}{g g1 g2:G}(a:Keeps S g g1)(b:Keeps S g1 g2):Keeps S g g2:=⟨Ur a.len b.len,λn o h e=>b.at' n o h (a.at' n o h e)⟩
theorem Keeps.mono{S T:List Nat}{g g1:G}(a:Keeps S g g1)(h:∀n∈S,n∈T):Keeps T g g1:=⟨a.len,λn o q e=>a.at' n o (λz=>q (h n z)) e⟩
theorem Keeps.all{S:List Nat}{g g1:G}(a:Keeps [] g g1):Keeps S g g1:=a.mono (by simp)
theorem Keeps.push{S:List Nat}{g:G}(o:GO):Keeps S g (g++[o]):=⟨by simp,λn u _ e=>by
 have hl:n<g.length:=(Ud.mp e).1
 rw[Ut hl];exact e⟩
theorem Keeps.set{g:G}(n:Nat)(o:GO):Keeps [n] g (g.set n o):=⟨by simp,λm u h e=>by
 rw[Uo (λz=>h (by simp[z]))];exact e⟩
structure KeepsN(k:Nat)(S:List Nat)(g g':G):Prop where
 len:g.length<=g'.length
 at':∀n o,n<k->n∉S->g[n]?=some o->g'[n]?=some o
theorem KeepsN.refl{k:Nat}{S:List Nat}{g:G}:KeepsN k S g g:=⟨Ui _,λ_ _ _ _ h=>h⟩
theorem KeepsN.trans{k:Nat}{S:List Nat}{g g1 g2:G}(a:KeepsN k S g g1)(b:KeepsN k S g1 g2):KeepsN k S g g2:=⟨Ur a.len b.len,λn o l h e=>b.at' n o l h (a.at' n o l h e)⟩
theorem Keeps.n{k:Nat}{S T:List Nat}{g g1:G}(a:Keeps S g g1)(h:∀n∈S,n<k->n∈T):KeepsN k T g g1:=⟨a.len,λn o l q e=>a.at' n o (λz=>q (h n z l)) e⟩
theorem KeepsN.mono{j k:Nat}{S T:List Nat}{g g1:G}(a:KeepsN k S g g1)(hj:j<=k)(h:∀n∈S,n<j->n∈T):KeepsN j T g g1:=⟨a.len,λn o l q e=>a.at' n o (by omega) (λz=>q (h n z l)) e⟩
theorem KeepsN.keeps{S:List Nat}{g g1:G}(a:KeepsN g.length S g g1):Keeps S g g1:=⟨a.len,λn o q e=>a.at' n o (Ud.mp e).1 q e⟩
theorem Qw{g:G}(o:GO):(g++[o])[g.length]?=some o:=by simp
theorem Zw{g:G}{n:Nat}{o:GO}(h:g[n]?=some o):n<g.length:=(Ud.mp h).1
theorem Q9{g:G}{n:Nat}{o u:GO}(h:g[n]?=some o):(g.set n u)[n]?=some u:=by rw[U0 (Zw h)]
noncomputable def Qj4:Out->Prop
 |.rt _ _=>True
 |.raise _ _ _=>True
 |.stuck=>True
 |_=>False
theorem Qaj{src:Src}{t:MG}{body:MS}{n:Nat}(I:Nat->S3->G->Prop)(R:Out->Prop)(step:∀i σ g,i<n->I i σ g->∃d σ1,src.at' g i=some (some d)/\t d σ=some σ1/\((∃σ2 g2,(body σ1 g=.nx σ2 g2\/body σ1 g=.ct σ2 g2)/\I (i+1) σ2 g2)\/(Qj4 (body σ1 g)/\R (body σ1 g))))(stop:∀σ g,I n σ g->src.at' g n=some none):∀(f i:Nat)(σ:S3)(g:G),n-i<f->i<=n->I i σ g->(∃σ' g',forL src t body f i σ g=.nx σ' g'/\I n σ' g')\/(Qj4 (forL src t body f i σ g)/\R (forL src t body f i σ g))
 |0,_,_,_,h,_,_=>by omega
 |f+1,i,σ,g,hf,hi,h=>by
  unfold forL
  by_cases e:i=n
  ·subst e
   rw[stop σ g h]
   exact .inl ⟨σ,g,rfl,h⟩
  ·obtain⟨d,σ1,h1,h2,h3⟩:=step i σ g (by omega) h
   rw[h1]
   dsimp only
   rw[h2]
   dsimp only
   rcases h3 with⟨σ2,g2,h3|h3,h4⟩|⟨h3,h4⟩
   ·rw[h3];exact Qaj I R step stop f (i+1) σ2 g2 (by omega) (by omega) h4
   ·rw[h3];exact Qaj I R step stop f (i+1) σ2 g2 (by omega) (by omega) h4
   ·cases hb:body σ1 g with
    |rt d g'=>rw[hb]at h4;exact .inr ⟨trivial,h4⟩
    |raise x σ' g'=>rw[hb]at h4;exact .inr ⟨trivial,h4⟩
    |nx _ _=>rw[hb]at h3;exact h3.elim
    |bk _ _=>rw[hb]at h3;exact h3.elim
    |ct _ _=>rw[hb]at h3;exact h3.elim
    |stuck=>rw[hb]at h4;exact .inr ⟨trivial,h4⟩
theorem Yt{t:MG}{body:MS}{lo:Int}{n:Nat}{σ:S3}{g:G}(I:Nat->S3->G->Prop)(h0:I 0 σ g)(step:∀i σ g,i<n->I i σ g->∃σ1 σ2 g2,t (.int (lo+i)) σ=some σ1/\body σ1 g=.nx σ2 g2/\I (i+1) σ2 g2):∃σ' g',forL (Q1 lo n) t body (n+1) 0 σ g=.nx σ' g'/\I n σ' g':=by
 have:=Qaj (src:=Q1 lo n) (t:=t) (body:=body) (n:=n) I (λ_=>False) (λi σ g hi h=>by
  obtain⟨σ1,σ2,g2,a,b,c⟩:=step i σ g hi h
  exact⟨.int (lo+i),σ1,by simp[Q1,hi],a,.inl ⟨σ2,g2,.inl b,c⟩⟩) (λσ g _=>by simp[Q1]) (n+1) 0 σ g (by omega) (by omega) h0
 rcases this with h|h
 ·exact h
 ·exact h.2.elim
theorem QeC{t:MG}{body:MS}{ds:List D}{σ:S3}{g:G}(I:Nat->S3->G->Prop)(R:Out->Prop)(h0:I 0 σ g)(step:∀i d σ g,ds[i]?=some d->I i σ g->∃σ1,t d σ=some σ1/\((∃σ2 g2,body σ1 g=.nx σ2 g2/\I (i+1) σ2 g2)\/(Qj4 (body σ1 g)/\R (body σ1 g)))):
  (∃σ' g',forL ⟨λ_ i=>some ds[i]?,ds.length⟩ t body (ds.length+1) 0 σ g=.nx σ' g'/\I ds.length σ' g')\/(Qj4 (forL ⟨λ_ i=>some ds[i]?,ds.length⟩ t body (ds.length+1) 0 σ g)/\R (forL ⟨λ_ i=>some ds[i]?,ds.length⟩ t body (ds.length+1) 0 σ g)) :=
 Qaj (src:=⟨λ_ i=>some ds[i]?,ds.length⟩) (t:=t) (body:=body) (n:=ds.length) I R (λi σ g hi h=>by
  obtain⟨σ1,a,b⟩:=step i ds[i] σ g (by simp[hi]) h
  refine⟨ds[i],σ1,by simp[hi],a,?_⟩
  rcases b with⟨σ2,g2,b,c⟩|b
  ·exact .inl ⟨σ2,g2,.inl b,c⟩
  ·exact .inr b) (λσ g _=>by simp) (ds.length+1) 0 σ g (by omega) (by omega) h0
theorem Qin{src:Src}{t:MG}{body:MS}{n:Nat}{σ:S3}{g:G}(hn:src.top=n)(I:Nat->S3->G->Prop)(h0:I 0 σ g)(step:∀i σ g,i<n->I i σ g->∃d σ1 σ2 g2,src.at' g i=some (some d)/\t d σ=some σ1/\body σ1 g=.nx σ2 g2/\I (i+1) σ2 g2)(stop:∀σ g,I n σ g->src.at' g n=some none):∃σ' g',forL src t body (src.top+1) 0 σ g=.nx σ' g'/\I n σ' g':=by
 rw[hn]
 have:=Qaj (src:=src) (t:=t) (body:=body) (n:=n) I (λ_=>False) (λi σ g hi h=>by
  obtain⟨d,σ1,σ2,g2,a,b,c,e⟩:=step i σ g hi h
  exact⟨d,σ1,a,b,.inl ⟨σ2,g2,.inl c,e⟩⟩) stop (n+1) 0 σ g (by omega) (by omega) h0
 rcases this with h|h
 ·exact h
 ·exact h.2.elim
theorem Yd{src:Src}{t:MG}{c:MT}{e:ME}{n:Nat}(I:Nat->S3->G->List D->Prop)(step:∀i σ g acc,i<n->I i σ g acc->∃d σ1 g1,src.at' g i=some (some d)/\t d σ=some σ1/\((∃y g2,c σ1 g=.ok true g1/\e σ1 g1=.ok y g2/\I (i+1) σ1 g2 (acc++[y]))\/(c σ1 g=.ok false g1/\I (i+1) σ1 g1 acc)))(stop:∀σ g acc,I n σ g acc->src.at' g n=some none):∀(f i:Nat)(σ:S3)(g:G)(acc:List D),n-i<f->i<=n->I i σ g acc->∃ds σ' g',Y7 src t c e f i σ g acc=.ok ds g'/\I n σ' g' ds
 |0,_,_,_,_,h,_,_=>by omega
 |f+1,i,σ,g,acc,hf,hi,h=>by
  unfold Y7
  by_cases q:i=n
  ·subst q
   rw[stop σ g acc h]
   exact⟨acc,σ,g,rfl,h⟩
  ·obtain⟨d,σ1,g1,h1,h2,h3⟩:=step i σ g acc (by omega) h
   rw[h1]
   dsimp only
   rw[h2]
   dsimp only
   rcases h3 with⟨y,g2,h3,h4,h5⟩|⟨h3,h5⟩
   ·rw[h3];dsimp only;rw[Ue rfl,h4];exact Yd I step stop f (i+1) σ1 g2 _ (by omega) (by omega) h5
   ·rw[h3];dsimp only;rw[Uh Uf];exact Yd I step stop f (i+1) σ1 g1 _ (by omega) (by omega) h5
theorem QgS{ds:List D}{e:ME}{no:Nat}{σ:S3}{g:G}{f:D->D}(hz:ds.length<=SZ)(he:∀d∈ds,∀g1,Keeps [] g g1->∃g2,e ((List.replicate (no+1) none++σ).set 0 (some d)) g1=.ok (f d) g2/\Keeps [] g1 g2):
  ∃g',Y7 ⟨λ_ i=>some ds[i]?,ds.length⟩ (gSet 0) ZS e (ds.length+1) 0 (List.replicate (no+1) none++σ) g []=.ok (ds.map f) g'/\Keeps [] g g':=by
 obtain⟨xs,σ',g',h1,h2,h3,h4⟩:=Yd (src:=⟨λ_ i=>some ds[i]?,ds.length⟩) (t:=gSet 0) (c:=ZS) (e:=e) (n:=ds.length)
  (λi σ' g1 acc=>acc=(ds.take i).map f/\Keeps [] g g1/\∃u,σ'=(List.replicate (no+1) none++σ).set 0 u) (λi σ' g1 acc hi h=>by
   obtain⟨h1,h2,u,h3⟩:=h
   obtain⟨g2,k1,k2⟩:=he ds[i] (UX hi) g1 h2
   refine⟨ds[i],_,g1,by simp[hi],rfl,.inl ⟨f ds[i],g2,rfl,?_,?_,h2.trans k2,some ds[i],?_⟩⟩
   ·subst h3;rw[Wr];exact k1
   ·rw[h1,UR hi,US];rfl
   ·subst h3;rw[Wr]) (λσ g acc _=>by simp) (ds.length+1) 0 (List.replicate (no+1) none++σ) g [] (by omega) (by omega) ⟨by simp,.refl,none,by simp[Uw]⟩
 refine⟨g',?_,h3⟩
 rw[h1,h2,TU]
noncomputable def Jj(d:D)(n:Int):Bool:=match d with
 |.int i=>decide (0<=i/\i<n)
 |_=>false
noncomputable def Qnj:D->Bool
 |.int _=>true
 |_=>false
theorem YM(d:D)(n:Int)(g:G)(t:Ty)(_:tyOf g d=some t)(hp:Qnj d=true:=by rfl):QE [d,.int n] g=.ok (.bl (Jj d n)) g:=by
 cases d with
 |int i =>
  have c:QcS pLe pLt (mLit (.int 0)) (mVar 0) (mVar 1) [some (.int i),some (.int n)] g=.ok (.bl (decide (0<=i/\i<n))) g:=by
   unfold QcS
   rw[show mLit (D.int 0) [some (D.int i),some (D.int n)] g=.ok (.int 0) g from rfl,Res.bind_ok,show mVar 0 [some (D.int i),some (D.int n)] g=.ok (.int i) g from rfl,Res.bind_ok,show pLe (.int 0) (.int i) g=.ok (.bl (decide (0<=i))) g from rfl,Res.bind_ok]
   by_cases h0:0<=i
   ·rw[Uz h0]
    show Res.ok (D.bl (decide (i<n))) g=_
    by_cases h1:i<n
    ·rw[Uz h1,Uz ⟨h0,h1⟩]
    ·rw[Ul h1,Ul λz=>h1 z.2]
   ·rw[Ul h0,Ul λz=>h0 z.1]
  have a1:Ql Jf (Qb (mVar 0) mNil) [some (.int i),some (.int n)] g=.ok (.bl true) g:=rfl
  show(match mRet (mAnd (Ql Jf (Qb (mVar 0) mNil)) (QcS pLe pLt (mLit (.int 0)) (mVar 0) (mVar 1))) [some (.int i),some (.int n)] g with
   |.nx _ g'=>Res.ok D.non g'
   |.rt d g'=>.ok d g'
   |.raise e _ g'=>.raise e g'
   |_=>.stuck)=_
  unfold mRet mAnd
  rw[a1,Res.bind_ok]
  dsimp only
  rw[Ue rfl,c]
  rfl
 |_=>cases hp
theorem s_l:Str.ofString "l" = ⟨#[108]⟩:=by decide +kernel
theorem s_r:Str.ofString "r" = ⟨#[114]⟩:=by decide +kernel
noncomputable def wayD:D->Bool
 |.str s=>s == ⟨#[108]⟩ || s == ⟨#[114]⟩
 |_=>false
noncomputable def entD(d:D)(states signs:Int):Bool:=match d with
 |.non=>true
 |.tup [a,b,c]=>Jj a signs && wayD b && Jj c states
 |_=>false
def thingD(_:G)(d:D):Prop:=d=.non\/∃(i j:Int)(w:Str),d=.tup [.int i,.str w,.int j]
theorem QlG(s:Str)(g:G):pIn false (.str s) (.tup [.str ⟨#[108]⟩,.str ⟨#[114]⟩]) g=.ok (.bl (wayD (.str s))) g:=by
 show Res.ok (D.bl ((⟨#[108]⟩ == s) || ((⟨#[114]⟩ == s) || false))) g=.ok (.bl ((s == ⟨#[108]⟩) || (s == ⟨#[114]⟩))) g
 rw[show((⟨#[108]⟩:Str) == s)=(s == ⟨#[108]⟩) from BEq.comm,show((⟨#[114]⟩:Str) == s)=(s == ⟨#[114]⟩) from BEq.comm,RZ]
theorem Qfk(d:D)(states signs:Int)(g:G)(h:thingD g d):YF [d,.int states,.int signs] g=.ok (.bl (entD d states signs)) g:=by
 rcases h with rfl|⟨i,j,w,rfl⟩
 ·rfl
 ·have a1:Ql QE (Qb (mOp2 pIx (mVar 0) (mLit (.int 0))) (Qb (mVar 2) mNil)) [some (.tup [.int i,.str w,.int j]),some (.int states),some (.int signs)] g=.ok (.bl (Jj (.int i) signs)) g:=YM (.int i) signs g .int rfl
  have a3:Ql QE (Qb (mOp2 pIx (mVar 0) (mLit (.int 2))) (Qb (mVar 1) mNil)) [some (.tup [.int i,.str w,.int j]),some (.int states),some (.int signs)] g=.ok (.bl (Jj (.int j) states)) g:=YM (.int j) states g .int rfl
  have a2:mOp2 (pIn false) (mOp2 pIx (mVar 0) (mLit (.int 1))) (mOpA pTup (Qb (mLit (.str "l")) (Qb (mLit (.str "r")) mNil))) [some (.tup [.int i,.str w,.int j]),some (.int states),some (.int signs)] g=.ok (.bl (wayD (.str w))) g:=by
   rw[s_l,s_r];exact QlG w g
  show(match (mRet (mAnd (Ql QE (Qb (mOp2 pIx (mVar 0) (mLit (.int 0))) (Qb (mVar 2) mNil))) (mAnd (mOp2 (pIn false) (mOp2 pIx (mVar 0) (mLit (.int 1))) (mOpA pTup (Qb (mLit (.str "l")) (Qb (mLit (.str "r")) mNil)))) (Ql QE (Qb (mOp2 pIx (mVar 0) (mLit (.int 2))) (Qb (mVar 1) mNil)))))) [some (.tup [.int i,.str w,.int j]),some (.int states),some (.int signs)] g with
   |.nx _ g'=>Res.ok D.non g'
   |.rt d g'=>.ok d g'
   |.raise e _ g'=>.raise e g'
   |_=>.stuck)=.ok (.bl (Jj (.int i) signs && wayD (.str w) && Jj (.int j) states)) g
  unfold mRet mAnd
  rw[a1,Res.bind_ok]
  dsimp only
  cases Jj (.int i) signs
  ·rfl
  ·rw[Ue rfl,a2,Res.bind_ok]
   dsimp only
   cases wayD (.str w)
   ·rfl
   ·rw[Ue rfl,a3];rfl
theorem Keeps.ty{g g1:G}(k:Keeps [] g g1){d:D}{t:Ty}(h:tyOf g d=some t):tyOf g1 d=some t:=by
 cases d with
 |ref n =>
  unfold tyOf at h ⊢
  dsimp only at h ⊢
  cases hg:g[n]? with
  |none=>rw[hg]at h;cases h
  |some o=>rw[hg]at h;rw[k.at' n o (by simp) hg];exact h
 |_=>exact h
theorem thingD.mono{g g1:G}{d:D}(_:Keeps [] g g1)(h:thingD g d):thingD g1 d:=h
theorem Qf9{α:Type}(f:α->Bool):∀ts:List α,allB (ts.map λd=>D.bl (f d))=some (ts.all f)
 |[]=>rfl
 |t::ts=>by simp[allB,Qf9 f ts]
noncomputable def YN(n m:Nat)(r:List D):Bool:=r.length == m && r.all λd=>entD d n m
noncomputable def QaZ(rows:List (List D)):Bool:=match rows with
 |[]=>false
 |r::_=>r.length != 0 && rows.all (YN rows.length r.length)
theorem Qga(c:Nat)(t:Str)(σ:S3)(g:G):Ze c (Qb (mLit (.str t)) mNil) σ g=.raise (c,none) σ g:=by simp[Ze,Qb,mLit,mNil,Res.bind,SZ]
theorem eq_int(i j:Int)(g:G):pEq (.int i) (.int j) g=.ok (.bl (i == j)) g:=rfl
theorem ne_int(i j:Int)(g:G):pNe (.int i) (.int j) g=.ok (.bl (!(i == j))) g:=rfl
theorem QlH(n m:Nat)(ts:List D)(x:D)(g:G)(hz:ts.length<=SZ)(h:∀d∈ts,thingD g d):
  ∃g',Keeps [] g g'/\mOp1 pAll (Yf (QN (mVar 3)) 1 [1,2] (gSet 0) ZS (Ql YF (Qb (mVar 0) (Qb (mVar 1) (Qb (mVar 2) mNil))))) [some x,some (.int n),some (.int m),some (.tup ts)] g=.ok (.bl (ts.all λd=>entD d n m)) g':=by
 obtain⟨g1,h1,k1⟩:=QgS (ds:=ts) (e:=Ql YF (Qb (mVar 0) (Qb (mVar 1) (Qb (mVar 2) mNil)))) (no:=0) (σ:=[some (.int n),some (.int m)]) (g:=g) (f:=λd=>.bl (entD d n m)) hz
  (λd hd g1 k=>⟨g1,by simp[Ql,Qb,mNil,mVar,Res.bind,Qfk d n m g1 ((h d hd).mono k)],.refl⟩)
 refine⟨g1++[.lst (ts.map λd=>.bl (entD d n m))],k1.trans (.push _),?_⟩
 have h1:Y7 ⟨λ_ i=>some ts[i]?,ts.length⟩ (gSet 0) ZS (Ql YF (Qb (mVar 0) (Qb (mVar 1) (Qb (mVar 2) mNil)))) (ts.length+1) 0 [none,some (.int n),some (.int m)] g []=.ok (ts.map λd=>.bl (entD d n m)) g1:=h1
 simp[mOp1,Yf,QN,mVar,Res.bind,QcU,hz,capt,h1,pAll,Qf9]
theorem Qj5(n m:Nat)(ts:List D)(x:D)(g:G)(hz:ts.length<=SZ)(h:∀d∈ts,thingD g d):
  ∃g',Keeps [] g g'/\Zo [some x,some (.int n),some (.int m),some (.tup ts)] g=if YN n m ts=true then .nx [some x,some (.int n),some (.int m),some (.tup ts)] g' else .raise (1,none) [some x,some (.int n),some (.int m),some (.tup ts)] g':=by
 by_cases hl:ts.length=m
 ·obtain⟨g2,k2,e2⟩:=QlH n m ts x g hz h
  refine⟨g2,k2,?_⟩
  have hl':((ts.length:Int) == (m:Int))=true:=by simp[hl]
  have gr:YN n m ts=ts.all λd=>entD d n m:=by simp[YN,hl]
  rw[gr]
  simp only[Zo,mSeq,mIf,Qj,mOp2,mOp1,mVar,Res.bind,Re,Rf,pLen,ne_int,hl',Bool.not_true,U5,TL,QA,ZK]
  simp only[mOp1,Res.bind]at e2
  rw[e2]
  cases (ts.all λd=>entD d n m) <;> simp[Ze,Qb,mLit,mNil,Res.bind,SZ]
 ·refine⟨g,.refl,?_⟩
  have hl':((ts.length:Int) == (m:Int))=false:=by simp;omega
  have gr:YN n m ts=false:=by
   have:(ts.length == m)=false:=by simp[hl]
   simp only[YN,this,Bool.false_and]
  rw[gr]
  simp only[Zo,mSeq,mIf,Qj,mOp2,mOp1,mVar,Res.bind,Re,Rf,pLen,ne_int,hl',Bool.not_false,TX,Qga,U5,TL]
theorem QdG(rows:List (List D))(g:G)(hz:∀r∈rows,r.length<=SZ)(h:∀r∈rows,∀d∈r,thingD g d):
  ∃g',Keeps [] g g'/\ZY [.tup (rows.map .tup)] g=if QaZ rows=true then .ok .non g' else .raise (1,none) g':=by
 cases rows with
 |nil=>exact⟨g,.refl,by simp[ZY,mDef,ZX,mSeq,mIf,Qj,mOp2,mOp1,mVar,mLit,Res.bind,pLen,eq_int,Qga,QaZ]⟩
 |cons r rest =>
  have e0:¬((rest.length:Int)+1=0):=by omega
  have e1:(0:Int)<(rest.length:Int)+1:=by omega
  by_cases hr:r.length=0
  ·refine⟨g,.refl,?_⟩
   simp[ZY,mDef,ZX,mSeq,mIf,Qj,mOp2,mOp1,mVar,mLit,Res.bind,pLen,eq_int,Qga,QaZ,hr,e0,e1,QA,mAsg,gSet,pIx,atD,ixD]
  ·have hr':¬((r.length:Int)=0):=by omega
   have hrn:¬r=[]:=λz=>hr (by rw[z];rfl)
   have hd0:QaZ (r::rest)=(r::rest).all (YN (r::rest).length r.length):=by simp[QaZ,hr]
   have loop:=QeC (t:=gSet 3) (ds:=(r::rest).map D.tup) (σ:=[some (.tup ((r::rest).map .tup)),some (.int (r::rest).length),some (.int r.length),none]) (g:=g) (body:=Zo)
    (λi σ g1=>Keeps [] g g1/\(∃u,σ=[some (.tup ((r::rest).map .tup)),some (.int (r::rest).length),some (.int r.length),u])/\∀x∈(r::rest).take i,YN (r::rest).length r.length x=true)
    (λo=>∃σ' g1,o=.raise (1,none) σ' g1/\Keeps [] g g1/\∃x∈r::rest,YN (r::rest).length r.length x=false) ⟨.refl,⟨none,rfl⟩,by simp⟩ (λi d σ g1 hd hQ=>by
     obtain⟨k,⟨u,hσ⟩,hg⟩:=hQ
     rw[Uy]at hd
     cases hx:(r::rest)[i]? with
     |none=>rw[hx]at hd;cases hd
     |some ts =>
      rw[hx]at hd
      cases hd
      have hm:ts∈r::rest:=U4 hx
      subst hσ
      refine⟨_,rfl,?_⟩
      obtain⟨g2,k2,e2⟩:=Qj5 (r::rest).length r.length ts (.tup ((r::rest).map .tup)) g1 (hz ts hm) λd hd=>(h ts hm d hd).mono k
      simp only[List.set]
      rw[e2]
      cases ha:YN (r::rest).length r.length ts with
      |true =>
       left
       refine⟨_,g2,by rw[Ue rfl],k.trans k2,⟨_,rfl⟩,λx hx'=>?_⟩
       rw[List.take_succ,hx]at hx'
       rcases UB.mp hx' with z|z
       ·exact hg x z
       ·have:x=ts:=by simpa using z
        rw[this];exact ha
      |false =>
       right
       rw[Uh Uf]
       exact⟨trivial,_,g2,rfl,k.trans k2,ts,hm,ha⟩)
   have fin:ZX [some (.tup ((r::rest).map .tup)),none,none,none] g=forL ⟨λ_ i=>some ((r::rest).map D.tup)[i]?,((r::rest).map D.tup).length⟩ (gSet 3) Zo (((r::rest).map D.tup).length+1) 0 [some (.tup ((r::rest).map .tup)),some (.int (r::rest).length),some (.int r.length),none] g:=by
    simp[ZX,mSeq,mIf,Qj,mOp2,mOp1,mVar,mLit,Res.bind,pLen,eq_int,e0,QA,mAsg,gSet,pIx,atD,ixD,e1,hr',hrn,mFor,QN,QcU]
   have ap:ZY [.tup ((r::rest).map .tup)] g=match ZX [some (.tup ((r::rest).map .tup)),none,none,none] g with
    |.nx _ g'=>.ok .non g'
    |.rt d g'=>.ok d g'
    |.raise e _ g'=>.raise e g'
    |_=>.stuck:=rfl
   rw[ap,fin]
   rcases loop with⟨σ',g',h1,k1,_,h2⟩|⟨_,σ',g',h1,k1,x,hx,hg⟩
   ·refine⟨g',k1,?_⟩
    have:QaZ (r::rest)=true:=by
     rw[hd0,UE]
     intro x hx
     exact h2 x (by rw[Uc,TU];exact hx)
    rw[Ue this,h1]
   ·refine⟨g',k1,?_⟩
    have:¬QaZ (r::rest)=true:=by
     rw[hd0,UE]
     intro z
     rw[z x hx]at hg;cases hg
    rw[Uh this,h1]
theorem Keeps.seq{g g1:G}(k:Keeps [] g g1){d:D}{p:Bool×List D}(h:QK g d=some p):QK g1 d=some p:=by
 cases d with
 |ref n =>
  unfold QK at h ⊢
  dsimp only at h ⊢
  cases hg:g[n]? with
  |none=>rw[hg]at h;cases h
  |some o=>rw[hg]at h;rw[k.at' n o (by simp) hg];exact h
 |_=>exact h
theorem Qce{g:G}{d:D}{b:Bool}{ds:List D}(h:QK g d=some (b,ds)):∃src,QcU d g=.ok src g/\src.top=ds.length/\∀g1 i,QK g1 d=some (b,ds)->src.at' g1 i=some ds[i]?:=by
 cases d with
 |tup es=>cases h;exact⟨_,rfl,rfl,λ_ _ _=>rfl⟩
 |fl es=>cases h;exact⟨_,rfl,rfl,λ_ _ _=>rfl⟩
 |ref n =>
  unfold QK at h
  dsimp only at h
  cases hg:g[n]? with
  |none=>rw[hg]at h;cases h
  |some o =>
   rw[hg]at h
   cases o with
   |lst es =>
    cases h
    refine⟨_,by unfold QcU;dsimp only;rw[hg],rfl,λg1 i h1=>?_⟩
    unfold QK at h1
    dsimp only at h1 ⊢
    cases hg1:g1[n]? with
    |none=>rw[hg1]at h1;cases h1
    |some o1 =>
     rw[hg1]at h1
     cases o1 with
     |lst es1=>cases h1;rfl
     |_=>cases h1
   |_=>cases h
 |_=>cases h
theorem QdH{src:Src}{ds:List D}{e:ME}{no:Nat}{σ:S3}{g:G}{f:D->D}(ht:src.top=ds.length)(hs:∀g1 i,Keeps [] g g1->src.at' g1 i=some ds[i]?)(he:∀d∈ds,∀g1,Keeps [] g g1->∃g2,e ((List.replicate (no+1) none++σ).set 0 (some d)) g1=.ok (f d) g2/\Keeps [] g1 g2):
  ∃g',Y7 src (gSet 0) ZS e (src.top+1) 0 (List.replicate (no+1) none++σ) g []=.ok (ds.map f) g'/\Keeps [] g g':=by
 obtain⟨xs,σ',g',h1,h2,h3,h4⟩:=Yd (src:=src) (t:=gSet 0) (c:=ZS) (e:=e) (n:=ds.length)
  (λi σ' g1 acc=>acc=(ds.take i).map f/\Keeps [] g g1/\∃u,σ'=(List.replicate (no+1) none++σ).set 0 u) (λi σ' g1 acc hi h=>by
   obtain⟨h1,h2,u,h3⟩:=h
   obtain⟨g2,k1,k2⟩:=he ds[i] (UX hi) g1 h2
   refine⟨ds[i],_,g1,by rw[hs g1 i h2];simp[hi],rfl,.inl ⟨f ds[i],g2,rfl,?_,?_,h2.trans k2,some ds[i],?_⟩⟩
   ·subst h3;rw[Wr];exact k1
   ·rw[h1,UR hi,US];rfl
   ·subst h3;rw[Wr]) (λσ g1 acc h=>by rw[hs g1 _ h.2.1];simp) (src.top+1) 0 (List.replicate (no+1) none++σ) g [] (by omega) (by omega) ⟨by simp,.refl,none,by simp[Uw]⟩
 refine⟨g',?_,h3⟩
 rw[h1,h2,TU]
def rowsOf(g:G)(d:D)(rows:List (List D)):Prop:=∃b ds,QK g d=some (b,ds)/\ds.length=rows.length/\∀(i:Nat) x r,ds[i]?=some x->rows[i]?=some r->∃c,QK g x=some (c,r)
theorem rowsOf.mono{g g1:G}{d:D}{rows:List (List D)}(k:Keeps [] g g1)(h:rowsOf g d rows):rowsOf g1 d rows:=by
 obtain⟨b,ds,h1,h2,h3⟩:=h
 exact⟨b,ds,k.seq h1,h2,λi x r hx hr=>let ⟨c,q⟩:=h3 i x r hx hr;⟨c,k.seq q⟩⟩
theorem Qcf{g:G}{d:D}{b:Bool}{ds:List D}(h:QK g d=some (b,ds)):Zq d g=.ok (.tup ds) g:=by
 cases d with
 |tup es=>cases h;rfl
 |fl es=>cases h;rfl
 |ref n =>
  unfold QK at h
  dsimp only at h
  cases hg:g[n]? with
  |none=>rw[hg]at h;cases h
  |some o =>
   rw[hg]at h
   cases o with
   |lst es=>cases h;simp[Zq,hg]
   |_=>cases h
 |_=>cases h
noncomputable def JL(rows:List (List D)):GO:=.ins 11 [(Str.ofString "table",.tup (rows.map .tup))]
theorem QlI(m:Nat)(d:D)(rows:List (List D))(g:G)(hm:g[m]?=some (.ins 11 []))(hr:rowsOf g d rows)(hz:∀r∈rows,r.length<=SZ)(hl:rows.length<=SZ)(h:∀r∈rows,∀d∈r,thingD g d):
  ∃g',Keeps [] g g'/\ZP [.ref m,d] g=if QaZ rows=true then .ok .non (g'.set m (JL rows)) else .raise (1,none) g':=by
 obtain⟨b,ds,h1,h2,h3⟩:=hr
 obtain⟨src,s1,s2,s3⟩:=Qce h1
 have mp:∀x∈ds,∃c r,QK g x=some (c,r):=λx hx=>by
  obtain⟨i,hi,rfl⟩:=List.getElem_of_mem hx
  obtain⟨c,q⟩:=h3 i ds[i] (rows[i]'(by omega)) (by simp[hi]) (by simp[show i<rows.length by omega])
  exact⟨c,_,q⟩
 obtain⟨g1,c1,k1⟩:=QdH (src:=src) (ds:=ds) (e:=mOp1 Zq (mVar 0)) (no:=0) (σ:=[]) (g:=g) (f:=λx=>.tup (((QK g x).map (·.2)).getD [])) s2 (λg1 i k=>s3 g1 i (k.seq h1)) (λx hx g1 k=>by
  obtain⟨c,r,q⟩:=mp x hx
  refine⟨g1,?_,.refl⟩
  simp[mOp1,mVar,Res.bind,Qcf (k.seq q),q])
 have em:(ds.map λx=>D.tup (((QK g x).map (·.2)).getD []))=rows.map .tup:=by
  apply List.ext_getElem
  ·simp[h2]
  ·intro i hi hi'
   simp only[Uc]at hi hi'
   obtain⟨c,q⟩:=h3 i ds[i] rows[i] (by simp[hi]) (by simp[hi'])
   simp[q]
 rw[em]at c1
 have c1:Y7 src (gSet 0) ZS (mOp1 Zq (mVar 0)) (src.top+1) 0 [none] g []=.ok (rows.map .tup) g1:=c1
 have k2:Keeps [] g (g1++[.lst (rows.map .tup)]):=k1.trans (.push _)
 obtain⟨g3,k3,c3⟩:=QdG rows (g1++[.lst (rows.map .tup)]) hz λr hr d hd=>(h r hr d hd).mono k2
 refine⟨g3,k2.trans k3,?_⟩
 have hz2:src.top<=SZ:=by omega
 have hm3:=(k2.trans k3).at' m _ (by simp) hm
 simp[ZP,mDef,Qax,mSeq,mAsg,mOp1,Yf,QN,mVar,Res.bind,s1,hz2,capt,c1,Zq,gSet,Z7,Ql,Qb,mNil,c3]
 by_cases hg:QaZ rows=true
 ·simp[hg,QbF,mVar,hm3,putG,JL]
 ·simp[hg]
theorem QlJ(d:D)(rows:List (List D))(g:G)(hr:rowsOf g d rows)(hz:∀r∈rows,r.length<=SZ)(hl:rows.length<=SZ)(h:∀r∈rows,∀d∈r,thingD g d)(a:MA)(σ:S3)(g0:G)(ha:a σ g0=.ok [d] g):
  ∃g',Keeps [] g g'/\QhC 11 ZP a σ g0=(if QaZ rows=true then .ok (.ref g.length) g' else .raise (1,none) g')/\(QaZ rows=true->g'[g.length]?=some (JL rows)):=by
 have kp:Keeps [] g (g++[.ins 11 []]):=.push _
 obtain⟨g',k',e'⟩:=QlI g.length d rows (g++[.ins 11 []]) (Qw _) (hr.mono kp) hz hl λr hr d hd=>(h r hr d hd).mono kp
 by_cases hg:QaZ rows=true
 ·rw[Ue hg]at e'
  refine⟨g'.set g.length (JL rows),?_,?_,λ_=>?_⟩
  ·refine⟨by rw[UN];exact Ur kp.len k'.len,λn o _ e=>?_⟩
   have hn:n<g.length:=Zw e
   rw[Uo (by omega)]
   exact(kp.trans k').at' n o (by simp) e
  ·simp[QhC,ha,Res.bind,e',hg]
  ·rw[U0]
   have:=k'.len
   simp at this
   omega
 ·rw[Uh hg]at e'
  exact⟨g',kp.trans k',by simp[QhC,ha,Res.bind,e',hg],λz=>absurd z hg⟩
theorem YO{a b:MS}{σ σ':S3}{g g':G}(h:a σ g=.nx σ' g'):mSeq a b σ g=b σ' g':=by unfold mSeq;rw[h]
theorem Qc4{a b:MS}{σ:S3}{d:D}{g g':G}(h:a σ g=.rt d g'):mSeq a b σ g=.rt d g':=by unfold mSeq;rw[h]
theorem Zx{i:Nat}{a:ME}{σ:S3}{d:D}{g g':G}(h:a σ g=.ok d g'):mAsg (gSet i) a σ g=.nx (σ.set i (some d)) g':=by unfold mAsg;rw[h];rfl
theorem QdI{c:MT}{a b:MS}{σ:S3}{g g':G}(h:c σ g=.ok true g'):mIf c a b σ g=a σ g':=by unfold mIf;rw[h];rfl
theorem QeD{c:MT}{a b:MS}{σ:S3}{g g':G}(h:c σ g=.ok false g'):mIf c a b σ g=b σ g':=by unfold mIf;rw[h];rfl
theorem Zh{f:MF}{a:MA}{σ:S3}{ds:List D}{g g':G}(h:a σ g=.ok ds g'):Ql f a σ g=f ds g':=by unfold Ql;rw[h];rfl
theorem Qbh{a:ME}{σ:S3}{d:D}{g g':G}(h:a σ g=.ok d g'):Z7 a σ g=.nx σ g':=by unfold Z7;rw[h]
theorem JH{a:ME}{σ:S3}{d:D}{g g':G}(h:a σ g=.ok d g'):mRet a σ g=.rt d g':=by unfold mRet;rw[h]
theorem ZD{k n:Nat}{b:MS}{ds:List D}{d:D}{g g':G}(hl:ds.length=k)(h:b (ds.map some++List.replicate n none) g=.rt d g'):mDef k n b ds g=.ok d g':=by unfold mDef;rw[Ue hl,h]
theorem Qnk(ns:List Int)(i:Int)(h:0<ns.length):∃x,atD (ns.map D.int) (i%ns.length)=some (.int x):=by
 have h1:0<=i % (ns.length:Int):=UT _ (by omega)
 have h2:i % (ns.length:Int)<ns.length:=UL _ (by omega)
 have h3:(i % (ns.length:Int)).toNat<ns.length:=by omega
 refine⟨ns[(i % (ns.length:Int)).toNat],?_⟩
 unfold atD ixD
 rw[Uc,Ue h1,Ue h2]
 simp[h3]
theorem ix0{a:Nat}{d:D}{g:G}(h:g[a]?=some (.lst [d])):pIx (.ref a) (.int 0) g=.ok d g:=by
 unfold pIx;dsimp only;rw[h];rfl
theorem ixfl{ds:List D}{i:Int}{d:D}{g:G}(h:atD ds i=some d):pIx (.fl ds) (.int i) g=.ok d g:=by
 unfold pIx;dsimp only;rw[h]
theorem Qio(c:Int)(x:D)(a:Nat)(k:Int)(g:G)(ga:g[a]?=some (.lst [.int k]))(hk:0<=k)(hk2:k<1000000001):∃m,0<=m/\m<1999999973/\(mSeq (mAsg (gSet 3) (mOp2 pMod (mOp2 pMul (mOp2 pAdd (mOp2 pAdd (mOp2 pMod (mVar 2) (mLit (.int 2147483647))) (mOp2 pMul (mOp2 pMul (mOp2 pIx (mVar 1) (mLit (.int 0))) (mOp2 pIx (mVar 1) (mLit (.int 0)))) (mLit (.int 7919)))) (mLit (.int 11))) (mLit (.int 48271))) (mLit (.int 2147483647))))
      (mRet (mOp2 pMod (mOp2 pMul (mVar 3) (mVar 3)) (mLit (.int 1999999973))))) [some x,some (.ref a),some (.int c),none] g=.rt (.int m) g:=by
  have c1:cM k:=⟨by omega,by omega⟩
  have c2:cM 7919:=⟨by decide,by decide⟩
  have c3:cM 48271:=⟨by decide,by decide⟩
  have hr:=UL ((c%2147483647+k*k*7919+11)*48271) (show(0:Int)<2147483647 by decide)
  have hr0:=UT ((c%2147483647+k*k*7919+11)*48271) (show(2147483647:Int)≠0 by decide)
  have c4:cM (((c%2147483647+k*k*7919+11)*48271) % 2147483647):=⟨by omega,by omega⟩
  refine⟨((c%2147483647+k*k*7919+11)*48271) % 2147483647*(((c%2147483647+k*k*7919+11)*48271) % 2147483647) % 1999999973,UT _ (by decide),UL _ (by decide),?_⟩
  have e1:(mOp2 pMod (mOp2 pMul (mOp2 pAdd (mOp2 pAdd (mOp2 pMod (mVar 2) (mLit (.int 2147483647))) (mOp2 pMul (mOp2 pMul (mOp2 pIx (mVar 1) (mLit (.int 0))) (mOp2 pIx (mVar 1) (mLit (.int 0)))) (mLit (.int 7919)))) (mLit (.int 11))) (mLit (.int 48271))) (mLit (.int 2147483647))) [some x,some (.ref a),some (.int c),none] g=.ok (.int (((c%2147483647+k*k*7919+11)*48271) % 2147483647)) g:=by
    simp[mOp2,mVar,mLit,Res.bind,ix0 ga,pMod,pMul,pAdd,c1,c2,c3]
  rw[YO (Zx e1)]
  generalize ((c%2147483647+k*k*7919+11)*48271) % 2147483647=r at c4 ⊢
  refine JH ?_
  simp[mOp2,mVar,mLit,Res.bind,pMod,pMul,c4]
theorem QaH(ns:List Int)(a:Nat)(k:Int)(g:G)(hg:g[a]?=some (.lst [.int k]))(hk:0<=k)(hk2:k<1000000000):
  ∃m,0<=m/\m<1999999973/\ZR [.fl (ns.map .int),.ref a] g=.ok (.int m) (g.set a (.lst [.int (k+1)])):=by
 have s1:YJ (mVar 1) (mLit (.int 0)) (mOp2 pAdd (mOp2 pIx (mVar 1) (mLit (.int 0))) (mLit (.int 1))) [some (.fl (ns.map .int)),some (.ref a),none,none] g=.nx [some (.fl (ns.map .int)),some (.ref a),none,none] (g.set a (.lst [.int (k+1)])):=by
  simp[YJ,mOp2,mVar,mLit,Res.bind,ix0 hg,pAdd,hg,ixD]
 have ga:(g.set a (.lst [.int (k+1)]))[a]?=some (.lst [.int (k+1)]):=Q9 hg
 generalize g.set a (.lst [.int (k+1)])=g1 at s1 ga ⊢
 have s2:mAsg (gSet 2) (mLit (.int 0)) [some (.fl (ns.map .int)),some (.ref a),none,none] g1=.nx [some (.fl (ns.map .int)),some (.ref a),some (.int 0),none] g1:=rfl
 have s3:∃c,mIf (Qj (mOp2 pGt (mOp1 pLen (mVar 0)) (mLit (.int 0)))) (mAsg (gSet 2) (mOp2 pIx (mVar 0) (mOp2 pMod (mOp2 pIx (mVar 1) (mLit (.int 0))) (mOp1 pLen (mVar 0))))) QA [some (.fl (ns.map .int)),some (.ref a),some (.int 0),none] g1=.nx [some (.fl (ns.map .int)),some (.ref a),some (.int c),none] g1:=by
  by_cases hl:0<ns.length
  ·obtain⟨x,hx⟩:=Qnk ns (k+1) hl
   have hl':(0:Int)<(ns.length:Int):=by omega
   refine⟨x,?_⟩
   rw[QdI (g':=g1) (by simp[Qj,mOp2,mOp1,mVar,mLit,Res.bind,pLen,pGt,pCmp,hl])]
   refine Zx ?_
   simp only[mOp2,mOp1,mVar,mLit,Res.bind,Re,Rf,ix0 ga,pLen,pMod,Uc,hl',TX,ixfl hx]
  ·cases ns with
   |nil=>exact⟨0,rfl⟩
   |cons x r=>simp at hl
 obtain⟨c,s3⟩:=s3
 obtain⟨m,m1,m2,m3⟩:=Qio c (.fl (ns.map .int)) a (k+1) g1 ga (by omega) (by omega)
 refine⟨m,m1,m2,ZD rfl ?_⟩
 show QdA [some (.fl (ns.map .int)),some (.ref a),none,none] g=_
 unfold QdA
 rw[YO s1,YO s2,YO s3,m3]
def entOk(d:D)(n m:Nat):Prop:=d=.non\/∃(i j:Int)(w:Str),d=.tup [.int i,.str w,.int j]/\0<=i/\i<m/\0<=j/\j<n/\(w=⟨#[108]⟩\/w=⟨#[114]⟩)
theorem entOk.ent{d:D}{n m:Nat}(h:entOk d n m):entD d n m=true:=by
 rcases h with rfl|⟨i,j,w,rfl,h1,h2,h3,h4,h5⟩
 ·rfl
 ·rcases h5 with rfl|rfl <;> simp[entD,Jj,wayD,h1,h2,h3,h4]
theorem entOk.thing{d:D}{n m:Nat}{g:G}(h:entOk d n m):thingD g d:=by
 rcases h with h|⟨i,j,w,h,_⟩
 ·exact .inl h
 ·exact .inr ⟨i,j,w,h⟩
theorem s_lr:Str.ofString "lr" = ⟨#[108,114]⟩:=by decide +kernel
theorem Qn8(i:Int)(g:G):∃w,pIx (.str "lr") (.int (i%2)) g=.ok (.str w) g/\(w=⟨#[108]⟩\/w=⟨#[114]⟩):=by
 rw[s_lr]
 rcases(by omega:i%2=0\/i%2=1) with e|e
 ·rw[e];exact⟨_,rfl,.inl rfl⟩
 ·rw[e];exact⟨_,rfl,.inr rfl⟩
theorem Qcg{n:Nat}{ds:List D}{y:D}{σ:S3}{g:G}{i j:Nat}(hi:σ[i]?=some (some (.ref n)))(hj:σ[j]?=some (some y))(h:g[n]?=some (.lst ds))(hz:ds.length<SZ):
  Z7 (Yg (mVar i) (mVar j)) σ g=.nx σ (g.set n (.lst (ds++[y]))):=by
 refine Qbh (d:=.non) ?_
 simp[Yg,mVar,hi,hj,Res.bind,h,hz]
theorem Qip(ns:List Int)(a l t:Nat)(k:Int)(n m:Nat)(x5 x7 x8 x9:Option D)(row:List D)(g:G)(hn:0<n)(hm:0<m)(ga:g[a]?=some (.lst [.int k]))(gl:g[l]?=some (.lst row))(hal:a≠l)(hk:0<=k)(hk2:k<1000000000)(hz:row.length<SZ):
  ∃d x8',entOk d n m/\ZC [some (.fl (ns.map .int)),some (.ref a),some (.int n),some (.int m),some (.ref t),x5,some (.ref l),x7,x8,x9] g=.nx [some (.fl (ns.map .int)),some (.ref a),some (.int n),some (.int m),some (.ref t),x5,some (.ref l),x7,x8',some d] ((g.set a (.lst [.int (k+1)])).set l (.lst (row++[d]))):=by
 obtain⟨mm,m1,m2,e⟩:=QaH ns a k g ga hk hk2
 have gl1:(g.set a (.lst [.int (k+1)]))[l]?=some (.lst row):=by rw[Uo hal];exact gl
 generalize g.set a (.lst [.int (k+1)])=g1 at e gl1 ⊢
 obtain⟨w,hw,ww⟩:=Qn8 (mm/100) g1
 have hm':(0:Int)<m:=by omega
 have hn':(0:Int)<n:=by omega
 have s1:mAsg (gSet 8) (Ql ZR (Qb (mVar 0) (Qb (mVar 1) mNil))) [some (.fl (ns.map .int)),some (.ref a),some (.int n),some (.int m),some (.ref t),x5,some (.ref l),x7,x8,x9] g=.nx [some (.fl (ns.map .int)),some (.ref a),some (.int n),some (.int m),some (.ref t),x5,some (.ref l),x7,some (.int mm),x9] g1 :=
  Zx (by rw[Zh (ds:=[.fl (ns.map .int),.ref a]) (g':=g) rfl];exact e)
 have v2:(mOpA pTup (Qb (mOp2 pMod (mOp2 Q5 (mVar 8) (mLit (.int 9))) (mVar 3)) (Qb (mOp2 pIx (mLit (.str "lr")) (mOp2 pMod (mOp2 Q5 (mVar 8) (mLit (.int 100))) (mLit (.int 2)))) (Qb (mOp2 pMod (mOp2 Q5 (mVar 8) (mLit (.int 300))) (mVar 2)) mNil)))) [some (.fl (ns.map .int)),some (.ref a),some (.int n),some (.int m),some (.ref t),x5,some (.ref l),x7,some (.int mm),x9] g1=.ok (.tup [.int (mm/9%m),.str w,.int (mm/300%n)]) g1:=by
  simp[mOpA,Qb,mNil,mOp2,mVar,mLit,Res.bind,Q5,pMod,hm',hn',hw,pTup,SZ,hm,hn]
 have s2:mAsg (gSet 9) (mOpA pTup (Qb (mOp2 pMod (mOp2 Q5 (mVar 8) (mLit (.int 9))) (mVar 3)) (Qb (mOp2 pIx (mLit (.str "lr")) (mOp2 pMod (mOp2 Q5 (mVar 8) (mLit (.int 100))) (mLit (.int 2)))) (Qb (mOp2 pMod (mOp2 Q5 (mVar 8) (mLit (.int 300))) (mVar 2)) mNil)))) [some (.fl (ns.map .int)),some (.ref a),some (.int n),some (.int m),some (.ref t),x5,some (.ref l),x7,some (.int mm),x9] g1=.nx [some (.fl (ns.map .int)),some (.ref a),some (.int n),some (.int m),some (.ref t),x5,some (.ref l),x7,some (.int mm),some (.tup [.int (mm/9%m),.str w,.int (mm/300%n)])] g1:=Zx v2
 have t3:Qj (mOp2 pEq (mOp2 pMod (mVar 8) (mLit (.int 9))) (mLit (.int 0))) [some (.fl (ns.map .int)),some (.ref a),some (.int n),some (.int m),some (.ref t),x5,some (.ref l),x7,some (.int mm),some (.tup [.int (mm/9%m),.str w,.int (mm/300%n)])] g1=.ok (mm%9 == 0) g1:=by
  simp[Qj,mOp2,mVar,mLit,Res.bind,pMod,eq_int]
 unfold ZC
 by_cases h9:mm%9=0
 ·refine⟨.non,some (.int mm),.inl rfl,?_⟩
  rw[YO s1,YO s2,YO (σ':=[some (.fl (ns.map .int)),some (.ref a),some (.int n),some (.int m),some (.ref t),x5,some (.ref l),x7,some (.int mm),some .non]) (g':=g1) ?_]
  ·exact Qcg rfl rfl gl1 hz
  ·rw[QdI (g':=g1) (t3.trans (by simp[h9]))];rfl
 ·refine⟨.tup [.int (mm/9%m),.str w,.int (mm/300%n)],some (.int mm),.inr ⟨_,_,w,rfl,UT _ (by omega),UL _ hm',UT _ (by omega),UL _ hn',ww⟩,?_⟩
  rw[YO s1,YO s2,YO (σ':=[some (.fl (ns.map .int)),some (.ref a),some (.int n),some (.int m),some (.ref t),x5,some (.ref l),x7,some (.int mm),some (.tup [.int (mm/9%m),.str w,.int (mm/300%n)])]) (g':=g1) ?_]
  ·exact Qcg rfl rfl gl1 hz
  ·rw[QeD (g':=g1) (t3.trans (by simp[h9]))];rfl
theorem QgT{n:Nat}(h:n<=1000):n<SZ:=Nat.lt_of_le_of_lt h (by decide)
theorem Qa0{n:Nat}(h:n<=1000):inR (n:Int):=by
 have:(n:Int)<=1000:=by exact_mod_cast h
 constructor <;> omega
theorem ZQ{a:ME}{n:Nat}{σ:S3}{g g':G}(h:a σ g=.ok (.int n) g')(hr:inR (n:Int)):QO a σ g=.ok (Q1 0 n) g':=by
 unfold QO;rw[h,Res.bind_ok];dsimp only;rw[Ue hr,TH]
theorem Y4{it:MI}{t:MG}{body:MS}{src:Src}{σ:S3}{g g':G}(h:it σ g=.ok src g'):mFor it t body σ g=forL src t body (src.top+1) 0 σ g':=by
 unfold mFor;rw[h]
theorem Qj6(ns:List Int)(a l t:Nat)(k:Int)(n m:Nat)(x5 x7 x8 x9:Option D)(g:G)(hn:0<n)(hm:0<m)(hm8:m<=8)(ga:g[a]?=some (.lst [.int k]))(gl:g[l]?=some (.lst []))(hal:a≠l)(hk:0<=k)(hk2:k+m<1000000000):
  ∃row y7 y8 y9 g',mFor (QO (mVar 3)) (gSet 7) ZC [some (.fl (ns.map .int)),some (.ref a),some (.int n),some (.int m),some (.ref t),x5,some (.ref l),x7,x8,x9] g=.nx [some (.fl (ns.map .int)),some (.ref a),some (.int n),some (.int m),some (.ref t),x5,some (.ref l),y7,y8,y9] g' /\
   row.length=m/\(∀d∈row,entOk d n m)/\Keeps [a,l] g g'/\g'[a]?=some (.lst [.int (k+m)])/\g'[l]?=some (.lst row):=by
 have hr:inR (m:Int):=Qa0 (by omega)
 have hf:mFor (QO (mVar 3)) (gSet 7) ZC [some (.fl (ns.map .int)),some (.ref a),some (.int n),some (.int m),some (.ref t),x5,some (.ref l),x7,x8,x9] g=forL (Q1 0 m) (gSet 7) ZC (m+1) 0 [some (.fl (ns.map .int)),some (.ref a),some (.int n),some (.int m),some (.ref t),x5,some (.ref l),x7,x8,x9] g:=Y4 (ZQ rfl hr)
 rw[hf]
 obtain⟨σ',g',e,row,y7,y8,y9,h1,h2,h3,h4,h5,h6⟩:=Yt (t:=gSet 7) (body:=ZC) (lo:=0) (n:=m) (σ:=[some (.fl (ns.map .int)),some (.ref a),some (.int n),some (.int m),some (.ref t),x5,some (.ref l),x7,x8,x9]) (g:=g)
  (λi σ g1=>∃row y7 y8 y9,σ=[some (.fl (ns.map .int)),some (.ref a),some (.int n),some (.int m),some (.ref t),x5,some (.ref l),y7,y8,y9]/\row.length=i/\(∀d∈row,entOk d n m)/\Keeps [a,l] g g1/\g1[a]?=some (.lst [.int (k+i)])/\g1[l]?=some (.lst row))
  ⟨[],x7,x8,x9,rfl,rfl,by simp,.refl,by simpa using ga,gl⟩ (λi σ g1 hi ⟨row,y7,y8,y9,h1,h2,h3,h4,h5,h6⟩=>by
   subst h1
   obtain⟨d,x8',hd,e⟩:=Qip ns a l t (k+i) n m x5 (some (.int (0+i))) y8 y9 row g1 hn hm h5 h6 hal (by omega) (by omega) (QgT (by omega))
   refine⟨_,_,_,rfl,e,row++[d],_,x8',_,rfl,by simp[h2],?_,?_,?_,?_⟩
   ·intro x hx
    rcases UB.mp hx with z|z
    ·exact h3 x z
    ·rw[Up.mp z];exact hd
   ·exact h4.trans (((Keeps.set a _).mono (by simp)).trans ((Keeps.set l _).mono (by simp)))
   ·rw[Uo (Ne.symm hal),Q9 h5]
    simp;omega
   ·refine Q9 (o:=.lst row) ?_
    rw[Uo hal];exact h6)
 exact⟨row,y7,y8,y9,g',by rw[e,h1],h2,h3,h4,h5,h6⟩
theorem om1{a b c:Nat}(h1:a<b)(h2:b<c):a≠c:=by omega
theorem om2{k x:Int}(h1:0<=k)(h2:0<=x):0<=k+x:=by omega
theorem om3{k x:Int}{m:Nat}(h1:k<900000000)(h2:x<=96)(h3:m<=8):k+x+m<1000000000:=by omega
theorem om7{a b c:Nat}{ds:List D}(h2:ds.length=a)(hi:a<b)(h3:b<=12):ds.length<=1000:=by omega
def tabOf(N:Nat)(g:G)(t:Nat)(rows:List (List D)):Prop:=N<=t/\∃ds,g[t]?=some (.lst ds)/\ds.length=rows.length/\∀(i:Nat) x r,ds[i]?=some x->rows[i]?=some r->∃n,x=.ref n/\N<=n/\n≠t/\g[n]?=some (.lst r)
theorem tabOf.rows{N:Nat}{g:G}{t:Nat}{rows:List (List D)}(h:tabOf N g t rows):rowsOf g (.ref t) rows:=by
 obtain⟨_,ds,h1,h2,h3⟩:=h
 refine⟨true,ds,by simp[QK,h1],h2,λi x r hx hr=>?_⟩
 obtain⟨n,rfl,_,_,h4⟩:=h3 i x r hx hr
 exact⟨true,by simp[QK,h4]⟩
theorem tabOf.mono{N:Nat}{S:List Nat}{g g1:G}{t:Nat}{rows:List (List D)}(h:tabOf N g t rows)(k:Keeps S g g1)(hS:∀n∈S,n<N):tabOf N g1 t rows:=by
 obtain⟨h0,ds,h1,h2,h3⟩:=h
 refine⟨h0,ds,k.at' t _ (λz=>by have:=hS t z;omega) h1,h2,λi x r hx hr=>?_⟩
 obtain⟨n,h4,h5,h6,h7⟩:=h3 i x r hx hr
 exact⟨n,h4,h5,h6,k.at' n _ (λz=>by have:=hS n z;omega) h7⟩
theorem Qj7(ns:List Int)(a:Nat)(k:Int)(n m:Nat)(g:G)(hn:0<n)(hm:0<m)(hn12:n<=12)(hm8:m<=8)(ga:g[a]?=some (.lst [.int k]))(hk:0<=k)(hk2:k<900000000):
  ∃rows g',Qb8 [.fl (ns.map .int),.ref a,.int n,.int m] g=.ok (.ref g.length) g'/\Keeps [a] g g'/\g'[a]?=some (.lst [.int (k+n*m)])/\tabOf g.length g' g.length rows/\rows.length=n/\(∀r∈rows,r.length=m)/\∀r∈rows,∀d∈r,entOk d n m:=by
 have hr:inR (n:Int):=Qa0 (by omega)
 have hal:a<g.length:=Zw ga
 have hz0:([]:List D).length<=SZ:=by simp
 have s1:mAsg (gSet 4) (mOpA newL mNil) [some (.fl (ns.map .int)),some (.ref a),some (.int n),some (.int m),none,none,none,none,none,none] g=.nx [some (.fl (ns.map .int)),some (.ref a),some (.int n),some (.int m),some (.ref g.length),none,none,none,none,none] (g++[.lst []]) :=
  Zx (by simp[mOpA,mNil,Res.bind,newL])
 have kp:Keeps [a] g (g++[.lst []]):=.push _
 have ga1:(g++[.lst []])[a]?=some (.lst [.int k]):=(Keeps.push (S:=[]) (.lst [])).at' a _ (by simp) ga
 have gt1:(g++[.lst []])[g.length]?=some (.lst []):=Qw _
 have hl1:g.length<(g++[GO.lst []]).length:=by simp
 generalize g++[.lst []]=g1 at s1 kp ga1 gt1 hl1
 obtain⟨σ',g',e,ds,rows,y5,y6,y7,y8,y9,h1,h2,h3,h4,h5,h6,h7,h8,h9⟩:=Yt (t:=gSet 5) (body:=Y1) (lo:=0) (n:=n) (σ:=[some (.fl (ns.map .int)),some (.ref a),some (.int n),some (.int m),some (.ref g.length),none,none,none,none,none]) (g:=g1)
  (λi σ g2=>∃ds rows y5 y6 y7 y8 y9,σ=[some (.fl (ns.map .int)),some (.ref a),some (.int n),some (.int m),some (.ref g.length),y5,y6,y7,y8,y9]/\ds.length=i/\rows.length=i/\Keeps [a,g.length] g1 g2/\g2[a]?=some (.lst [.int (k+i*m)])/\g2[g.length]?=some (.lst ds) /\
   (∀(i:Nat) x r,ds[i]?=some x->rows[i]?=some r->∃n,x=.ref n/\g.length<n/\g2[n]?=some (.lst r))/\(∀r∈rows,r.length=m)/\∀r∈rows,∀d∈r,entOk d n m)
  ⟨[],[],none,none,none,none,none,rfl,rfl,rfl,.refl,by simpa using ga1,gt1,by simp,by simp,by simp⟩ (λi σ g2 hi ⟨ds,rows,y5,y6,y7,y8,y9,h1,h2,h3,h4,h5,h6,h7,h8,h9⟩=>by
   subst h1
   have hl2:g.length<g2.length:=Zw h6
   have q1:mAsg (gSet 6) (mOpA newL mNil) [some (.fl (ns.map .int)),some (.ref a),some (.int n),some (.int m),some (.ref g.length),some (.int (0+i)),y6,y7,y8,y9] g2=.nx [some (.fl (ns.map .int)),some (.ref a),some (.int n),some (.int m),some (.ref g.length),some (.int (0+i)),some (.ref g2.length),y7,y8,y9] (g2++[.lst []]) :=
    Zx (by simp[mOpA,mNil,Res.bind,newL])
   have k3:Keeps [] g2 (g2++[.lst []]):=.push _
   have gl3:(g2++[.lst []])[g2.length]?=some (.lst []):=Qw _
   generalize g2++[.lst []]=g3 at q1 k3 gl3
   have him:(i:Int)*m<=96:=by
    have:i*m<=12*8:=Rl (by omega) hm8
    exact_mod_cast this
   have him0:(0:Int)<=(i:Int)*m:=RQ (by omega) (by omega)
   obtain⟨row,z7,z8,z9,g4,e4,r1,r2,r3,r4,r5⟩:=Qj6 ns a g2.length g.length (k+i*m) n m (some (.int (0+i))) y7 y8 y9 g3 hn hm hm8 (k3.at' a _ (by simp) h5) gl3 (om1 hal hl2) (om2 hk him0) (om3 hk2 him hm8)
   have gt4:g4[g.length]?=some (.lst ds):=r3.at' _ _ (by simp;omega) (k3.at' _ _ (by simp) h6)
   refine⟨_,[some (.fl (ns.map .int)),some (.ref a),some (.int n),some (.int m),some (.ref g.length),some (.int (0+i)),some (.ref g2.length),z7,z8,z9],g4.set g.length (.lst (ds++[.ref g2.length])),rfl,?_,ds++[.ref g2.length],rows++[row],_,_,z7,z8,z9,rfl,by simp[h2],by simp[h3],?_,?_,?_,?_,?_,?_⟩
   ·show Y1 [some (.fl (ns.map .int)),some (.ref a),some (.int n),some (.int m),some (.ref g.length),some (.int (0+i)),y6,y7,y8,y9] g2=_
    unfold Y1
    rw[YO q1,YO e4]
    exact Qcg rfl rfl gt4 (QgT (om7 (c:=0) h2 hi hn12))
   ·refine⟨by rw[UN];exact Ur h4.len (Ur k3.len r3.len),λb o hb eb=>?_⟩
    have hb':b≠a/\b≠g.length:=by simpa using hb
    have e2:=h4.at' b o hb eb
    have:b<g2.length:=Zw e2
    rw[Uo (Ne.symm hb'.2)]
    exact r3.at' b o (by simp;omega) (k3.at' b o (by simp) e2)
   ·rw[Uo (by omega),r4]
    have:k+(i:Int)*m+m=k+((i+1:Nat):Int)*m:=by
     rw[Int.natCast_add,BO];simp;omega
    rw[this]
   ·exact Q9 gt4
   ·intro j x r hx hr'
    have key:∀b o,g.length<b->g2[b]?=some o->(g4.set g.length (.lst (ds++[.ref g2.length])))[b]?=some o:=λb o hb eb=>by
     have:b<g2.length:=Zw eb
     rw[Uo (by omega)]
     exact r3.at' b o (by simp;omega) (k3.at' b o (by simp) eb)
    by_cases hj:j<i
    ·rw[Ut (by omega)]at hx hr'
     obtain⟨b,hb1,hb2,hb3⟩:=h7 j x r hx hr'
     exact⟨b,hb1,hb2,key b _ hb2 hb3⟩
    ·have hji:j=i:=by
      have:=(Ud.mp hx).1
      simp at this;omega
     subst hji
     rw[Ux (by omega),h2]at hx
     rw[Ux (by omega),h3]at hr'
     simp at hx hr'
     subst hx hr'
     exact⟨g2.length,rfl,hl2,by rw[Uo (by omega)];exact r5⟩
   ·intro r hr'
    rcases UB.mp hr' with z|z
    ·exact h8 r z
    ·rw[Up.mp z];exact r1
   ·intro r hr'
    rcases UB.mp hr' with z|z
    ·exact h9 r z
    ·rw[Up.mp z];exact r2)
 refine⟨rows,g',?_,?_,h5,⟨Ui _,ds,h6,by omega,λi x r hx hr'=>?_⟩,h3,h8,h9⟩
 ·refine ZD rfl ?_
  show Qb7 [some (.fl (ns.map .int)),some (.ref a),some (.int n),some (.int m),none,none,none,none,none,none] g=_
  unfold Qb7
  rw[YO s1,YO (σ':=σ') (g':=g') ?_]
  ·subst h1;rfl
  ·rw[<-e]
   exact Y4 (ZQ rfl hr)
 ·refine⟨Ur kp.len h4.len,λb o hb eb=>?_⟩
  have:b<g.length:=Zw eb
  exact h4.at' b o (by simp at hb ⊢;omega) (kp.at' b o hb eb)
 ·obtain⟨b,hb1,hb2,hb3⟩:=h7 i x r hx hr'
  exact⟨b,hb1,by omega,by omega,hb3⟩
theorem Qk{a b:MS}{σ:S3}{g:G}{R:Out}(σ':S3)(g':G)(h:a σ g=.nx σ' g')(h2:b σ' g'=R):mSeq a b σ g=R:=(YO h).trans h2
theorem ift{c:MT}{a b:MS}{σ:S3}{g:G}{R:Out}(g':G)(h:c σ g=.ok true g')(h2:a σ g'=R):mIf c a b σ g=R:=(QdI h).trans h2
theorem iff'{c:MT}{a b:MS}{σ:S3}{g:G}{R:Out}(g':G)(h:c σ g=.ok false g')(h2:b σ g'=R):mIf c a b σ g=R:=(QeD h).trans h2
theorem QbL{i:Int}(h0:-1000000<=i)(h1:i<=1000000):cM i:=⟨by omega,by omega⟩
theorem mulL{i j:Int}{g:G}(h:cM i):pMul (.int i) (.int j) g=.ok (.int (i*j)) g:=Ue (.inl h)
theorem mulR{i j:Int}{g:G}(h:cM j):pMul (.int i) (.int j) g=.ok (.int (i*j)) g:=Ue (.inr h)
theorem modP{i j:Int}{g:G}(h:0<j):pMod (.int i) (.int j) g=.ok (.int (i%j)) g:=Ue h
theorem divP{i j:Int}{g:G}(h:0<j)(h2:j<=1000000):Q5 (.int i) (.int j) g=.ok (.int (i/j)) g:=Ue ⟨h,by omega⟩
theorem QkN{k n:Nat}{b:MS}{ds:List D}{σ:S3}{g g':G}(hl:ds.length=k)(h:b (ds.map some++List.replicate n none) g=.nx σ g'):mDef k n b ds g=.ok .non g':=by unfold mDef;rw[Ue hl,h]
theorem Qch{k n:Nat}{b:MS}{ds:List D}{x:Xc}{σ:S3}{g g':G}(hl:ds.length=k)(h:b (ds.map some++List.replicate n none) g=.raise x σ g'):mDef k n b ds g=.raise x g':=by unfold mDef;rw[Ue hl,h]
theorem Qx{f:D->D->G->Res D}{a b:ME}{σ:S3}{x y:D}{g g1 g2:G}{R:Res D}(ha:a σ g=.ok x g1)(hb:b σ g1=.ok y g2)(h:f x y g2=R):mOp2 f a b σ g=R:=by unfold mOp2;rw[ha,Res.bind_ok,hb,Res.bind_ok,h]
theorem Yx{f:D->G->Res D}{a:ME}{σ:S3}{x:D}{g g1:G}{R:Res D}(ha:a σ g=.ok x g1)(h:f x g1=R):mOp1 f a σ g=R:=by unfold mOp1;rw[ha,Res.bind_ok,h]
theorem Yj{a:ME}{σ:S3}{b:Bool}{g g1:G}(ha:a σ g=.ok (.bl b) g1):Qj a σ g=.ok b g1:=by unfold Qj;rw[ha,Res.bind_ok]
theorem QC{a:ME}{r:MA}{x:D}{xs:List D}{σ:S3}{g g1 g2:G}(h:a σ g=.ok x g1)(h2:r σ g1=.ok xs g2):Qb a r σ g=.ok (x::xs) g2:=by
 unfold Qb;rw[h,Res.bind_ok,h2];rfl
theorem Qiq{n:Nat}{ds:List D}{y:D}{σ:S3}{g:G}{o e:ME}(ho:o σ g=.ok (.ref n) g)(h:g[n]?=some (.lst ds))(he:e σ g=.ok y g)(hz:ds.length<SZ):
  Z7 (Yg o e) σ g=.nx σ (g.set n (.lst (ds++[y]))):=by
 refine Qbh (d:=.non) ?_
 simp[Yg,ho,he,Res.bind,h,hz]
theorem entOk.good{rows:List (List D)}{n m:Nat}(hn:0<n)(hm:0<m)(h1:rows.length=n)(h2:∀r∈rows,r.length=m)(h3:∀r∈rows,∀d∈r,entOk d n m):QaZ rows=true:=by
 cases rows with
 |nil=>simp at h1;omega
 |cons q rest =>
  have hq:=h2 q (UG ..)
  unfold QaZ
  rw[UD,UE]
  refine⟨by simp;intro z;rw[z]at hq;simp at hq;omega,λx hx=>?_⟩
  unfold YN
  rw[UD,UE]
  exact⟨by simp[h2 x hx,hq],λd hd=>by rw[h1,hq];exact(h3 x hx d hd).ent⟩
theorem JW{it:MI}{n:Nat}{cap:List Nat}{t:MG}{c:MT}{e:ME}{σ:S3}{g g1 g2:G}{src:Src}{ds:List D}{σ0:S3}(h1:it σ g=.ok src g1)(hz:src.top<=SZ)(hc:capt n cap σ=σ0)(h2:Y7 src t c e (src.top+1) 0 σ0 g1 []=.ok ds g2):Yf it n cap t c e σ g=.ok (.ref g2.length) (g2++[.lst ds]):=by
 simp only[Yf,h1,hz,hc,h2,TX]
theorem Qbi{M:Nat}{rows:List (List D)}{σ:S3}{g:G}{i:Nat}(hv:σ[i]?=some (some (.ref M)))(h:g[M]?=some (JL rows)):QcE [11] "table" (mVar i) σ g=.ok (.tup (rows.map .tup)) g:=by
 simp[QcE,mOp1,mVar,hv,Res.bind,h,JL]
theorem QlK{g:G}{d1 d2:D}{b1 b2:Bool}{xs ys:List D}(h1:QK g d1=some (b1,xs))(h2:QK g d2=some (b2,ys))(hl:xs.length=ys.length):
  ∃src,QfO d1 d2 g=.ok src g/\src.top=xs.length/\∀g1,QK g1 d1=some (b1,xs)->QK g1 d2=some (b2,ys)->src.at' g1 xs.length=some none/\∀(i:Nat) x y,xs[i]?=some x->ys[i]?=some y->src.at' g1 i=some (some (.tup [x,y])):=by
 unfold QfO
 rw[h1,h2]
 refine⟨_,rfl,by simp[hl],λg1 q1 q2=>⟨?_,λi x y hx hy=>?_⟩⟩
 ·dsimp only;rw[q1,q2];dsimp only;rw[U8 (Ui _)]
 ·dsimp only;rw[q1,q2];dsimp only;rw[hx,hy]
theorem Qir{a:MT}{σ:S3}{g g1:G}(h1:a σ g=.ok true g1):ZK a σ g=.ok false g1:=by unfold ZK;rw[h1];rfl
section
variable{σ:S3}{g:G}
@[simp] theorem QoN{a b:MS}:mSeq a b σ g=(match a σ g with | .nx σ' g'=>b σ' g'|o=>o):=rfl
@[simp] theorem QoO{i:Nat}{a:ME}:mAsg (gSet i) a σ g=(match a σ g with | .ok d g'=>.nx (σ.set i (some d)) g' | .raise e g'=>.raise e σ g' | .stuck=>.stuck):=rfl
@[simp] theorem Qpi{c:MT}{a b:MS}:mIf c a b σ g=(match c σ g with | .ok t g'=>if t=true then a σ g' else b σ g' | .raise e g'=>.raise e σ g' | .stuck=>.stuck):=rfl
@[simp] theorem QoP{a:ME}:mRet a σ g=(match a σ g with | .ok d g'=>.rt d g' | .raise e g'=>.raise e σ g' | .stuck=>.stuck):=rfl
@[simp] theorem Qn9{a:ME}:Z7 a σ g=(match a σ g with | .ok _ g'=>.nx σ g' | .raise e g'=>.raise e σ g' | .stuck=>.stuck):=rfl
@[simp] theorem Qoa:QnY σ g=.rt .non g:=rfl
@[simp] theorem Qob:QA σ g=.nx σ g:=rfl
@[simp] theorem Qnl{i:Nat}:mVar i σ g=(match σ[i]? with|some (some d)=>.ok d g|_=>.stuck):=rfl
@[simp] theorem QoQ{d:D}:mLit d σ g=.ok d g:=rfl
@[simp] theorem Qnm{f:D->G->Res D}{a:ME}:mOp1 f a σ g=(match a σ g with | .ok x g1=>f x g1 | .raise e g'=>.raise e g' | .stuck=>.stuck):=by unfold mOp1 Res.bind;cases a σ g <;> rfl
@[simp] theorem QoR{f:D->D->G->Res D}{a b:ME}:mOp2 f a b σ g=(match a σ g with | .ok x g1=>(match b σ g1 with | .ok y g2=>f x y g2 | .raise e g'=>.raise e g' | .stuck=>.stuck) | .raise e g'=>.raise e g' | .stuck=>.stuck):=by unfold mOp2 Res.bind;cases a σ g with|ok x g1=>dsimp only;cases b σ g1 <;> rfl|_=>rfl
@[simp] theorem QoS:mNil σ g=.ok [] g:=rfl
@[simp] theorem Qoc{a:ME}{r:MA}:Qb a r σ g=(match a σ g with | .ok x g1=>(match r σ g1 with | .ok xs g2=>.ok (x::xs) g2 | .raise e g'=>.raise e g' | .stuck=>.stuck) | .raise e g'=>.raise e g' | .stuck=>.stuck):=by unfold Qb Res.bind;cases a σ g with|ok x g1=>dsimp only;cases r σ g1 <;> rfl|_=>rfl
@[simp] theorem QoT{f:List D->G->Res D}{a:MA}:mOpA f a σ g=(match a σ g with | .ok x g1=>f x g1 | .raise e g'=>.raise e g' | .stuck=>.stuck):=by unfold mOpA Res.bind;cases a σ g <;> rfl
@[simp] theorem Qod{f:MF}{a:MA}:Ql f a σ g=(match a σ g with | .ok x g1=>f x g1 | .raise e g'=>.raise e g' | .stuck=>.stuck):=by unfold Ql Res.bind;cases a σ g <;> rfl
@[simp] theorem Qoe{a:ME}:Qj a σ g=(match a σ g with | .ok (.bl b) g1=>.ok b g1 | .raise e g'=>.raise e g'|_=>.stuck):=by unfold Qj Res.bind;cases a σ g with|ok d g1=>cases d <;> rfl|_=>rfl
@[simp] theorem Qof{a b:MT}:JK a b σ g=(match a σ g with | .ok c g1=>if c=true then b σ g1 else .ok false g1 | .raise e g'=>.raise e g' | .stuck=>.stuck):=by unfold JK Res.bind;cases a σ g <;> rfl
@[simp] theorem QoU{a b:MT}:mOrT a b σ g=(match a σ g with | .ok c g1=>if c=true then .ok true g1 else b σ g1 | .raise e g'=>.raise e g' | .stuck=>.stuck):=by unfold mOrT Res.bind;cases a σ g <;> rfl
@[simp] theorem Qog{a:MT}:ZK a σ g=(match a σ g with | .ok c g1=>.ok (!c) g1 | .raise e g'=>.raise e g' | .stuck=>.stuck):=by unfold ZK Res.bind;cases a σ g <;> rfl
@[simp] theorem QoV{c:MT}{a b:ME}:mIfE c a b σ g=(match c σ g with | .ok t g1=>if t=true then a σ g1 else b σ g1 | .raise e g'=>.raise e g' | .stuck=>.stuck):=by unfold mIfE Res.bind;cases c σ g <;> rfl
@[simp] theorem QoW{a b:ME}:mAnd a b σ g=(match a σ g with | .ok (.bl c) g1=>if c=true then b σ g1 else .ok (.bl false) g1 | .raise e g'=>.raise e g'|_=>.stuck):=by unfold mAnd Res.bind;cases a σ g with|ok d g1=>cases d <;> rfl|_=>rfl
@[simp] theorem QoX{i j:Int}:pAdd (.int i) (.int j) g=.ok (.int (i+j)) g:=rfl
@[simp] theorem QoY{i j:Int}:pSub (.int i) (.int j) g=.ok (.int (i-j)) g:=rfl
@[simp] theorem QoZ{i:Int}:pNeg (.int i) g=.ok (.int (-i)) g:=rfl
@[simp] theorem Qpj{i j:Int}:pLt (.int i) (.int j) g=.ok (.bl (decide (i<j))) g:=rfl
@[simp] theorem Qpk{i j:Int}:pLe (.int i) (.int j) g=.ok (.bl (decide (i<=j))) g:=rfl
@[simp] theorem Qpl{i j:Int}:pGt (.int i) (.int j) g=.ok (.bl (decide (j<i))) g:=rfl
@[simp] theorem Qpm{i j:Int}:pGe (.int i) (.int j) g=.ok (.bl (decide (j<=i))) g:=rfl
@[simp] theorem Qpn{i j:Int}:pEq (.int i) (.int j) g=.ok (.bl (i == j)) g:=rfl
@[simp] theorem Qpo{i j:Int}:pNe (.int i) (.int j) g=.ok (.bl (!(i == j))) g:=rfl
theorem Qis{n:Nat}{ds:List D}(h:g[n]?=some (.lst ds)):pLen (.ref n) g=.ok (.int ds.length) g:=by simp[pLen,h]
theorem ix_tup{ds:List D}{n:Nat}{d:D}(h:ds[n]?=some d):pIx (.tup ds) (.int n) g=.ok d g:=by
 obtain⟨this,e⟩:=Ud.mp h
 simp[pIx,atD,ixD,this,e]
@[simp] theorem Qo0{d:D}{ds:List D}:pIx (.tup (d::ds)) (.int 0) g=.ok d g:=ix_tup (n:=0) rfl
@[simp] theorem Qo1{c d:D}{ds:List D}:pIx (.tup (c::d::ds)) (.int 1) g=.ok d g:=ix_tup (n:=1) rfl
@[simp] theorem Qo2{b c d:D}{ds:List D}:pIx (.tup (b::c::d::ds)) (.int 2) g=.ok d g:=ix_tup (n:=2) rfl
@[simp] theorem Qo3{a b c d:D}{ds:List D}:pIx (.tup (a::b::c::d::ds)) (.int 3) g=.ok d g:=ix_tup (n:=3) rfl
end
theorem Qnn:Str.ofString "one" = ⟨#[111,110,101]⟩:=by decide +kernel
theorem QkO:Str.ofString "many" = ⟨#[109,97,110,121]⟩:=by decide +kernel
theorem Qgb:(Str.ofString "many" == Str.ofString "one")=false:=by rw[Qnn,QkO];rfl
theorem Qj8:(Str.ofString "one" == Str.ofString "many")=false:=by rw[Qnn,QkO];rfl
theorem YC(s:Str):(s == s)=true:=Rq s
inductive Tk where
 |one (s:Int)|many (w:List Int) (k:Int)
noncomputable def tkD:Tk->D
 |.one s=>.tup [.str "one",.int s]
 |.many w k=>.tup [.str "many",.tup (w.map .int),.int k]
noncomputable def TkOk:Tk->Prop
 |.one s=>0<=s
 |.many w k=>w≠[]/\(∀x∈w,0<=x)/\0<=k/\w.length<=20/\k<=12
noncomputable def ZE(c:Nat):Tk->List Int
 |.one s=>[s]
 |.many w k=>(List.replicate (c+k.toNat) w).flatten
noncomputable def Qn(c:Nat)(ts:List Tk):List Int:=ts.flatMap (ZE c)
theorem Yn(w:List Int):∀k:Nat,(List.replicate k w).flatten.length=k*w.length
 |0=>by simp
 |k+1=>by rw[Uw,UK,Um,Yn w k,Wo,Wp]
theorem QgU{c:Nat}{t:Tk}(h:TkOk t)(hc:c<=3):(ZE c t).length<=300:=by
 cases t with
 |one s=>show 1<=300;decide
 |many w k =>
  obtain⟨_,_,h3,h4,h5⟩:=h
  show(List.replicate (c+k.toNat) w).flatten.length<=300
  rw[Yn]
  exact Ur (Rl (show c+k.toNat<=15 by omega) h4) (by decide)
theorem Qak{c:Nat}(hc:c<=3):∀{ts:List Tk},(∀t∈ts,TkOk t)->(Qn c ts).length<=300*ts.length
 |[],_=>Ui _
 |t::r,h=>by
  have ih:=Qak hc (ts:=r) λx hx=>h x (Uv _ hx)
  have h1:=QgU (h t (UG ..)) hc
  unfold Qn at ih ⊢
  rw[List.flatMap_cons,Um,UI];omega
theorem JI{n:Nat}(h:n<=100000):n<SZ:=Nat.lt_of_le_of_lt h (by decide)
theorem Qit(i:Int)(g:G):Qs [.int i] g=.ok (.bl (decide (0<=i))) g:=rfl
theorem Qiu(w:List Int):allB (w.map λi=>D.bl (decide (0<=i)))=some (w.all λi=>decide (0<=i)):=by
 induction w with
 |nil=>rfl
 |cons i r ih=>show(allB (r.map λi=>D.bl (decide (0<=i)))).map (decide (0<=i) && ·)=_;rw[ih];rfl
theorem Qgc{ds:List D}{e:ME}{g:G}{F:D->D}(hz:ds.length<=100000)(he:∀d∈ds,∀g1,Keeps [] g g1->∃g2,e [some d] g1=.ok (F d) g2/\Keeps [] g1 g2){src:Src}(htop:src.top=ds.length)(hs:∀g1 i,Keeps [] g g1->src.at' g1 i=some ds[i]?):
  ∃g',Y7 src (gSet 0) ZS e (src.top+1) 0 [none] g []=.ok (ds.map F) g'/\Keeps [] g g':=by
 obtain⟨xs,σ',g',h1,h2,h3,_⟩:=Yd (src:=src) (t:=gSet 0) (c:=ZS) (e:=e) (n:=ds.length)
  (λi σ' g1 acc=>acc=(ds.take i).map F/\Keeps [] g g1/\∃u,σ'=[u]) (λi σ' g1 acc hi hQ=>by
   obtain⟨q1,q2,u,q3⟩:=hQ
   subst q3
   obtain⟨g2,k1,k2⟩:=he ds[i] (UX hi) g1 q2
   refine⟨ds[i],[some ds[i]],g1,by rw[hs g1 i q2];simp[hi],rfl,.inl ⟨F ds[i],g2,rfl,k1,?_,q2.trans k2,_,rfl⟩⟩
   rw[q1,UR hi,US];rfl) (λσ g1 acc hQ=>by rw[hs g1 _ hQ.2.1];simp) (src.top+1) 0 [none] g [] (by omega) (by omega) ⟨rfl,.refl,none,rfl⟩
 rw[TU]at h2
 subst h2
 exact⟨g',h1,h3⟩
theorem Qci{a b:ME}{σ:S3}{g g1:G}{R:Res D}(h:a σ g=.ok (.bl true) g1)(h2:b σ g1=R):mAnd a b σ g=R:=by unfold mAnd;rw[h,Res.bind_ok];exact h2
theorem Qiv{a b:ME}{σ:S3}{g g1:G}(h:a σ g=.ok (.bl false) g1):mAnd a b σ g=.ok (.bl false) g1:=by unfold mAnd;rw[h,Res.bind_ok];rfl
theorem QlL(w:List Int)(g:G)(hz:w.length<=1000):∃g',Jg [.tup (w.map .int)] g=.ok (.bl (decide (w≠[]) && w.all λi=>decide (0<=i))) g'/\Keeps [] g g':=by
 obtain⟨g1,c1,k1⟩:=Qgc (ds:=w.map D.int) (e:=Ql Qs (Qb (mVar 0) mNil)) (g:=g) (F:=λd=>match d with | .int i=>.bl (decide (0<=i))|_=>.non) (src:=⟨λ_ i=>some (w.map D.int)[i]?,(w.map D.int).length⟩) (by rw[Uc];omega) (λd hd g1 _=>by
  obtain⟨i,_,rfl⟩:=Tn.mp hd
  exact⟨g1,rfl,.refl⟩) rfl (λ_ _ _=>rfl)
 have c2:=JW (it:=QN (mVar 0)) (n:=1) (cap:=[]) (σ:=[some (.tup (w.map .int))]) (σ0:=[none]) (g:=g) rfl (by show(w.map D.int).length<=SZ;rw[Uc];exact UY (JI (by omega))) rfl c1
 rw[List.map_map]at c2
 have hall:mOp1 pAll (Yf (QN (mVar 0)) 1 [] (gSet 0) ZS (Ql Qs (Qb (mVar 0) mNil))) [some (.tup (w.map .int))] g=.ok (.bl (w.all λi=>decide (0<=i))) (g1++[.lst (w.map ((λd=>match d with | .int i=>.bl (decide (0<=i))|_=>.non) ∘ D.int))]):=Yx c2 (by
  unfold pAll
  dsimp only
  rw[Qw]
  dsimp only
  rw[show(w.map ((λd=>match d with | .int i=>D.bl (decide (0<=i))|_=>.non) ∘ D.int))=w.map λi=>D.bl (decide (0<=i)) from rfl,Qiu])
 have hl:mOp2 pGt (mOp1 pLen (mVar 0)) (mLit (.int 0)) [some (.tup (w.map .int))] g=.ok (.bl (decide ((0:Int)<((w.map D.int).length:Nat)))) g:=rfl
 rw[Uc]at hl
 have kk:Keeps [] g (g1++[.lst (w.map ((λd=>match d with | .int i=>.bl (decide (0<=i))|_=>.non) ∘ D.int))]):=k1.trans (.push _)
 generalize g1++[.lst (w.map ((λd=>match d with | .int i=>.bl (decide (0<=i))|_=>.non) ∘ D.int))]=g2 at hall kk
 by_cases hw:w=[]
 ·subst hw
  exact⟨g,rfl,.refl⟩
 ·have:0<w.length:=U7.mpr hw
  rw[Uz (by omega)]at hl
  rw[Uz hw,Bool.true_and]
  exact⟨g2,ZD rfl (JH (Qci (g1:=g) rfl (Qci hl hall))),kk⟩
def TokR(g:G)(d:D)(b:Bool):Prop:=∀g1,Keeps [] g g1->∃g2,Yi [d] g1=.ok (.bl b) g2/\Keeps [] g1 g2
theorem TokR.mono{g g':G}{d:D}{b:Bool}(h:TokR g d b)(k:Keeps [] g g'):TokR g' d b:=λg1 k1=>h g1 (k.trans k1)
theorem eq_s(s t:Str)(g:G):pEq (.str s) (.str t) g=.ok (.bl (s == t)) g:=rfl
theorem QlM(x:Str)(y:D)(b:Bool)(g:G)(h:∀g1,Qs [y] g1=.ok (.bl b) g1):TokR g (.tup [.str x,y]) ((x == Str.ofString "one") && b):=λg1 _=>by
 refine⟨g1,ZD rfl ?_,.refl⟩
 show Jh [some (.tup [.str x,y])] g1=_
 unfold Jh
 refine Qk [some (.tup [.str x,y])] g1 rfl (Qc4 (ift g1 rfl (JH ?_)))
 have e1:mOp2 pEq (mOp2 pIx (mVar 0) (mLit (.int 0))) (mLit (.str "one")) [some (.tup [.str x,y])] g1=.ok (.bl (x == Str.ofString "one")) g1:=rfl
 cases hx:(x == Str.ofString "one") with
 |true=>rw[hx]at e1;exact Qci e1 (by rw[Zh (ds:=[y]) (g':=g1) rfl];exact h g1)
 |false=>rw[hx]at e1;exact Qiv e1
theorem Qj9(x:Str)(v:D)(k:Int)(b:Bool)(g:G)(h:∀g1,Keeps [] g g1->∃g2,Jg [v] g1=.ok (.bl b) g2/\Keeps [] g1 g2):TokR g (.tup [.str x,v,.int k]) ((x == Str.ofString "many") && (b && decide (0<=k))):=λg1 k1=>by
 have e1:mOp2 pEq (mOp2 pIx (mVar 0) (mLit (.int 0))) (mLit (.str "many")) [some (.tup [.str x,v,.int k])] g1=.ok (.bl (x == Str.ofString "many")) g1:=rfl
 obtain⟨g2,e2,k2⟩:=h g1 k1
 have e2':Ql Jg (Qb (mOp2 pIx (mVar 0) (mLit (.int 1))) mNil) [some (.tup [.str x,v,.int k])] g1=.ok (.bl b) g2:=by rw[Zh (ds:=[v]) (g':=g1) rfl];exact e2
 have e3:Ql Qs (Qb (mOp2 pIx (mVar 0) (mLit (.int 2))) mNil) [some (.tup [.str x,v,.int k])] g2=.ok (.bl (decide (0<=k))) g2:=rfl
 have hh:∀R g3,mAnd (mOp2 pEq (mOp2 pIx (mVar 0) (mLit (.int 0))) (mLit (.str "many"))) (mAnd (Ql Jg (Qb (mOp2 pIx (mVar 0) (mLit (.int 1))) mNil)) (Ql Qs (Qb (mOp2 pIx (mVar 0) (mLit (.int 2))) mNil))) [some (.tup [.str x,v,.int k])] g1=.ok R g3->Yi [.tup [.str x,v,.int k]] g1=.ok R g3:=λR g3 hR=>by
  refine ZD rfl ?_
  show Jh [some (.tup [.str x,v,.int k])] g1=_
  unfold Jh
  exact Qk [some (.tup [.str x,v,.int k])] g1 rfl (Qk [some (.tup [.str x,v,.int k])] g1 rfl (JH (Qci rfl hR)))
 cases hx:(x == Str.ofString "many") with
 |false=>rw[hx]at e1;exact⟨g1,hh _ _ (Qiv e1),.refl⟩
 |true =>
  rw[hx]at e1
  refine⟨g2,hh _ _ (Qci e1 ?_),k2⟩
  cases b with
  |false=>exact Qiv e2'
  |true=>exact Qci e2' e3
theorem Qgd{t:Tk}(h:TkOk t)(g:G):TokR g (tkD t) true:=by
 cases t with
 |one s =>
  have:=QlM (Str.ofString "one") (.int s) (decide (0<=s)) g λ_=>rfl
  rw[YC,Uz (show 0<=s from h)]at this
  exact this
 |many w k =>
  obtain⟨h1,h2,h3,h4,_⟩:=h
  have:=Qj9 (Str.ofString "many") (.tup (w.map .int)) k _ g λg1 _=>QlL w g1 (by omega)
  rw[YC,Uz h1,Uz h3,UE.mpr λx hx=>Uz (h2 x hx)]at this
  exact this
theorem QG{g g1:G}{x:D}{p:Bool×List D}(h:QK g x=some p)(k:Keeps [] g g1):QK g1 x=some p:=by
 cases x with
 |ref n =>
  unfold QK at h ⊢
  dsimp only at h ⊢
  cases hg:g[n]? with
  |none=>rw[hg]at h;cases h
  |some o =>
   rw[hg]at h
   rw[k.at' _ _ (by simp) hg]
   exact h
 |_=>exact h
theorem QdJ{g:G}{x:D}{b:Bool}{xs:List D}(h:QK g x=some (b,xs)):tyOf g x=some (if b then .list else .tuple):=by
 cases x with
 |ref n =>
  unfold QK at h
  unfold tyOf
  dsimp only at h ⊢
  cases hg:g[n]? with
  |none=>rw[hg]at h;cases h
  |some o =>
   rw[hg]at h
   cases o with
   |lst ds=>cases h;rfl
   |_=>cases h
 |tup ds=>cases h;rfl
 |fl ds=>cases h;rfl
 |_=>cases h
theorem Qiw(bs:List Bool):allB (bs.map D.bl)=some (bs.all id):=by
 induction bs with
 |nil=>rfl
 |cons b r ih=>show(allB (r.map D.bl)).map (b && ·)=_;rw[ih];rfl
noncomputable def tokB(F:D->Bool)(d:D):D:=.bl (F d)
theorem JX{g:G}{x:D}{b:Bool}{ds:List D}(F:D->Bool)(h:QK g x=some (b,ds))(hz:ds.length<=1000)(hF:∀d∈ds,TokR g d (F d)):
  ∃g',Keeps [] g g'/\((ds.all F=true/\QH [x] g=.ok .non g')\/(ds.all F=false/\QH [x] g=.raise (7,none) g')):=by
 obtain⟨src,s1,s2,s3⟩:=Qce h
 obtain⟨g1,c1,k1⟩:=Qgc (ds:=ds) (e:=Ql Yi (Qb (mVar 0) mNil)) (g:=g) (F:=tokB F) (src:=src) (by omega) (λd hd g1 k=>by
  obtain⟨g2,e,k2⟩:=hF d hd g1 k
  exact⟨g2,by rw[Zh (ds:=[d]) (g':=g1) rfl];exact e,k2⟩) s2 (λg1 i k=>s3 g1 i (QG h k))
 have c2:=JW (it:=QN (mVar 0)) (n:=1) (cap:=[]) (σ:=[some x]) (t:=gSet 0) (c:=ZS) (σ0:=[none]) (g:=g) (by
  unfold QN
  rw[show mVar 0 [some x] g=.ok x g from rfl,Res.bind_ok]
  exact s1) (by rw[s2];exact UY (JI (by omega))) rfl c1
 have hm:ds.map (tokB F)=(ds.map F).map D.bl:=by rw[List.map_map];rfl
 rw[hm]at c2
 have hall:mOp1 pAll (Yf (QN (mVar 0)) 1 [] (gSet 0) ZS (Ql Yi (Qb (mVar 0) mNil))) [some x] g=.ok (.bl (ds.all F)) (g1++[.lst ((ds.map F).map D.bl)]):=Yx c2 (by
  unfold pAll
  dsimp only
  rw[Qw]
  dsimp only
  rw[Qiw,List.all_map];rfl)
 have kk:Keeps [] g (g1++[.lst ((ds.map F).map D.bl)]):=k1.trans (.push _)
 generalize g1++[GO.lst ((ds.map F).map D.bl)]=g2 at hall kk
 have hsq:Qj (mOp1 QcZ (mVar 0)) [some x] g=.ok true g:=Yj (Yx (x:=x) (g1:=g) rfl (by unfold QcZ;rw[QdJ h];cases b <;> rfl))
 have ht:∀v,ds.all F=v->mOrT (ZK (Qj (mOp1 QcZ (mVar 0)))) (ZK (Qj (mOp1 pAll (Yf (QN (mVar 0)) 1 [] (gSet 0) ZS (Ql Yi (Qb (mVar 0) mNil)))))) [some x] g=.ok (!v) g2:=λv hv=>by
  unfold mOrT
  rw[Qir hsq,Res.bind_ok,Uh Uf]
  unfold ZK
  rw[Yj hall,hv];rfl
 refine⟨g2,kk,?_⟩
 cases hv:ds.all F with
 |true=>exact .inl ⟨rfl,QkN (σ:=[some x]) rfl (iff' g2 (ht _ hv) rfl)⟩
 |false=>exact .inr ⟨rfl,Qch (σ:=[some x]) rfl (ift g2 (ht _ hv) rfl)⟩
def lrS(f:Str):Prop:=f=Str.ofString "l" \/ f=Str.ofString "r"
theorem QgV{a b:MS}{σ σ':S3}{x:Xc}{g g':G}(h:a σ g=.raise x σ' g'):mSeq a b σ g=.raise x σ' g':=by unfold mSeq;rw[h]
theorem Qix{a:ME}{σ:S3}{x:Xc}{g g':G}(h:a σ g=.raise x g'):Z7 a σ g=.raise x σ g':=by unfold Z7;rw[h]
theorem Qoh{x:D}{g:G}(hx:QbY x=true):pIn true x (.tup [.str "l",.str "r"]) g=.ok (.bl (!(eqF (.str "l") x || (eqF (.str "r") x || false)))) g:=by
 unfold pIn QK
 dsimp only
 rw[Ue ⟨hx,rfl⟩]
 rfl
theorem Qbj{st:Int}{f L R:D}{g:G}(h0:0<=st)(hf:pIn true f (.tup [.str "l",.str "r"]) g=.ok (.bl false) g)(Q:Out)(hQ:mSeq (Z7 (Ql QH (Qb (mOp2 pIx (mVar 0) (mLit (.int 2))) mNil))) (Z7 (Ql QH (Qb (mOp2 pIx (mVar 0) (mLit (.int 3))) mNil))) [some (.tup [.int st,f,L,R])] g=Q):Js [some (.tup [.int st,f,L,R])] g=Q:=by
 unfold Js
 have t2:Qj (Ql Qs (Qb (mOp2 pIx (mVar 0) (mLit (.int 0))) mNil)) [some (.tup [.int st,f,L,R])] g=.ok true g:=Yj (by rw[Zh (ds:=[.int st]) (g':=g) rfl,Qit,Uz h0])
 exact Qk [some (.tup [.int st,f,L,R])] g rfl (Qk [some (.tup [.int st,f,L,R])] g (iff' g (Qir t2) rfl) (Qk [some (.tup [.int st,f,L,R])] g (iff' g (Yj (Qx (x:=f) (g1:=g) (g2:=g) rfl rfl hf)) rfl) hQ))
theorem QlN{f:Str}(h:lrS f)(g:G):pIn true (.str f) (.tup [.str "l",.str "r"]) g=.ok (.bl false) g:=by
 rw[Qoh rfl]
 rcases h with rfl|rfl
 ·show Res.ok (D.bl (!((Str.ofString "l" == Str.ofString "l") || _))) g=_
  rw[YC];rfl
 ·show Res.ok (D.bl (!(_ || ((Str.ofString "r" == Str.ofString "r") || false)))) g=_
  rw[YC,Bool.true_or,Bool.or_true];rfl
theorem QcI{st:Int}{f:Str}{L R:D}{g:G}{b b':Bool}{ds es:List D}(F:D->Bool)(h0:0<=st)(hf:lrS f)(hL:QK g L=some (b,ds))(hR:QK g R=some (b',es))(hz:ds.length<=1000)(hz':es.length<=1000)(tL:∀d∈ds,TokR g d (F d))(tR:∀d∈es,TokR g d (F d)):
  ∃g',Keeps [] g g'/\((ds.all F=true/\es.all F=true/\Ya [.tup [.int st,.str f,L,R]] g=.ok .non g')\/(¬(ds.all F=true/\es.all F=true)/\Ya [.tup [.int st,.str f,L,R]] g=.raise (7,none) g')):=by
 obtain⟨g1,k1,h1⟩:=JX F hL hz tL
 have c1:Ql QH (Qb (mOp2 pIx (mVar 0) (mLit (.int 2))) mNil) [some (.tup [.int st,.str f,L,R])] g=QH [L] g:=Zh rfl
 rcases h1 with⟨a1,e1⟩|⟨a1,e1⟩
 ·obtain⟨g2,k2,h2⟩:=JX F (QG hR k1) hz' (λd hd=>(tR d hd).mono k1)
  have c2:Ql QH (Qb (mOp2 pIx (mVar 0) (mLit (.int 3))) mNil) [some (.tup [.int st,.str f,L,R])] g1=QH [R] g1:=Zh rfl
  refine⟨g2,k1.trans k2,?_⟩
  rcases h2 with⟨a2,e2⟩|⟨a2,e2⟩
  ·exact .inl ⟨a1,a2,QkN rfl (Qbj h0 (QlN hf g) _ (Qk _ g1 (Qbh (c1.trans e1)) (Qbh (c2.trans e2))))⟩
  ·exact .inr ⟨λz=>by rw[a2]at z;exact Uf z.2,Qch rfl (Qbj h0 (QlN hf g) _ (Qk _ g1 (Qbh (c1.trans e1)) (Qix (c2.trans e2))))⟩
 ·exact⟨g1,k1,.inr ⟨λz=>by rw[a1]at z;exact Uf z.1,Qch rfl (Qbj h0 (QlN hf g) _ (QgV (Qix (c1.trans e1))))⟩⟩
theorem Qal{n:Nat}{ds:List D}{y:D}{σ:S3}{g:G}{o e:ME}(ho:o σ g=.ok (.ref n) g)(h:g[n]?=some (.lst ds))(he:e σ g=.ok y g)(hz:ds.length<=100000):Z7 (Yg o e) σ g=.nx σ (g.set n (.lst (ds++[y]))):=Qiq ho h he (JI hz)
theorem Qiy{c:Nat}{w:List Int}{k:Int}{A:List Int}{r:Nat}{x0:Option D}{g:G}(n:Nat)(hr:g[r]?=some (.lst (A.map .int)))(hz:A.length+n*w.length<=60000)(x4:Option D):
  ∃r' y4 g',forL (Q1 0 n) (gSet 4) JV (n+1) 0 [x0,some (.int c),some (.ref r),some (tkD (.many w k)),x4] g=.nx [x0,some (.int c),some (.ref r'),some (tkD (.many w k)),y4] g'/\g'[r']?=some (.lst ((A++(List.replicate n w).flatten).map .int))/\Keeps [] g g'/\(r'=r\/g.length<=r'):=by
 obtain⟨σ',g',e,r',y4,i1,i2,i3,i5⟩:=Yt (t:=gSet 4) (body:=JV) (lo:=0) (n:=n) (σ:=[x0,some (.int c),some (.ref r),some (tkD (.many w k)),x4]) (g:=g)
  (λi σ g1=>∃r' y4,σ=[x0,some (.int c),some (.ref r'),some (tkD (.many w k)),y4]/\g1[r']?=some (.lst ((A++(List.replicate i w).flatten).map .int))/\Keeps [] g g1/\(r'=r\/g.length<=r')) ⟨r,x4,rfl,by simpa using hr,.refl,.inl rfl⟩ (λi σ g1 hi hQ=>by
   obtain⟨r',y4,i1,i2,i3,i5⟩:=hQ
   subst i1
   have hk:Keeps [] g1 (g1++[.lst (w.map .int)]):=.push _
   have e1:mOp1 Qeo (mOp2 pIx (mVar 3) (mLit (.int 1))) [x0,some (.int c),some (.ref r'),some (tkD (.many w k)),some (.int (0+i))] g1=.ok (.ref g1.length) (g1++[.lst (w.map .int)]):=rfl
   have p1:(g1++[GO.lst (w.map .int)])[g1.length]?=some (.lst (w.map .int)):=Qw _
   have i2':=hk.at' _ _ (by simp) i2
   generalize g1++[GO.lst (w.map .int)]=g2 at hk e1 p1 i2'
   have hlen:(A++(List.replicate i w).flatten).length+w.length<=60000:=by
    rw[Um,Yn]
    have:(i+1)*w.length<=n*w.length:=Nat.mul_le_mul_right _ (by omega)
    rw[Nat.add_mul,Nat.one_mul]at this
    omega
   refine⟨_,[x0,some (.int c),some (.ref g2.length),some (tkD (.many w k)),some (.int (0+i))],g2++[.lst ((A++(List.replicate i w).flatten).map .int++w.map .int)],rfl,?_,g2.length,_,rfl,?_,i3.trans (hk.trans (.push _)),.inr (Ur i3.len hk.len)⟩
   ·refine Zx (Qx (x:=.ref r') (y:=.ref g1.length) (g1:=g1) (g2:=g2) rfl e1 ?_)
    unfold pAdd
    dsimp only
    rw[i2',p1]
    dsimp only
    rw[Ue (UY (JI (by rw[Uc,Uc];omega)))]
   ·rw[Qw,<-US,UH,WJ,List.flatten_append]
    simp)
 exact⟨r',y4,g',by rw[e,i1],i2,i3,i5⟩
theorem Qge{a b:Nat}{xs ys:List D}{g:G}(h1:g[a]?=some (.lst xs))(h2:g[b]?=some (.lst ys))(hz:xs.length+ys.length<=100000):pAdd (.ref a) (.ref b) g=.ok (.ref g.length) (g++[.lst (xs++ys)]):=by
 unfold pAdd
 dsimp only
 rw[h1,h2]
 dsimp only
 rw[Ue (UY (JI hz))]
noncomputable def TkF(d:D):Bool:=true
theorem Qiz(ts:List Tk):(ts.map tkD).all TkF=true:=UE.mpr λ_ _=>rfl
theorem Qka{st:Int}{f:Str}{L R:D}{g:G}{b b':Bool}{tl tr:List Tk}(h0:0<=st)(hf:lrS f)(hL:QK g L=some (b,tl.map tkD))(hR:QK g R=some (b',tr.map tkD))(ol:∀t∈tl,TkOk t)(or':∀t∈tr,TkOk t)(zl:tl.length<=140)(zr:tr.length<=140):
  ∃g',Ya [.tup [.int st,.str f,L,R]] g=.ok .non g'/\Keeps [] g g':=by
 obtain⟨g',k,h⟩:=QcI TkF h0 hf hL hR (by rw[Uc];omega) (by rw[Uc];omega) (λd hd=>by
  obtain⟨t,ht,rfl⟩:=Tn.mp hd
  exact Qgd (ol t ht) g) (λd hd=>by
  obtain⟨t,ht,rfl⟩:=Tn.mp hd
  exact Qgd (or' t ht) g)
 rcases h with⟨_,_,e⟩|⟨z,_⟩
 ·exact⟨g',e,k⟩
 ·exact absurd ⟨Qiz tl,Qiz tr⟩ z
theorem Qfl{c r N:Nat}{t:Tk}{A:List Int}{x0 x4:Option D}{g0 g:G}(ht:TkOk t)(hc:c<=3)(hr:g[r]?=some (.lst (A.map .int)))(hN:g0.length<=r)(k0:Keeps [] g0 g)(hz:A.length<=50000):
  ∃r' y4 g',Y2 [x0,some (.int c),some (.ref r),some (tkD t),x4] g=.nx [x0,some (.int c),some (.ref r'),some (tkD t),y4] g'/\g'[r']?=some (.lst ((A++ZE c t).map .int))/\Keeps [] g0 g'/\g0.length<=r':=by
 unfold Y2
 cases t with
 |one s =>
  have t1:Qj (mOp2 pEq (mOp2 pIx (mVar 3) (mLit (.int 0))) (mLit (.str "one"))) [x0,some (.int c),some (.ref r),some (tkD (.one s)),x4] g=.ok (Str.ofString "one" == Str.ofString "one") g:=rfl
  rw[YC]at t1
  refine⟨r,x4,_,ift g t1 (Qal (y:=.int s) rfl hr rfl (by rw[Uc];omega)),?_,⟨by rw[UN];exact k0.len,λi o _ h=>?_⟩,hN⟩
  ·rw[Q9 hr,US];rfl
  ·have:=Zw h
   rw[Uo (by omega)]
   exact k0.at' _ _ (by simp) h
 |many w k =>
  have t1:Qj (mOp2 pEq (mOp2 pIx (mVar 3) (mLit (.int 0))) (mLit (.str "one"))) [x0,some (.int c),some (.ref r),some (tkD (.many w k)),x4] g=.ok (Str.ofString "many" == Str.ofString "one") g:=rfl
  rw[Qgb]at t1
  obtain⟨h1,h2,h3,h4,h5⟩:=ht
  have hb:(c+k.toNat)*w.length<=25*20:=Rl (by omega) h4
  obtain⟨r',y4,g',e,i2,i3,i5⟩:=Qiy (c:=c) (k:=k) (x0:=x0) (c+k.toNat) hr (Ur (Nat.add_le_add hz hb) (by decide)) x4
  refine⟨r',y4,g',iff' g t1 ?_,i2,k0.trans i3,?_⟩
  ·refine(Y4 (ZQ (n:=c+k.toNat) ?_ (Qa0 (by omega)))).trans e
   refine Qx (x:=.int c) (y:=.int k) (g1:=g) (g2:=g) rfl rfl ?_
   show Res.ok (D.int ((c:Int)+k)) g=_
   rw[show((c:Int)+k)=((c+k.toNat:Nat):Int) by omega]
  ·rcases i5 with rfl|z
   ·exact hN
   ·exact Ur k0.len z
theorem QeE{x:D}{b:Bool}{ts:List Tk}{c:Nat}{g:G}(hx:QK g x=some (b,ts.map tkD))(hok:∀t∈ts,TkOk t)(hc:c<=3)(hl:ts.length<=140):
  ∃r g',QaW [x,.int c] g=.ok (.ref r) g'/\g.length<=r/\g'[r]?=some (.lst ((Qn c ts).map .int))/\Keeps [] g g':=by
 have k0:Keeps [] g (g++[.lst []]):=.push _
 have p0:(g++[GO.lst []])[g.length]?=some (.lst []):=Qw _
 obtain⟨src,s1,s2,s3⟩:=Qce (QG hx k0)
 have hlen:src.top=ts.length:=by rw[s2,Uc]
 obtain⟨σ',g2,e2,⟨r,y3,y4,i1,i4,i3⟩,i2⟩:=Qin (src:=src) (t:=gSet 3) (body:=Y2) (n:=ts.length) (σ:=[some x,some (.int c),some (.ref g.length),none,none]) (g:=g++[.lst []]) hlen
  (λi σ g2=>(∃r y3 y4,σ=[some x,some (.int c),some (.ref r),y3,y4]/\g.length<=r/\g2[r]?=some (.lst ((Qn c (ts.take i)).map .int)))/\Keeps [] g g2) ⟨⟨g.length,none,none,rfl,Ui _,p0⟩,k0⟩ (λi σ g2 hi hQ=>by
   obtain⟨⟨r,y3,y4,i1,i4,i3⟩,i2⟩:=hQ
   subst i1
   have htk:ts.take (i+1)=ts.take i++[ts[i]]:=UR hi
   have hA:(Qn c (ts.take i)).length<=50000:=by
    have:=Qak hc (ts:=ts.take i) λt ht=>hok t (Tc ht)
    rw[Tv]at this
    have:300*min i ts.length<=300*140:=Nat.mul_le_mul_left _ (by omega)
    omega
   obtain⟨r',z4,g3,e3,q1,q2,q3⟩:=Qfl (N:=0) (x0:=some x) (x4:=y4) (hok _ (UX hi)) hc i3 i4 i2 hA
   refine⟨tkD ts[i],_,_,g3,by rw[s3 g2 i (QG hx i2),Uy,Uq hi];rfl,rfl,e3,⟨r',_,_,rfl,q3,?_⟩,q2⟩
   rw[q1,htk]
   unfold Qn
   rw[List.flatMap_append]
   simp) (λσ g2 hQ=>by rw[s3 g2 _ (QG hx hQ.2),U8 (by rw[Uc];exact Ui _)])
 subst i1
 rw[TU]at i3
 refine⟨r,g2,ZD rfl ?_,i4,i3,i2⟩
 show Qcb [some x,some (.int c),none,none,none] g=_
 unfold Qcb
 refine Qk [some x,some (.int c),some (.ref g.length),none,none] (g++[.lst []]) (Zx rfl) (Qk _ g2 ((Y4 ?_).trans e2) rfl)
 unfold QN
 rw[show mVar 0 [some x,some (.int c),some (.ref g.length),none,none] (g++[.lst []])=.ok x (g++[.lst []]) from rfl,Res.bind_ok]
 exact s1
theorem Qc5{f:List D->G->Res D}{a:MA}{σ:S3}{g g1:G}{xs:List D}{R:Res D}(h:a σ g=.ok xs g1)(h2:f xs g1=R):mOpA f a σ g=R:=by unfold mOpA;rw[h,Res.bind_ok,h2]
theorem Y5{t p:Nat}{ds:List D}{d:D}{g:G}(h:g[t]?=some (.lst ds))(hp:ds[p]?=some d):pIx (.ref t) (.int p) g=.ok d g:=by
 have:=(Ud.mp hp).1
 unfold pIx;dsimp only;rw[h];dsimp only;unfold atD ixD;rw[Ue (by omega),Ue (by omega)];simp[hp]
theorem Qc6{t:Nat}{i:Int}{ds:List D}{d:D}{g:G}(h:g[t]?=some (.lst ds))(h0:0<=i)(hp:ds[i.toNat]?=some d):pIx (.ref t) (.int i) g=.ok d g:=by
 have e:((i.toNat:Nat):Int)=i:=by omega
 rw[<-e];exact Y5 h hp
theorem Qoi{a b:MT}{σ:S3}{g g1 g2:G}(h1:a σ g=.ok false g1)(h2:b σ g1=.ok false g2):mOrT a b σ g=.ok false g2:=by unfold mOrT;rw[h1,Res.bind_ok,Uh Uf,h2]
theorem QiA(ns:List Int){k m tu:Int}{sg:Nat}{g:G}(hs:0<sg)(h0:0<=k)(h1:k<=20):
  ∃x:Int,(0<=x/\x<sg)/\mOp2 pMod (mOp2 pAdd (mOp2 Q5 (mVar 2) (mOp2 pAdd (mOp2 pMul (mOp2 pMul (mVar 0) (mVar 0)) (mVar 0)) (mLit (.int 1)))) (mOp2 pMul (mVar 0) (mOp2 pMod (mOp2 Q5 (mVar 3) (mLit (.int 72))) (mLit (.int 5))))) (mVar 1) [some (.int k),some (.int sg),some (.int tu),some (.int m)] g=.ok (.int x) g:=by
 have hs':(0:Int)<sg:=by omega
 have ck:cM k:=QbL (by omega) (by omega)
 have k2:0<=k*k:=RQ h0 h0
 have k2':k*k<=400:=by
  have:k*k<=20*20:=Int.mul_le_mul h1 h1 h0 (by decide)
  omega
 have k3:0<=k*k*k:=RQ k2 h0
 have k3':k*k*k<=8000:=by
  have:k*k*k<=400*20:=Int.mul_le_mul k2' h1 h0 (by decide)
  omega
 refine⟨(tu / (k*k*k+1)+k*(m/72%5)) % sg,⟨UT _ (by omega),UL _ hs'⟩,?_⟩
 have d1:mOp2 pAdd (mOp2 pMul (mOp2 pMul (mVar 0) (mVar 0)) (mVar 0)) (mLit (.int 1)) [some (.int k),some (.int sg),some (.int tu),some (.int m)] g=.ok (.int (k*k*k+1)) g:=Qx (x:=.int (k*k*k)) (y:=.int 1) (g1:=g) (g2:=g) (Qx (x:=.int (k*k)) (y:=.int k) (g1:=g) (g2:=g) (Qx rfl rfl (mulL ck)) rfl (mulR ck)) rfl rfl
 exact Qx (x:=.int (tu / (k*k*k+1)+k*(m/72%5))) (y:=.int sg) (g1:=g) (g2:=g) (Qx (x:=.int (tu / (k*k*k+1))) (y:=.int (k*(m/72%5))) (g1:=g) (g2:=g) (Qx (x:=.int tu) (y:=.int (k*k*k+1)) (g1:=g) (g2:=g) rfl d1 (divP (by omega) (by omega))) (Qx (x:=.int k) (y:=.int (m/72%5)) (g1:=g) (g2:=g) rfl (Qx (x:=.int (m/72)) (y:=.int 5) (g1:=g) (g2:=g) (Qx rfl rfl (divP (by decide) (by decide))) rfl (modP (by decide))) (mulL ck)) rfl) rfl (modP hs')
theorem QiB{n:Nat}{m tu:Int}{sg:Nat}{x0 x1 x4:Option D}{g:G}(hs:0<sg)(hn:n<=20)(h4:x4=some (.int n)):
  ∃w:List Int,w.length=n/\(∀x∈w,0<=x/\x<(sg:Int))/\Yf (QO (mVar 4)) 1 [2,5,3] (gSet 0) ZS (mOp2 pMod (mOp2 pAdd (mOp2 Q5 (mVar 2) (mOp2 pAdd (mOp2 pMul (mOp2 pMul (mVar 0) (mVar 0)) (mVar 0)) (mLit (.int 1)))) (mOp2 pMul (mVar 0) (mOp2 pMod (mOp2 Q5 (mVar 3) (mLit (.int 72))) (mLit (.int 5))))) (mVar 1)) [x0,x1,some (.int sg),some (.int m),x4,some (.int tu)] g=.ok (.ref g.length) (g++[.lst (w.map .int)]):=by
 subst h4
 obtain⟨xs,σ',g3,c1,w,c2,c3,c4,c5,_⟩:=Yd (src:=Q1 0 n) (t:=gSet 0) (c:=ZS) (e:=mOp2 pMod (mOp2 pAdd (mOp2 Q5 (mVar 2) (mOp2 pAdd (mOp2 pMul (mOp2 pMul (mVar 0) (mVar 0)) (mVar 0)) (mLit (.int 1)))) (mOp2 pMul (mVar 0) (mOp2 pMod (mOp2 Q5 (mVar 3) (mLit (.int 72))) (mLit (.int 5))))) (mVar 1)) (n:=n)
  (λi σ' g4 acc=>∃w:List Int,acc=w.map .int/\w.length=i/\(∀x∈w,0<=x/\x<(sg:Int))/\g4=g/\∃u,σ'=[u,some (.int sg),some (.int tu),some (.int m)]) (λi σ' g4 acc hi hQ=>by
   obtain⟨w,q1,q2,q3,q4,u,q5⟩:=hQ
   subst q4 q5
   obtain⟨x,hx,e⟩:=QiA [] (k:=0+(i:Int)) (m:=m) (tu:=tu) (g:=g4) hs (by omega) (by omega)
   refine⟨.int (0+i),[some (.int (0+i)),some (.int sg),some (.int tu),some (.int m)],g4,by simp[Q1,hi],rfl,.inl ⟨.int x,g4,rfl,e,w++[x],by rw[q1,US];rfl,by rw[Um,q2];rfl,λy hy=>?_,rfl,_,rfl⟩⟩
   rcases UB.mp hy with z|z
   ·exact q3 y z
   ·rw[Up.mp z];exact hx) (λσ g4 acc _=>by simp[Q1]) (n+1) 0 [none,some (.int sg),some (.int tu),some (.int m)] g [] (by omega) (by omega) ⟨[],rfl,rfl,(λx h=>by cases h),rfl,none,rfl⟩
 subst c2 c5
 exact⟨w,c3,c4,JW (n:=1) (cap:=[2,5,3]) (σ0:=[none,some (.int sg),some (.int tu),some (.int m)]) (ZQ (n:=n) rfl (Qa0 (by omega))) (UY (QgT (show n<=1000 by omega))) rfl c1⟩
theorem Qkb(ns:List Int){a sg:Nat}{k:Int}{g:G}(hs:0<sg)(ga:g[a]?=some (.lst [.int k]))(hk:0<=k)(hk2:k<900000000):
  ∃w g',QdC [.fl (ns.map .int),.ref a,.int sg] g=.ok (.tup (w.map .int)) g'/\w≠[]/\(∀x∈w,0<=x/\x<(sg:Int))/\w.length<=20/\Keeps [a] g g'/\g'[a]?=some (.lst [.int (k+2)]):=by
 obtain⟨q,q0,q1,e1⟩:=QaH ns a k g ga hk (by omega)
 have k1:Keeps [a] g (g.set a (.lst [.int (k+1)])):=.set _ _
 have ga1:(g.set a (.lst [.int (k+1)]))[a]?=some (.lst [.int (k+1)]):=Q9 ga
 generalize g.set a (.lst [.int (k+1)])=g1 at e1 k1 ga1
 have z6:mOp2 pAdd (mLit (.int 1)) (mOp2 pMod (mOp2 Q5 (mVar 3) (mLit (.int 8))) (mLit (.int 6))) [some (.fl (ns.map .int)),some (.ref a),some (.int sg),some (.int q),none,none] g1=.ok (.int (1+q/8%6)) g1:=Qx (x:=.int 1) (y:=.int (q/8%6)) (g1:=g1) (g2:=g1) rfl (Qx (x:=.int (q/8)) (y:=.int 6) (g1:=g1) (g2:=g1) (Qx rfl rfl (divP (by decide) (by decide))) rfl (modP (by decide))) rfl
 have r0:=UT (q/8) (show(6:Int)≠0 by decide)
 have r1:=UL (q/8) (show(0:Int)<6 by decide)
 have eN:mOpA newL (Qb (mLit (.int 1)) (Qb (mLit (.int 1)) (Qb (mLit (.int 2)) (Qb (mLit (.int 2)) (Qb (mLit (.int 3)) (Qb (mLit (.int 3)) (Qb (mOp2 pAdd (mLit (.int 1)) (mOp2 pMod (mOp2 Q5 (mVar 3) (mLit (.int 8))) (mLit (.int 6)))) (Qb (mLit (.int 20)) mNil)))))))) [some (.fl (ns.map .int)),some (.ref a),some (.int sg),some (.int q),none,none] g1=.ok (.ref g1.length) (g1++[.lst [.int 1,.int 1,.int 2,.int 2,.int 3,.int 3,.int (1+q/8%6),.int 20]]):=Qc5 (QC (g1:=g1) rfl (QC (g1:=g1) rfl (QC (g1:=g1) rfl (QC (g1:=g1) rfl (QC (g1:=g1) rfl (QC (g1:=g1) rfl (QC z6 (QC (g1:=g1) rfl rfl)))))))) rfl
 have k2:Keeps [] g1 (g1++[.lst [.int 1,.int 1,.int 2,.int 2,.int 3,.int 3,.int (1+q/8%6),.int 20]]):=.push _
 have p2:(g1++[GO.lst [.int 1,.int 1,.int 2,.int 2,.int 3,.int 3,.int (1+q/8%6),.int 20]])[g1.length]?=some (.lst [.int 1,.int 1,.int 2,.int 2,.int 3,.int 3,.int (1+q/8%6),.int 20]):=Qw _
 generalize g1++[GO.lst [.int 1,.int 1,.int 2,.int 2,.int 3,.int 3,.int (1+q/8%6),.int 20]]=g2 at eN k2 p2
 have w0:=UT q (show(8:Int)≠0 by decide)
 have w1:=UL q (show(0:Int)<8 by decide)
 have hpick:∃v:Nat,1<=v/\v<=20/\[D.int 1,.int 1,.int 2,.int 2,.int 3,.int 3,.int (1+q/8%6),.int 20][(q%8).toNat]?=some (.int v):=by
  rcases(by omega:q%8=0\/q%8=1\/q%8=2\/q%8=3\/q%8=4\/q%8=5\/q%8=6\/q%8=7) with e|e|e|e|e|e|e|e <;> rw[e]
  ·exact⟨1,by decide,by decide,rfl⟩
  ·exact⟨1,by decide,by decide,rfl⟩
  ·exact⟨2,by decide,by decide,rfl⟩
  ·exact⟨2,by decide,by decide,rfl⟩
  ·exact⟨3,by decide,by decide,rfl⟩
  ·exact⟨3,by decide,by decide,rfl⟩
  ·exact⟨(1+q/8%6).toNat,by omega,by omega,by rw[Int.toNat_of_nonneg (by omega)];rfl⟩
  ·exact⟨20,by decide,by decide,rfl⟩
 obtain⟨v,v1,v2,hv⟩:=hpick
 have e2:mOp2 pIx (mOpA newL (Qb (mLit (.int 1)) (Qb (mLit (.int 1)) (Qb (mLit (.int 2)) (Qb (mLit (.int 2)) (Qb (mLit (.int 3)) (Qb (mLit (.int 3)) (Qb (mOp2 pAdd (mLit (.int 1)) (mOp2 pMod (mOp2 Q5 (mVar 3) (mLit (.int 8))) (mLit (.int 6)))) (Qb (mLit (.int 20)) mNil))))))))) (mOp2 pMod (mVar 3) (mLit (.int 8))) [some (.fl (ns.map .int)),some (.ref a),some (.int sg),some (.int q),none,none] g1=.ok (.int v) g2:=Qx (x:=.ref g1.length) (y:=.int (q%8)) (g1:=g2) (g2:=g2) eN (Qx rfl rfl (modP (by decide))) (Qc6 p2 w0 hv)
 have e3:∃n:Nat,1<=n/\n<=20/\mIf (JK (Qj (mOp2 pEq (mVar 4) (mLit (.int 20)))) (Qj (mOp2 pGt (mOp2 pMod (mOp2 Q5 (mVar 3) (mLit (.int 8))) (mLit (.int 9))) (mLit (.int 0))))) (mAsg (gSet 4) (mLit (.int 2))) QA [some (.fl (ns.map .int)),some (.ref a),some (.int sg),some (.int q),some (.int v),none] g2=.nx [some (.fl (ns.map .int)),some (.ref a),some (.int sg),some (.int q),some (.int n),none] g2:=by
  have t1:Qj (mOp2 pEq (mVar 4) (mLit (.int 20))) [some (.fl (ns.map .int)),some (.ref a),some (.int sg),some (.int q),some (.int v),none] g2=.ok ((v:Int) == 20) g2:=rfl
  have t2:Qj (mOp2 pGt (mOp2 pMod (mOp2 Q5 (mVar 3) (mLit (.int 8))) (mLit (.int 9))) (mLit (.int 0))) [some (.fl (ns.map .int)),some (.ref a),some (.int sg),some (.int q),some (.int v),none] g2=.ok (decide (0<q/8%9)) g2:=Yj (Qx (x:=.int (q/8%9)) (y:=.int 0) (g1:=g2) (g2:=g2) (Qx (x:=.int (q/8)) (y:=.int 9) (g1:=g2) (g2:=g2) (Qx rfl rfl (divP (by decide) (by decide))) rfl (modP (by decide))) rfl rfl)
  have t3:JK (Qj (mOp2 pEq (mVar 4) (mLit (.int 20)))) (Qj (mOp2 pGt (mOp2 pMod (mOp2 Q5 (mVar 3) (mLit (.int 8))) (mLit (.int 9))) (mLit (.int 0)))) [some (.fl (ns.map .int)),some (.ref a),some (.int sg),some (.int q),some (.int v),none] g2=.ok (((v:Int) == 20) && decide (0<q/8%9)) g2:=by
   unfold JK
   rw[t1,Res.bind_ok]
   cases ((v:Int) == 20)
   ·rfl
   ·rw[Ue rfl,t2];rfl
  cases hb:((v:Int) == 20) && decide (0<q/8%9) with
  |true=>rw[hb]at t3;exact⟨2,by decide,by decide,ift g2 t3 rfl⟩
  |false=>rw[hb]at t3;exact⟨v,v1,v2,iff' g2 t3 rfl⟩
 obtain⟨n,n1,n2,e3⟩:=e3
 obtain⟨tu,tu0,tu1,e4⟩:=QaH ns a (k+1) g2 (k2.at' _ _ (by simp) ga1) (by omega) (by omega)
 rw[show k+1+1=k+2 by omega]at e4
 have k4:Keeps [a] g2 (g2.set a (.lst [.int (k+2)])):=.set _ _
 have ga4:(g2.set a (.lst [.int (k+2)]))[a]?=some (.lst [.int (k+2)]):=Q9 (k2.at' _ _ (by simp) ga1)
 generalize g2.set a (.lst [.int (k+2)])=g4 at e4 k4 ga4
 obtain⟨w,w3,w4,e5⟩:=QiB (n:=n) (m:=q) (tu:=tu) (x0:=some (.fl (ns.map .int))) (x1:=some (.ref a)) (g:=g4) hs n2 rfl
 have k5:Keeps [] g4 (g4++[.lst (w.map .int)]):=.push _
 have p5:(g4++[GO.lst (w.map .int)])[g4.length]?=some (.lst (w.map .int)):=Qw _
 generalize g4++[GO.lst (w.map .int)]=g5 at e5 k5 p5
 refine⟨w,g5,ZD rfl ?_,λz=>by rw[z]at w3;have:([]:List Int).length=0:=rfl;omega,w4,by omega,k1.trans (k2.all.trans (k4.trans k5.all)),k5.at' _ _ (by simp) ga4⟩
 show QdB [some (.fl (ns.map .int)),some (.ref a),some (.int sg),none,none,none] g=_
 unfold QdB
 refine Qk [some (.fl (ns.map .int)),some (.ref a),some (.int sg),some (.int q),none,none] g1 (Zx (by rw[Zh (ds:=[.fl (ns.map .int),.ref a]) (g':=g) rfl];exact e1)) ?_
 refine Qk [some (.fl (ns.map .int)),some (.ref a),some (.int sg),some (.int q),some (.int v),none] g2 (Zx e2) (Qk _ g2 e3 ?_)
 refine Qk [some (.fl (ns.map .int)),some (.ref a),some (.int sg),some (.int q),some (.int n),some (.int tu)] g4 (Zx (by rw[Zh (ds:=[.fl (ns.map .int),.ref a]) (g':=g2) rfl];exact e4)) (JH (Yx e5 ?_))
 unfold Zq
 dsimp only
 rw[p5]
theorem Qam{c:MT}{body:MS}:∀(f:Nat)(σ:S3)(g:G),ZJ c body f σ g≠.stuck->∀f',f<=f'->ZJ c body f' σ g=ZJ c body f σ g
 |0,_,_,h,_,_=>absurd rfl h
 |f+1,σ,g,h,f',hf=>by
  obtain⟨k,rfl⟩:∃k,f'=k+1:=⟨f' - 1,by omega⟩
  unfold ZJ at h ⊢
  cases hc:c σ g with
  |stuck=>rfl
  |raise e g1=>rfl
  |ok b g1 =>
   cases b with
   |false=>rfl
   |true =>
    rw[hc]at h
    dsimp only at h ⊢
    cases hb:body σ g1 with
    |nx σ2 g2=>rw[hb]at h;exact Qam f σ2 g2 h k (by omega)
    |ct σ2 g2=>rw[hb]at h;exact Qam f σ2 g2 h k (by omega)
    |bk σ2 g2=>rfl
    |rt d g2=>rfl
    |raise e σ2 g2=>rfl
    |stuck=>rfl
theorem QdK{c:MT}{body:MS}{f:Nat}{σ:S3}{g:G}{R:Out}(h:ZJ c body f σ g=R)(hR:R≠.stuck):QcT c body σ g=R:=by
 have hx:∃f,ZJ c body f σ g≠.stuck:=⟨f,by rw[h];exact hR⟩
 unfold QcT
 rw[dif_pos hx]
 have h1:=hx.choose_spec
 rcases Nat.le_total f hx.choose with z|z
 ·rw[Qam f σ g (by rw[h];exact hR) _ z,h]
 ·rw[<-Qam _ σ g h1 f z,h]
theorem Qc7{n q:Nat}{xs ys:List D}{σ:S3}{g g2:G}{o e:ME}(ho:o σ g=.ok (.ref n) g)(h:g[n]?=some (.lst xs))(he:e σ g=.ok (.ref q) g2)(h2:g2[n]?=some (.lst xs))(h3:g2[q]?=some (.lst ys))(hq:n≠q)(hz:xs.length+ys.length<=1000):
  Z7 (Qb4 o e) σ g=.nx σ (g2.set n (.lst (xs++ys))):=by
 refine Qbh (d:=.non) ?_
 unfold Qb4
 rw[ho,Res.bind_ok]
 dsimp only
 rw[h]
 dsimp only
 rw[he,Res.bind_ok]
 dsimp only
 rw[h2,h3]
 dsimp only
 rw[Ue ⟨hq,UY (QgT hz)⟩]
def Ev(h0:G)(r:Nat)(os:List Tk)(σ:S3)(e:ME):Prop:=∀h,Keeps [] h0 h->∃(p:Nat)(us:List Tk)(h':G),e σ h=.ok (.ref p) h'/\Keeps [] h h'/\h'[p]?=some (.lst (us.map tkD))/\(∀t∈us,t∈os)/\us.length<=os.length/\p≠r
theorem QlO{h0:G}{r:Nat}{os:List Tk}{σ:S3}(hr:r<h0.length):Ev h0 r os σ (mOpA newL mNil):=λh k=>⟨h.length,[],h++[.lst []],rfl,.push _,Qw _,(λt ht=>by cases ht),RY _,by have:=k.len;omega⟩
theorem QlP{h0:G}{r o i:Nat}{os:List Tk}{σ:S3}(hv:σ[i]?=some (some (.ref o)))(ho:h0[o]?=some (.lst (os.map tkD)))(hor:o≠r):Ev h0 r os σ (mVar i):=λh k=>⟨o,os,h,by unfold mVar;rw[hv],.refl,k.at' _ _ (by simp) ho,λt ht=>ht,Ui _,hor⟩
theorem Qgf{α β:Type}(f:α->β)(xs:List α)(lo hi:Option Int):cutD (xs.map f) lo hi=(cutD xs lo hi).map f:=by
 unfold cutD
 rw[Uc,T1,T3]
theorem Qgg{α:Type}{xs:List α}{lo hi:Option Int}:∀t∈cutD xs lo hi,t∈xs:=λt ht=>TD (Tc ht)
theorem Qkc{α:Type}{xs:List α}{lo hi:Option Int}:(cutD xs lo hi).length<=xs.length:=by
 unfold cutD
 rw[Tv,TN];omega
theorem QkP{h0:G}{r o i:Nat}{os:List Tk}{σ:S3}{lo hi:MO}{l u:Option Int}(hv:σ[i]?=some (some (.ref o)))(ho:h0[o]?=some (.lst (os.map tkD)))(hr:r<h0.length)(hl:∀h,lo σ h=.ok l h)(hu:∀h,hi σ h=.ok u h):Ev h0 r os σ (QM (mVar i) lo hi):=λh k=>by
 refine⟨h.length,cutD os l u,h++[.lst ((cutD os l u).map tkD)],?_,.push _,Qw _,Qgg,Qkc,by have:=k.len;omega⟩
 unfold QM
 rw[show mVar i σ h=.ok (.ref o) h by unfold mVar;rw[hv],Res.bind_ok,hl,Res.bind_ok,hu,Res.bind_ok]
 unfold Qen
 dsimp only
 rw[k.at' _ _ (by simp) ho]
 dsimp only
 rw[Qgf]
theorem QkQ{h0:G}{r:Nat}{os:List Tk}{σ:S3}{a1 a2 a3 a4 a5 a6 ix:ME}{i:Int}(e1:Ev h0 r os σ a1)(e2:Ev h0 r os σ a2)(e3:Ev h0 r os σ a3)(e4:Ev h0 r os σ a4)(e5:Ev h0 r os σ a5)(e6:Ev h0 r os σ a6)(hi:∀h,ix σ h=.ok (.int (i%6)) h):Ev h0 r os σ (mOp2 pIx (mOpA newL (Qb a1 (Qb a2 (Qb a3 (Qb a4 (Qb a5 (Qb a6 mNil))))))) ix):=λh k=>by
 obtain⟨p1,u1,h1,c1,k1,l1,m1,z1,n1⟩:=e1 h k
 obtain⟨p2,u2,h2,c2,k2,l2,m2,z2,n2⟩:=e2 h1 (k.trans k1)
 obtain⟨p3,u3,h3,c3,k3,l3,m3,z3,n3⟩:=e3 h2 ((k.trans k1).trans k2)
 obtain⟨p4,u4,h4,c4,k4,l4,m4,z4,n4⟩:=e4 h3 (((k.trans k1).trans k2).trans k3)
 obtain⟨p5,u5,h5,c5,k5,l5,m5,z5,n5⟩:=e5 h4 ((((k.trans k1).trans k2).trans k3).trans k4)
 obtain⟨p6,u6,h6,c6,k6,l6,m6,z6,n6⟩:=e6 h5 (((((k.trans k1).trans k2).trans k3).trans k4).trans k5)
 have kp:Keeps [] h6 (h6++[.lst [.ref p1,.ref p2,.ref p3,.ref p4,.ref p5,.ref p6]]):=.push _
 have pp:(h6++[GO.lst [.ref p1,.ref p2,.ref p3,.ref p4,.ref p5,.ref p6]])[h6.length]?=some (.lst [.ref p1,.ref p2,.ref p3,.ref p4,.ref p5,.ref p6]):=Qw _
 have eN:mOpA newL (Qb a1 (Qb a2 (Qb a3 (Qb a4 (Qb a5 (Qb a6 mNil)))))) σ h=.ok (.ref h6.length) (h6++[.lst [.ref p1,.ref p2,.ref p3,.ref p4,.ref p5,.ref p6]]):=Qc5 (QC c1 (QC c2 (QC c3 (QC c4 (QC c5 (QC c6 rfl)))))) rfl
 generalize h6++[GO.lst [.ref p1,.ref p2,.ref p3,.ref p4,.ref p5,.ref p6]]=h7 at kp pp eN
 have w0:=UT i (show(6:Int)≠0 by decide)
 have w1:=UL i (show(0:Int)<6 by decide)
 have kk:Keeps [] h h7:=k1.trans (k2.trans (k3.trans (k4.trans (k5.trans (k6.trans kp)))))
 have fin:∀(p:Nat)(us:List Tk)(g:G),g[p]?=some (.lst (us.map tkD))->Keeps [] g h7->(∀t∈us,t∈os)->us.length<=os.length->p≠r->[D.ref p1,.ref p2,.ref p3,.ref p4,.ref p5,.ref p6][(i%6).toNat]?=some (.ref p)->∃(p:Nat)(us:List Tk)(h':G),mOp2 pIx (mOpA newL (Qb a1 (Qb a2 (Qb a3 (Qb a4 (Qb a5 (Qb a6 mNil))))))) ix σ h=.ok (.ref p) h'/\Keeps [] h h'/\h'[p]?=some (.lst (us.map tkD))/\(∀t∈us,t∈os)/\us.length<=os.length/\p≠r:=λp us g hp kg hm hz hn hix=>⟨p,us,h7,Qx eN (hi h7) (Qc6 pp w0 hix),kk,kg.at' _ _ (by simp) hp,hm,hz,hn⟩
 rcases(by omega:i%6=0\/i%6=1\/i%6=2\/i%6=3\/i%6=4\/i%6=5) with e|e|e|e|e|e
 ·exact fin p1 u1 h1 l1 (k2.trans (k3.trans (k4.trans (k5.trans (k6.trans kp))))) m1 z1 n1 (by rw[e];rfl)
 ·exact fin p2 u2 h2 l2 (k3.trans (k4.trans (k5.trans (k6.trans kp)))) m2 z2 n2 (by rw[e];rfl)
 ·exact fin p3 u3 h3 l3 (k4.trans (k5.trans (k6.trans kp))) m3 z3 n3 (by rw[e];rfl)
 ·exact fin p4 u4 h4 l4 (k5.trans (k6.trans kp)) m4 z4 n4 (by rw[e];rfl)
 ·exact fin p5 u5 h5 l5 (k6.trans kp) m5 z5 n5 (by rw[e];rfl)
 ·exact fin p6 u6 h6 l6 kp m6 z6 n6 (by rw[e];rfl)
noncomputable def TkK(K n:Nat):Tk->Prop
 |.one s=>0<=s/\s<n
 |.many w k=>w≠[]/\(∀x∈w,0<=x/\x<n)/\0<=k/\w.length<=20/\k<=K
noncomputable abbrev TkL:=TkK 4
theorem TkK.ok{K n:Nat}{t:Tk}(h:TkK K n t)(hK:K<=12):TkOk t:=by
 cases t with
 |one s=>exact h.1
 |many w k=>exact⟨h.1,λx hx=>(h.2.1 x hx).1,h.2.2.1,h.2.2.2.1,by have:=h.2.2.2.2;omega⟩
theorem TkL.ok{n:Nat}{t:Tk}(h:TkL n t):TkOk t:=TkK.ok h (by decide)
theorem TkK.up{K n:Nat}{t:Tk}(h:TkK K n t):TkK (K+1) n t:=by
 cases t with
 |one s=>exact h
 |many w k=>exact⟨h.1,h.2.1,h.2.2.1,h.2.2.2.1,by have:=h.2.2.2.2;omega⟩
theorem QlQ{w:List Int}{x0 x1 x2 x3 x4 x5 x7:Option D}{g:G}{sg:Nat}(h0:∀x∈w,0<=x/\x<(sg:Int))(hw:w.length<=20):
  ∃os:List Tk,os.length<=7/\(∀t∈os,TkL sg t)/\Yf (QN (QM (mVar 6) QB (Zp (mLit (.int 7))))) 1 [6] (gSet 0) (Qj (mOp2 pLt (mOp1 pLen (mVar 1)) (mLit (.int 8)))) (mOpA pTup (Qb (mLit (.str "one")) (Qb (mVar 0) mNil))) [x0,x1,x2,x3,x4,x5,some (.tup (w.map .int)),x7] g=.ok (.ref g.length) (g++[.lst (os.map tkD)]):=by
 have hcut:cutD (w.map D.int) none (some 7)=(cutD w none (some 7)).map D.int:=Qgf _ _ _ _
 have hcl:(cutD w none (some 7)).length<=7:=by
  unfold cutD
  rw[Tv]
  show min (min (7:Int).toNat w.length-0) _<=7
  have:(7:Int).toNat=7:=rfl
  omega
 have hcm:∀x∈cutD w none (some 7),0<=x/\x<(sg:Int):=λx hx=>h0 x (Qgg x hx)
 generalize cutD w none (some 7)=v at hcut hcl hcm
 have hit:QN (QM (mVar 6) QB (Zp (mLit (.int 7)))) [x0,x1,x2,x3,x4,x5,some (.tup (w.map .int)),x7] g=.ok ⟨λ_ i=>some (v.map D.int)[i]?,(v.map D.int).length⟩ g:=by rw[<-hcut];rfl
 have hvl:(v.map D.int).length=v.length:=Uc _
 obtain⟨xs,σ',g3,c1,os,c2,c3,c4,c5,_⟩:=Yd (src:=⟨λ_ i=>some (v.map D.int)[i]?,(v.map D.int).length⟩) (t:=gSet 0) (c:=Qj (mOp2 pLt (mOp1 pLen (mVar 1)) (mLit (.int 8)))) (e:=mOpA pTup (Qb (mLit (.str "one")) (Qb (mVar 0) mNil))) (n:=v.length)
  (λi σ' g4 acc=>∃os:List Tk,acc=os.map tkD/\os.length<=i/\(∀t∈os,TkL sg t)/\g4=g/\∃u,σ'=[u,some (.tup (w.map .int))]) (λi σ' g4 acc hi hQ=>by
   obtain⟨os,q1,q2,q3,q4,u,q5⟩:=hQ
   subst q4 q5
   have t1:Qj (mOp2 pLt (mOp1 pLen (mVar 1)) (mLit (.int 8))) [some (.int v[i]),some (.tup (w.map .int))] g4=.ok (decide (((w.map D.int).length:Int)<8)) g4:=rfl
   refine⟨.int v[i],[some (.int v[i]),some (.tup (w.map .int))],g4,by dsimp only;rw[Uy,Uq hi];rfl,rfl,?_⟩
   cases hb:decide (((w.map D.int).length:Int)<8) with
   |true =>
    rw[hb]at t1
    refine .inl ⟨tkD (.one v[i]),g4,t1,rfl,os++[.one v[i]],by rw[q1,US];rfl,by rw[Um];show os.length+1<=i+1;omega,λt ht=>?_,rfl,_,rfl⟩
    rcases UB.mp ht with z|z
    ·exact q3 t z
    ·rw[Up.mp z];exact hcm _ (UX hi)
   |false=>rw[hb]at t1;exact .inr ⟨t1,os,q1,by omega,q3,rfl,_,rfl⟩) (λσ g4 acc _=>by dsimp only;rw[U8 (by rw[hvl];exact Ui _)]) ((v.map D.int).length+1) 0 [none,some (.tup (w.map .int))] g [] (by omega) (by omega) ⟨[],rfl,Ui _,(λt h=>by cases h),rfl,none,rfl⟩
 subst c2 c5
 exact⟨os,by omega,c4,JW (n:=1) (cap:=[6]) (σ0:=[none,some (.tup (w.map .int))]) hit (UY (QgT (show(v.map D.int).length<=1000 by omega))) rfl c1⟩
theorem Keeps.lst{S:List Nat}{g g1:G}(a:Keeps S g g1){n:Nat}{o:GO}(h:g[n]?=some o)(hn:n∉S):g1[n]?=some o:=a.at' n o hn h
theorem Qfm(ns:List Int){a r sg:Nat}{k:Int}{x3 x5 x6 x7:Option D}{ts:List Tk}{g:G}(hs:0<sg)(ga:g[a]?=some (.lst [.int k]))(gr:g[r]?=some (.lst (ts.map tkD)))(har:a≠r)(hk:0<=k)(hk2:k<800000000)(hts:∀t∈ts,TkL sg t)(hz:ts.length<=100):
    ∃(ts':List Tk)(k':Int)(g':G),k<=k'/\k'<=k+3/\Keeps [a,r] g g'/\g'[a]?=some (.lst [.int k'])/\g'[r]?=some (.lst (ts'.map tkD))/\(∀t∈ts',TkL sg t) /\
      ((Yc [some (.fl (ns.map .int)),some (.ref a),some (.int sg),x3,some (.ref r),x5,x6,x7] g=.rt (.ref r) g'/\ts'=ts) \/
       (∃y5 y6 y7,Yc [some (.fl (ns.map .int)),some (.ref a),some (.int sg),x3,some (.ref r),x5,x6,x7] g=.nx [some (.fl (ns.map .int)),some (.ref a),some (.int sg),x3,some (.ref r),y5,y6,y7] g'/\ts.length<ts'.length/\ts'.length<=ts.length+15)):=by
  obtain⟨q,q0,q1,e1⟩:=QaH ns a k g ga hk (by omega)
  have k1:Keeps [a] g (g.set a (.lst [.int (k+1)])):=.set _ _
  have ga1:(g.set a (.lst [.int (k+1)]))[a]?=some (.lst [.int (k+1)]):=Q9 ga
  generalize g.set a (.lst [.int (k+1)])=g1 at e1 k1 ga1
  have gr1:g1[r]?=some (.lst (ts.map tkD)):=k1.at' _ _ (by simp;omega) gr
  have hA:mAsg (gSet 5) (Ql ZR (Qb (mVar 0) (Qb (mVar 1) mNil))) [some (.fl (ns.map .int)),some (.ref a),some (.int sg),x3,some (.ref r),x5,x6,x7] g=.nx [some (.fl (ns.map .int)),some (.ref a),some (.int sg),x3,some (.ref r),some (.int q),x6,x7] g1:=Zx (by rw[Zh (ds:=[.fl (ns.map .int),.ref a]) (g':=g) rfl];exact e1)
  have hm:mOp2 pMod (mVar 5) (mLit (.int 5)) [some (.fl (ns.map .int)),some (.ref a),some (.int sg),x3,some (.ref r),some (.int q),x6,x7] g1=.ok (.int (q%5)) g1:=Qx rfl rfl (modP (by decide))
  have t1:Qj (mOp2 pEq (mOp2 pMod (mVar 5) (mLit (.int 5))) (mLit (.int 0))) [some (.fl (ns.map .int)),some (.ref a),some (.int sg),x3,some (.ref r),some (.int q),x6,x7] g1=.ok (q%5 == 0) g1:=Yj (Qx hm rfl rfl)
  have t2:Qj (mOp2 pLt (mOp2 pMod (mVar 5) (mLit (.int 5))) (mLit (.int 3))) [some (.fl (ns.map .int)),some (.ref a),some (.int sg),x3,some (.ref r),some (.int q),x6,x7] g1=.ok (decide (q%5<3)) g1:=Yj (Qx hm rfl rfl)
  cases h0:(q%5 == 0) with
  |true =>
    rw[h0]at t1
    exact⟨ts,k+1,g1,by omega,by omega,k1.mono (by simp),ga1,gr1,hts,.inl ⟨Qk _ g1 hA (Qc4 (ift g1 t1 rfl)),rfl⟩⟩
  |false =>
    rw[h0]at t1
    have hd5:mOp2 Q5 (mVar 5) (mLit (.int 5)) [some (.fl (ns.map .int)),some (.ref a),some (.int sg),x3,some (.ref r),some (.int q),x6,x7] g1=.ok (.int (q/5)) g1:=Qx rfl rfl (divP (by decide) (by decide))
    cases h3:decide (q%5<3) with
    |true =>
      rw[h3]at t2
      have ev:mOpA pTup (Qb (mLit (.str "one")) (Qb (mOp2 pMod (mOp2 Q5 (mVar 5) (mLit (.int 5))) (mVar 2)) mNil)) [some (.fl (ns.map .int)),some (.ref a),some (.int sg),x3,some (.ref r),some (.int q),x6,x7] g1=.ok (tkD (.one (q/5%sg))) g1:=Qc5 (QC (g1:=g1) rfl (QC (Qx (y:=.int sg) (g2:=g1) hd5 rfl (modP (by omega))) rfl)) rfl
      refine⟨ts++[.one (q/5%sg)],k+1,g1.set r (.lst (ts.map tkD++[tkD (.one (q/5%sg))])),by omega,by omega,(k1.mono (by simp)).trans ((Keeps.set _ _).mono (by simp)),?_,?_,λt ht=>?_,.inr ⟨_,_,_,Qk _ g1 hA (Qk _ g1 (iff' g1 t1 rfl) (ift g1 t2 (Qal rfl gr1 ev (by rw[Uc];omega)))),by simp,by simp⟩⟩
      · rw[Uo (λz=>har z.symm)];exact ga1
      · rw[Q9 gr1,US];rfl
      · rcases UB.mp ht with z|z
        · exact hts t z
        · rw[Up.mp z];exact⟨UT _ (by omega),UL _ (by omega)⟩
    |false =>
      rw[h3]at t2
      obtain⟨w,g2,e2,w1,w2,w3,k2,ga2⟩:=Qkb ns (sg:=sg) hs ga1 (by omega) (by omega)
      rw[show k+1+2=k+3 by omega]at ga2
      have gr2:g2[r]?=some (.lst (ts.map tkD)):=k2.at' _ _ (by simp;omega) gr1
      obtain⟨os,o1,o2,e3⟩:=QlQ (x0:=some (.fl (ns.map .int))) (x1:=some (.ref a)) (x2:=some (.int sg)) (x3:=x3) (x4:=some (.ref r)) (x5:=some (.int q)) (x7:=x7) (g:=g2) w2 w3
      have k3:Keeps [] g2 (g2++[.lst (os.map tkD)]):=.push _
      have p3:(g2++[GO.lst (os.map tkD)])[g2.length]?=some (.lst (os.map tkD)):=Qw _
      have hro:r<g2.length:=Zw gr2
      have hor:g2.length≠r:=by omega
      generalize g2.length=o at p3 e3 hor
      generalize g2++[GO.lst (os.map tkD)]=g3 at e3 k3 p3
      have gr3:=k3.at' _ _ (by simp) gr2
      have ga3:=k3.at' _ _ (by simp) ga2
      have hr3:=Zw gr3
      have hm5:∀h,mOp2 pMod (mOp2 Q5 (mVar 5) (mLit (.int 5))) (mLit (.int 6)) [some (.fl (ns.map .int)),some (.ref a),some (.int sg),x3,some (.ref r),some (.int q),some (.tup (w.map .int)),some (.ref o)] h=.ok (.int (q/5%6)) h:=λh=>Qx (g1:=h) (g2:=h) (Qx (g1:=h) (g2:=h) rfl rfl (divP (by decide) (by decide))) rfl (modP (by decide))
      have hm120:∀h,mOp2 pMod (mOp2 Q5 (mVar 5) (mLit (.int 120))) (mLit (.int 6)) [some (.fl (ns.map .int)),some (.ref a),some (.int sg),x3,some (.ref r),some (.int q),some (.tup (w.map .int)),some (.ref o)] h=.ok (.int (q/120%6)) h:=λh=>Qx (g1:=h) (g2:=h) (Qx (g1:=h) (g2:=h) rfl rfl (divP (by decide) (by decide))) rfl (modP (by decide))
      have hm30:∀h,mOp2 pMod (mOp2 Q5 (mVar 5) (mLit (.int 30))) (mLit (.int 4)) [some (.fl (ns.map .int)),some (.ref a),some (.int sg),x3,some (.ref r),some (.int q),some (.tup (w.map .int)),some (.ref o)] h=.ok (.int (q/30%4)) h:=λh=>Qx (g1:=h) (g2:=h) (Qx (g1:=h) (g2:=h) rfl rfl (divP (by decide) (by decide))) rfl (modP (by decide))
      have six:∀h0,r<h0.length->h0[o]?=some (.lst (os.map tkD))->Ev h0 r os [some (.fl (ns.map .int)),some (.ref a),some (.int sg),x3,some (.ref r),some (.int q),some (.tup (w.map .int)),some (.ref o)] (mOpA newL mNil)/\Ev h0 r os [some (.fl (ns.map .int)),some (.ref a),some (.int sg),x3,some (.ref r),some (.int q),some (.tup (w.map .int)),some (.ref o)] (mVar 7)/\Ev h0 r os [some (.fl (ns.map .int)),some (.ref a),some (.int sg),x3,some (.ref r),some (.int q),some (.tup (w.map .int)),some (.ref o)] (QM (mVar 7) (Zp (mOp1 pNeg (mLit (.int 1)))) QB)/\Ev h0 r os [some (.fl (ns.map .int)),some (.ref a),some (.int sg),x3,some (.ref r),some (.int q),some (.tup (w.map .int)),some (.ref o)] (QM (mVar 7) QB (Zp (mLit (.int 1)))):=λh0 hr ho=>⟨QlO hr,QlP rfl ho hor,QkP rfl ho hr (λ_=>rfl) (λ_=>rfl),QkP rfl ho hr (λ_=>rfl) (λ_=>rfl)⟩
      obtain⟨s1,s2,s3,s4⟩:=six g3 hr3 p3
      obtain⟨p,us,g4,e4,k4,p4,u1,u2,u3⟩:=QkQ (i:=q/5) s1 s2 s3 s4 s2 s1 hm5 g3 .refl
      have gr4:=k4.at' _ _ (by simp) gr3
      have x1:=Qc7 (o:=mVar 4) rfl gr3 e4 gr4 p4 (λz=>u3 z.symm) (by rw[Uc,Uc];omega)
      have k5:Keeps [r] g4 (g4.set r (.lst (ts.map tkD++us.map tkD))):=.set _ _
      have gr5:(g4.set r (.lst (ts.map tkD++us.map tkD)))[r]?=some (.lst (ts.map tkD++us.map tkD)):=Q9 gr4
      generalize g4.set r (.lst (ts.map tkD++us.map tkD))=g5 at x1 k5 gr5
      have ev:mOpA pTup (Qb (mLit (.str "many")) (Qb (mVar 6) (Qb (mOp2 pMod (mOp2 Q5 (mVar 5) (mLit (.int 30))) (mLit (.int 4))) mNil))) [some (.fl (ns.map .int)),some (.ref a),some (.int sg),x3,some (.ref r),some (.int q),some (.tup (w.map .int)),some (.ref o)] g5=.ok (tkD (.many w (q/30%4))) g5:=Qc5 (QC (g1:=g5) rfl (QC (g1:=g5) rfl (QC (hm30 g5) rfl))) rfl
      have x2:=Qal (o:=mVar 4) rfl gr5 ev (by rw[Um,Uc,Uc];omega)
      have k6:Keeps [r] g5 (g5.set r (.lst (ts.map tkD++us.map tkD++[tkD (.many w (q/30%4))]))):=.set _ _
      have gr6:(g5.set r (.lst (ts.map tkD++us.map tkD++[tkD (.many w (q/30%4))])))[r]?=some (.lst (ts.map tkD++us.map tkD++[tkD (.many w (q/30%4))])):=Q9 gr5
      generalize g5.set r (.lst (ts.map tkD++us.map tkD++[tkD (.many w (q/30%4))]))=g6 at x2 k6 gr6
      have p6:=k6.at' _ _ (by simp;omega) (k5.at' _ _ (by simp;omega) (k4.at' _ _ (by simp) p3))
      obtain⟨r1,r2,r3,r4⟩:=six g6 (Zw gr6) p6
      obtain⟨p',vs,g7,e7,k7,p7,v1,v2,v3⟩:=QkQ (i:=q/120) r1 r2 r4 r3 r1 r2 hm120 g6 .refl
      have gr7:=k7.at' _ _ (by simp) gr6
      have x3':=Qc7 (o:=mVar 4) rfl gr6 e7 gr7 p7 (λz=>v3 z.symm) (by rw[Um,Um,Uc,Uc,Uc];simp;omega)
      have ga7:=k7.at' _ _ (by simp) (k6.at' _ _ (by simp;omega) (k5.at' _ _ (by simp;omega) (k4.at' _ _ (by simp) ga3)))
      refine⟨ts++us++[.many w (q/30%4)]++vs,k+3,g7.set r (.lst (ts.map tkD++us.map tkD++[tkD (.many w (q/30%4))]++vs.map tkD)),by omega,by omega,?_,?_,?_,λt ht=>?_,.inr ⟨_,_,_,Qk _ g1 hA (Qk _ g1 (iff' g1 t1 rfl) (iff' g1 t2 (Qk _ g2 (Zx (by rw[Zh (ds:=[.fl (ns.map .int),.ref a,.int sg]) (g':=g1) rfl];exact e2)) (Qk _ g3 (Zx e3) (Qk _ g5 x1 (Qk _ g6 x2 x3')))))),?_,?_⟩⟩
      · exact(k1.mono (by simp)).trans ((k2.mono (by simp)).trans (k3.all.trans (k4.all.trans ((k5.mono (by simp)).trans ((k6.mono (by simp)).trans (k7.all.trans ((Keeps.set _ _).mono (by simp))))))))
      · rw[Uo (λz=>har z.symm)];exact ga7
      · rw[Q9 gr7,US,US,US];rfl
      · rcases UB.mp ht with z|z
        · rcases UB.mp z with z|z
          · rcases UB.mp z with z|z
            · exact hts t z
            · exact o2 t (u1 t z)
          · rw[Up.mp z]
            exact⟨w1,w2,UT _ (by decide),w3,by have:=UL (q/30) (show(0:Int)<4 by decide);omega⟩
        · exact o2 t (v1 t z)
      · simp;omega
      · simp;omega
theorem Qcj(ns:List Int){a r sg most:Nat}(hs:0<sg)(har:a≠r)(hm:most<=4):∀(n:Nat)(ts:List Tk)(k:Int)(x5 x6 x7:Option D)(g:G),most-ts.length<=n->g[a]?=some (.lst [.int k])->g[r]?=some (.lst (ts.map tkD))->0<=k->k+3*n<800000000->(∀t∈ts,TkL sg t)->ts.length<=18 ->
    ∃(f:Nat)(ts':List Tk)(k':Int)(g':G),k<=k'/\k'<=k+3*n/\Keeps [a,r] g g'/\g'[a]?=some (.lst [.int k'])/\g'[r]?=some (.lst (ts'.map tkD))/\(∀t∈ts',TkL sg t)/\ts'.length<=18 /\
      (ZJ (Qj (mOp2 pLt (mOp1 pLen (mVar 4)) (mVar 3))) Yc f [some (.fl (ns.map .int)),some (.ref a),some (.int sg),some (.int most),some (.ref r),x5,x6,x7] g=.rt (.ref r) g' \/
       ∃y5 y6 y7,ZJ (Qj (mOp2 pLt (mOp1 pLen (mVar 4)) (mVar 3))) Yc f [some (.fl (ns.map .int)),some (.ref a),some (.int sg),some (.int most),some (.ref r),x5,x6,x7] g=.nx [some (.fl (ns.map .int)),some (.ref a),some (.int sg),some (.int most),some (.ref r),y5,y6,y7] g')
  |n,ts,k,x5,x6,x7,g,hn,ga,gr,hk,hk2,hts,hl=>by
    have c1:Qj (mOp2 pLt (mOp1 pLen (mVar 4)) (mVar 3)) [some (.fl (ns.map .int)),some (.ref a),some (.int sg),some (.int most),some (.ref r),x5,x6,x7] g=.ok (decide ((ts.length:Int)<most)) g:=Yj (Qx (x:=.int ts.length) (y:=.int most) (g1:=g) (g2:=g) (Yx (x:=.ref r) (g1:=g) rfl (by unfold pLen;dsimp only;rw[gr];dsimp only;rw[Uc])) rfl rfl)
    by_cases hlt:ts.length<most
    · rw[Uz (by omega)]at c1
      obtain⟨m,rfl⟩:∃m,n=m+1:=⟨n-1,by omega⟩
      obtain⟨ts1,k1,g1,a1,a2,a3,a4,a5,a6,h⟩:=Qfm ns (x3:=some (.int most)) (x5:=x5) (x6:=x6) (x7:=x7) hs ga gr har hk (by omega) hts (by omega)
      rcases h with⟨h1,h2⟩|⟨y5,y6,y7,h1,h2,h3⟩
      · refine⟨1,ts1,k1,g1,a1,by omega,a3,a4,a5,a6,by rw[h2];exact hl,.inl ?_⟩
        unfold ZJ
        rw[c1];dsimp only;rw[h1]
      · obtain⟨f,ts2,k2,g2,b1,b2,b3,b4,b5,b6,b7,b8⟩:=Qcj ns hs har hm m ts1 k1 y5 y6 y7 g1 (by omega) a4 a5 (by omega) (by omega) a6 (by omega)
        refine⟨f+1,ts2,k2,g2,by omega,by omega,a3.trans b3,b4,b5,b6,b7,?_⟩
        unfold ZJ
        rw[c1];dsimp only;rw[h1];exact b8
    · rw[Ul (by omega)]at c1
      refine⟨1,ts,k,g,by omega,by omega,.refl,ga,gr,hts,hl,.inr ⟨x5,x6,x7,?_⟩⟩
      unfold ZJ
      rw[c1]
  termination_by n=>n
theorem QeF(ns:List Int){a sg most:Nat}{k:Int}{g:G}(hs:0<sg)(hm:most<=4)(ga:g[a]?=some (.lst [.int k]))(hk:0<=k)(hk2:k<700000000):
  ∃(r:Nat)(ts:List Tk)(k':Int)(g':G),Qag [.fl (ns.map .int),.ref a,.int sg,.int most] g=.ok (.ref r) g'/\g.length<=r/\g'[r]?=some (.lst (ts.map tkD))/\(∀t∈ts,TkL sg t)/\ts.length<=18/\k<=k'/\k'<=k+12/\Keeps [a] g g'/\g'[a]?=some (.lst [.int k']):=by
 have k0:Keeps [] g (g++[.lst []]):=.push _
 have p0:(g++[GO.lst []])[g.length]?=some (.lst []):=Qw _
 have hal:=Zw ga
 obtain⟨f,ts,k',g',a1,a2,a3,a4,a5,a6,a7,h⟩:=Qcj ns (a:=a) (r:=g.length) (sg:=sg) (most:=most) hs (by omega) hm 4 [] k none none none (g++[.lst []]) (by simp;omega) (k0.at' _ _ (by simp) ga) p0 hk (by omega) (λt h=>by cases h) (RY _)
 have kk:Keeps [a] g g':=⟨Ur k0.len a3.len,λi o hi h=>a3.at' _ _ (by have:=Zw h;simp at hi ⊢;omega) (k0.at' _ _ (by simp) h)⟩
 refine⟨g.length,ts,k',g',ZD rfl ?_,Ui _,a5,a6,a7,a1,by omega,kk,a4⟩
 show Qbg [some (.fl (ns.map .int)),some (.ref a),some (.int sg),some (.int most),none,none,none,none] g=_
 unfold Qbg
 refine Qk [some (.fl (ns.map .int)),some (.ref a),some (.int sg),some (.int most),some (.ref g.length),none,none,none] (g++[.lst []]) (Zx rfl) ?_
 rcases h with h|⟨y5,y6,y7,h⟩
 ·exact Qc4 (QdK h (λz=>by cases z))
 ·exact Qk _ g' (QdK h (λz=>by cases z)) rfl
theorem Qoj(i:Int)(g:G):∃f,lrS f/\pIx (.str "lr") (.int (i%2)) g=.ok (.str f) g:=by
 rw[s_lr]
 rcases(by omega:i%2=0\/i%2=1) with e|e
 ·rw[e]
  refine⟨Str.ofString "l",.inl rfl,?_⟩
  rw[s_l]
  unfold pIx
  dsimp only
  rw[Ue (by decide)]
  rfl
 ·rw[e]
  refine⟨Str.ofString "r",.inr rfl,?_⟩
  rw[s_r]
  unfold pIx
  dsimp only
  rw[Ue (by decide)]
  rfl
theorem QiC(ns:List Int){a states sg:Nat}{k:Int}{g:G}(hst:0<states)(hs:0<sg)(ga:g[a]?=some (.lst [.int k]))(hk:0<=k)(hk2:k<600000000):
  ∃(st:Int)(f:Str)(l r:Nat)(tl tr:List Tk)(k':Int)(g':G),Qca [.fl (ns.map .int),.ref a,.int states,.int sg] g=.ok (.tup [.int st,.str f,.ref l,.ref r]) g'/\(0<=st/\st<states)/\lrS f/\g'[l]?=some (.lst (tl.map tkD))/\g'[r]?=some (.lst (tr.map tkD))/\(∀t∈tl,TkL sg t)/\(∀t∈tr,TkL sg t)/\tl.length<=18/\tr.length<=18/\k<=k'/\k'<=k+25/\Keeps [a] g g'/\g'[a]?=some (.lst [.int k'])/\g.length<=l/\l<r:=by
 obtain⟨q,q0,q1,e1⟩:=QaH ns a k g ga hk (by omega)
 have k1:Keeps [a] g (g.set a (.lst [.int (k+1)])):=.set _ _
 have ga1:(g.set a (.lst [.int (k+1)]))[a]?=some (.lst [.int (k+1)]):=Q9 ga
 generalize g.set a (.lst [.int (k+1)])=g1 at e1 k1 ga1
 have hal:=Zw ga
 obtain⟨l,tl,kl,g2,e2,l1,l2,l3,l4,l5,l6,l7,l8⟩:=QeF ns (most:=(q/2%5).toNat) hs (by omega) ga1 (by omega) (by omega)
 obtain⟨r,tr,kr,g3,e3,r1,r2,r3,r4,r5,r6,r7,r8⟩:=QeF ns (most:=(q/10%5).toNat) hs (by omega) l8 (by omega) (by omega)
 rw[show(((q/2%5).toNat:Nat):Int)=q/2%5 by omega]at e2
 rw[show(((q/10%5).toNat:Nat):Int)=q/10%5 by omega]at e3
 obtain⟨f,hf,ef⟩:=Qoj q g3
 have hll:=Zw l2
 have:=k1.len
 refine⟨q/50%states,f,l,r,tl,tr,kr,g3,ZD rfl ?_,⟨UT _ (by omega),UL _ (by omega)⟩,hf,r7.at' _ _ (by simp;omega) l2,r2,l3,r3,l4,r4,by omega,by omega,k1.trans (l7.trans r7),r8,by omega,by omega⟩
 show Qb9 [some (.fl (ns.map .int)),some (.ref a),some (.int states),some (.int sg),none,none,none] g=_
 unfold Qb9
 refine Qk [some (.fl (ns.map .int)),some (.ref a),some (.int states),some (.int sg),some (.int q),none,none] g1 (Zx (by rw[Zh (ds:=[.fl (ns.map .int),.ref a]) (g':=g) rfl];exact e1)) ?_
 refine Qk [some (.fl (ns.map .int)),some (.ref a),some (.int states),some (.int sg),some (.int q),some (.ref l),none] g2 (Zx ?_) ?_
 ·rw[Zh (ds:=[.fl (ns.map .int),.ref a,.int sg,.int (q/2%5)]) (g':=g1) (QC (g1:=g1) rfl (QC (g1:=g1) rfl (QC (g1:=g1) rfl (QC (g1:=g1) (Qx (g1:=g1) (g2:=g1) (Qx (g1:=g1) (g2:=g1) rfl rfl (divP (by decide) (by decide))) rfl (modP (by decide))) rfl))))]
  exact e2
 refine Qk [some (.fl (ns.map .int)),some (.ref a),some (.int states),some (.int sg),some (.int q),some (.ref l),some (.ref r)] g3 (Zx ?_) (JH ?_)
 ·rw[Zh (ds:=[.fl (ns.map .int),.ref a,.int sg,.int (q/10%5)]) (g':=g2) (QC (g1:=g2) rfl (QC (g1:=g2) rfl (QC (g1:=g2) rfl (QC (g1:=g2) (Qx (g1:=g2) (g2:=g2) (Qx (g1:=g2) (g2:=g2) rfl rfl (divP (by decide) (by decide))) rfl (modP (by decide))) rfl))))]
  exact e3
 ·exact Qc5 (QC (g1:=g3) (Qx (y:=.int states) (g1:=g3) (g2:=g3) (Qx (g1:=g3) (g2:=g3) rfl rfl (divP (by decide) (by decide))) rfl (modP (by omega))) (QC (g1:=g3) (Qx (x:=.str "lr") (y:=.int (q%2)) (g1:=g3) (g2:=g3) rfl (Qx rfl rfl (modP (by decide))) ef) (QC (g1:=g3) rfl (QC (g1:=g3) rfl rfl)))) rfl
theorem Qkd{st:Int}{f:Str}{l r:Nat}{xs ys:List D}{g:G}(hl:g[l]?=some (.lst xs))(hr:g[r]?=some (.lst ys)):QbK [.tup [.int st,.str f,.ref l,.ref r]] g=.ok (.tup [.int st,.str f,.tup xs,.tup ys]) g:=by
 refine ZD rfl ?_
 show QdD [some (.tup [.int st,.str f,.ref l,.ref r]),none,none,none,none] g=_
 unfold QdD
 refine Qk [some (.tup [.int st,.str f,.ref l,.ref r]),some (.int st),some (.str f),some (.ref l),some (.ref r)] g rfl (JH ?_)
 have p1:Zq (.ref l) g=.ok (.tup xs) g:=by unfold Zq;dsimp only;rw[hl]
 have p2:Zq (.ref r) g=.ok (.tup ys) g:=by unfold Zq;dsimp only;rw[hr]
 exact Qc5 (QC (g1:=g) rfl (QC (g1:=g) rfl (QC (g1:=g) (Yx (x:=.ref l) (g1:=g) rfl p1) (QC (g1:=g) (Yx (x:=.ref r) (g1:=g) rfl p2) rfl)))) rfl
inductive Sm(g:G):Nat->D->D->Prop
 |int (f:Nat) (i:Int):Sm g (f+1) (.int i) (.int i)
 |str (f:Nat) (s:Str):Sm g (f+1) (.str s) (.str s)
 |seq (f:Nat) (x y:D) (b:Bool) (xs ys:List D) (h1:QK g x=some (b,xs)) (h2:QK g y=some (b,ys)) (hl:xs.length=ys.length) (hz:xs.length<=100000) (hi:∀(i:Nat) u v,xs[i]?=some u->ys[i]?=some v->Sm g f u v):Sm g (f+1) x y
theorem QiD{g:G}{x:D}{b:Bool}{xs:List D}(h:QK g x=some (b,xs)):pLen x g=.ok (.int xs.length) g:=by
 cases x with
 |ref n =>
  unfold QK at h
  unfold pLen
  dsimp only at h ⊢
  cases hg:g[n]? with
  |none=>rw[hg]at h;cases h
  |some o =>
   rw[hg]at h
   cases o with
   |lst ds=>cases h;rfl
   |_=>cases h
 |tup ds=>cases h;rfl
 |fl ds=>cases h;rfl
 |_=>cases h
theorem QeG:∀n:Nat,allB (List.replicate n (.bl true))=some true
 |0=>rfl
 |n+1=>by rw[Uw];unfold allB;rw[QeG n];rfl
theorem QiE{g:G}:∀{f:Nat}{x y:D},Sm g f x y->∀g1,Keeps [] g g1->∃g2,Ym f [x,y] g1=.ok (.bl true) g2/\Keeps [] g1 g2
 |0,_,_,h,_,_=>by cases h
 |f+1,x,y,h,g1,k=>by
  cases h with
  |int _ i =>
   refine⟨g1,ZD rfl ?_,.refl⟩
   show Jw (Ym f) [some (.int i),some (.int i)] g1=_
   unfold Jw
   refine Qk [some (.int i),some (.int i)] g1 rfl (Qk [some (.int i),some (.int i)] g1 rfl (Qk [some (.int i),some (.int i)] g1 rfl (JH ?_)))
   have e:pEq (.int i) (.int i) g1=.ok (.bl true) g1:=by rw[eq_int,Rq]
   show mOp2 pEq (mVar 0) (mVar 1) [some (.int i),some (.int i)] g1=_
   exact Qx (x:=.int i) (y:=.int i) (g1:=g1) (g2:=g1) rfl rfl e
  |str _ s =>
   refine⟨g1,ZD rfl ?_,.refl⟩
   show Jw (Ym f) [some (.str s),some (.str s)] g1=_
   unfold Jw
   refine Qk [some (.str s),some (.str s)] g1 rfl (Qk [some (.str s),some (.str s)] g1 rfl (Qc4 (ift g1 rfl (JH ?_))))
   have e:pEq (.str s) (.str s) g1=.ok (.bl true) g1:=by rw[eq_s,YC]
   exact Qci (g1:=g1) rfl (Qx (x:=.str s) (y:=.str s) (g1:=g1) (g2:=g1) rfl rfl e)
  |seq _ _ _ b xs ys h1 h2 hl hz hi =>
   have s1:=QG h1 k
   have s2:=QG h2 k
   obtain⟨src,e1,e2,e3⟩:=QlK s1 s2 hl
   obtain⟨ds,σ',g2,c1,c2,c3,_⟩:=Yd (src:=src) (t:=QcD [gSet 0,gSet 1]) (c:=ZS) (e:=Ql (Ym f) (Qb (mVar 0) (Qb (mVar 1) mNil))) (n:=xs.length)
    (λi σ' g4 acc=>acc=List.replicate i (.bl true)/\Keeps [] g1 g4/\∃u v,σ'=[u,v]) (λi σ' g4 acc hi' hQ=>by
     obtain⟨q1,q2,u,v,q3⟩:=hQ
     subst q3
     have hy:i<ys.length:=by omega
     obtain⟨g5,a1,a2⟩:=QiE (hi i xs[i] ys[i] (by simp[hi']) (by simp[hy])) g4 (k.trans q2)
     refine⟨.tup [xs[i],ys[i]],[some xs[i],some ys[i]],g4,(e3 g4 (QG s1 q2) (QG s2 q2)).2 i _ _ (by simp[hi']) (by simp[hy]),rfl,.inl ⟨.bl true,g5,rfl,?_,?_,q2.trans a2,_,_,rfl⟩⟩
     ·rw[Zh (ds:=[xs[i],ys[i]]) (g':=g4) rfl];exact a1
     ·rw[q1,WJ]) (λσ g4 acc hQ=>(e3 g4 (QG s1 hQ.2.1) (QG s2 hQ.2.1)).1) (src.top+1) 0 [none,none] g1 [] (by omega) (by omega) ⟨rfl,.refl,none,none,rfl⟩
   subst c2
   have c4:=JW (it:=Qem (mVar 0) (mVar 1)) (n:=2) (cap:=[]) (σ:=[some x,some y]) (t:=QcD [gSet 0,gSet 1]) (c:=ZS) (σ0:=[none,none]) (g:=g1) (by
    unfold Qem
    rw[show mVar 0 [some x,some y] g1=.ok x g1 from rfl,Res.bind_ok,show mVar 1 [some x,some y] g1=.ok y g1 from rfl,Res.bind_ok]
    exact e1) (by rw[e2];exact UY (JI hz)) rfl c1
   have kk:Keeps [] g2 (g2++[.lst (List.replicate xs.length (.bl true))]):=.push _
   refine⟨_,ZD rfl ?_,c3.trans kk⟩
   show Jw (Ym f) [some x,some y] g1=_
   have ty1:=QdJ s1
   have ty2:=QdJ s2
   have is0:∀c:Ty,mOp1 (ZT c) (mVar 0) [some x,some y] g1=.ok (.bl (tyLe (if b then .list else .tuple) c)) g1:=λc=>Yx (x:=x) (g1:=g1) rfl (by unfold ZT;rw[ty1])
   have is1:∀c:Ty,mOp1 (ZT c) (mVar 1) [some x,some y] g1=.ok (.bl (tyLe (if b then .list else .tuple) c)) g1:=λc=>Yx (x:=y) (g1:=g1) rfl (by unfold ZT;rw[ty2])
   have ne:∀c:Ty,Qj (mOp2 pNe (mOp1 (ZT c) (mVar 0)) (mOp1 (ZT c) (mVar 1))) [some x,some y] g1=.ok false g1:=λc=>Yj (Qx (is0 c) (is1 c) (by cases (tyLe (if b then .list else .tuple) c) <;> rfl))
   have t1:mOrT (Qj (mOp1 (ZT .list) (mVar 1))) (Qj (mOp1 (ZT .tuple) (mVar 1))) [some x,some y] g1=.ok true g1:=by
    unfold mOrT
    rw[Yj (is1 .list),Res.bind_ok,Yj (is1 .tuple)]
    cases b <;> rfl
   have e5:mOp2 pEq (mOp1 pLen (mVar 0)) (mOp1 pLen (mVar 1)) [some x,some y] g1=.ok (.bl true) g1:=Qx (x:=.int xs.length) (y:=.int ys.length) (g1:=g1) (g2:=g1) (Yx (x:=x) (g1:=g1) rfl (QiD s1)) (Yx (x:=y) (g1:=g1) rfl (QiD s2)) (by rw[eq_int,hl,Rq])
   unfold Jw
   have td:Qj (mOp1 (ZT .dict) (mVar 1)) [some x,some y] g1=.ok false g1:=by rw[Yj (is1 .dict)];cases b <;> rfl
   refine Qk [some x,some y] g1 (iff' g1 td rfl) (Qc4 (ift g1 t1 (Qk [some x,some y] g1 (iff' g1 (Qoi (ne .list) (ne .tuple)) rfl) (JH ?_))))
   unfold mAnd
   rw[e5,Res.bind_ok]
   dsimp only
   rw[Ue rfl]
   refine Yx c4 ?_
   unfold pAll
   dsimp only
   rw[Qw]
   dsimp only
   rw[QeG]
theorem Qno{g:G}{f:Nat}{ds:List D}(hz:ds.length<=100000)(h:∀u∈ds,Sm g f u u):Sm g (f+1) (.tup ds) (.tup ds):=.seq _ _ _ false ds ds rfl rfl rfl hz (λi u v h1 h2=>by
 rw[h1]at h2;cases h2
 exact h u (U4 h1))
section
variable{σ:S3}{g:G}
@[simp] theorem Qo4{k n:Nat}{b:MS}{ds:List D}:mDef k n b ds g=if ds.length=k then (match b (ds.map some++List.replicate n none) g with | .nx _ g'=>.ok .non g' | .rt d g'=>.ok d g' | .raise e _ g'=>.raise e g'|_=>.stuck) else .stuck:=rfl
@[simp] theorem Qnp:QB σ g=.ok none g:=rfl
@[simp] theorem Qok{a:ME}:Zp a σ g=(match a σ g with | .ok (.int i) g1=>.ok (some i) g1 | .raise e g'=>.raise e g'|_=>.stuck):=by unfold Zp Res.bind;cases a σ g with|ok d g1=>cases d <;> rfl|_=>rfl
@[simp] theorem QnC{a:ME}{lo hi:MO}:QM a lo hi σ g=(match a σ g with
 |.ok x g1=>(match lo σ g1 with
  |.ok l g2=>(match hi σ g2 with | .ok h g3=>Qen x l h g3 | .raise e g'=>.raise e g' | .stuck=>.stuck)
  |.raise e g'=>.raise e g' | .stuck=>.stuck)
 |.raise e g'=>.raise e g' | .stuck=>.stuck):=by
 unfold QM Res.bind;cases a σ g with
 |ok x g1=>dsimp only;cases lo σ g1 with
  |ok l g2=>dsimp only;cases hi σ g2 <;> rfl
  |_=>rfl
 |_=>rfl
@[simp] theorem QnD{c:Nat}{t:Str}:Ze c (Qb (mLit (.str t)) mNil) σ g=.raise (c,none) σ g:=Qga _ _ _ _
@[simp] theorem Qnq{ds:List D}{lo hi:Option Int}:Qen (.tup ds) lo hi g=.ok (.tup (cutD ds lo hi)) g:=rfl
@[simp] theorem Qol{ds:List D}:pLen (.tup ds) g=.ok (.int ds.length) g:=rfl
@[simp] theorem Qom{ds:List D}:Zq (.tup ds) g=.ok (.tup ds) g:=rfl
@[simp] theorem Qpp{x:D}:pIs x .non g=.ok (.bl (isNon x)) g:=rfl
@[simp] theorem QnE{x:D}:QcV x .non g=.ok (.bl (!isNon x)) g:=rfl
@[simp] theorem Qo5{s t:Str}:pEq (.str s) (.str t) g=.ok (.bl (s == t)) g:=rfl
@[simp] theorem Qo6{s t:Str}:pNe (.str s) (.str t) g=.ok (.bl (!(s == t))) g:=rfl
@[simp] theorem Qo7{a b:Bool}:pEq (.bl a) (.bl b) g=.ok (.bl (a == b)) g:=rfl
@[simp] theorem Qo8{a b:Bool}:pNe (.bl a) (.bl b) g=.ok (.bl (!(a == b))) g:=rfl
@[simp] theorem Qon{b:Bool}:pInt (.bl b) g=.ok (.int (if b then 1 else 0)) g:=rfl
@[simp] theorem Qoo:pTup [] g=.ok (.tup []) g:=rfl
@[simp] theorem Qop{a:D}:pTup [a] g=.ok (.tup [a]) g:=rfl
@[simp] theorem Qoq{a b:D}:pTup [a,b] g=.ok (.tup [a,b]) g:=rfl
@[simp] theorem Qor{a b c:D}:pTup [a,b,c] g=.ok (.tup [a,b,c]) g:=rfl
@[simp] theorem Qos{a b c d:D}:pTup [a,b,c,d] g=.ok (.tup [a,b,c,d]) g:=rfl
@[simp] theorem Qot{a b:D}:newL [a,b] g=.ok (.ref g.length) (g++[.lst [a,b]]):=rfl
@[simp] theorem Qo9{ds:List D}:pIx (.ref g.length) (.int 0) (g++[.lst ds])=(match atD ds 0 with|some d=>.ok d (g++[.lst ds])|none=>.stuck):=by unfold pIx;dsimp only;rw[Qw];try rfl
@[simp] theorem Qpa{ds:List D}:pIx (.ref g.length) (.int 1) (g++[.lst ds])=(match atD ds 1 with|some d=>.ok d (g++[.lst ds])|none=>.stuck):=by unfold pIx;dsimp only;rw[Qw];try rfl
@[simp] theorem at0{α:Type}{a:α}{xs:List α}:atD (a::xs) 0=some a:=by simp[atD,ixD]
@[simp] theorem at1{α:Type}{a b:α}{xs:List α}:atD (a::b::xs) 1=some b:=by
 have:(1:Int)<(xs.length:Int)+1+1:=by omega
 simp[atD,ixD,this]
@[simp] theorem at2{α:Type}{a b c:α}{xs:List α}:atD (a::b::c::xs) 2=some c:=by
 have:(2:Int)<(xs.length:Int)+1+1+1:=by omega
 simp[atD,ixD,this]
@[simp] theorem at3{α:Type}{a b c d:α}{xs:List α}:atD (a::b::c::d::xs) 3=some d:=by
 have:(3:Int)<(xs.length:Int)+1+1+1+1:=by omega
 simp[atD,ixD,this]
@[simp] theorem atL{α:Type}{a:α}{xs:List α}:atD (xs++[a]) (-1)=some a:=by
 have:(-1+((xs.length:Int)+1)).toNat=xs.length:=by omega
 have h:(1:Int)<=(xs.length:Int)+1:=by omega
 simp[atD,ixD,this,h]
theorem atN{α:Type}{xs:List α}{n:Nat}{d:α}(h:xs[n]?=some d):atD xs n=some d:=by
 have:=(Ud.mp h).1
 unfold atD ixD;rw[Ue (by omega),Ue (by omega)];simp[h]
@[simp] theorem Qpb{ds:List D}{i:Int}:pIx (.tup ds) (.int i) g=(match atD ds i with|some d=>.ok d g|none=>.stuck):=rfl
theorem QcJ{xs ys:List D}(h:xs.length+ys.length<=100000):pAdd (.tup xs) (.tup ys) g=.ok (.tup (xs++ys)) g:=by unfold pAdd;dsimp only;rw[Ue (UY (JI h))]
end
@[simp] theorem QnF{α:Type}{xs:List α}{d:α}:cutD (xs++[d]) (some (-1)) none=[d]:=by
 have:(-1+((xs.length:Int)+1)).toNat=xs.length:=by omega
 simp[cutD,sIxD,this]
@[simp] theorem Qou{α:Type}{a b:Option Int}:cutD ([]:List α) a b=[]:=by simp[cutD]
@[simp] theorem Qnr{α:Type}{xs:List α}{d:α}:cutD (d::xs) none (some 1)=[d]:=by
 have:min 1 (xs.length+1)=1:=by omega
 simp[cutD,sIxD,this]
@[simp] theorem QnG{α:Type}{xs:List α}:cutD xs (some 1) none=xs.tail:=by
 cases xs with
 |nil=>simp
 |cons a r =>
  have:min 1 (r.length+1)=1:=by omega
  simp[cutD,sIxD,this]
@[simp] theorem QnH{α:Type}{xs:List α}:cutD xs none (some (-1))=xs.dropLast:=by
 have:(-1+(xs.length:Int)).toNat=xs.length-1:=by omega
 simp[cutD,sIxD,this,TY]
theorem Qgh{α:Type}{xs:List α}(n:Nat):cutD xs none (some (n:Int))=xs.take n:=by
 have:¬((n:Int)<0):=by omega
 simp[cutD,sIxD,this,List.take_eq_take_iff]
theorem QbM{α:Type}{xs:List α}(n:Nat):cutD xs (some (n:Int)) none=xs.drop n:=by
 have:¬((n:Int)<0):=by omega
 simp only[cutD,sIxD,this,TL,TH]
 rw[TW (by rw[TN];omega)]
 by_cases h:n<=xs.length
 ·rw[Wu h]
 ·rw[Wh (by omega),List.drop_length,Wn (by omega)]
noncomputable def fc(b:Bool):Str:=if b then Str.ofString "r" else Str.ofString "l"
theorem l_r:(Str.ofString "l" == Str.ofString "r")=false:=by rw[s_l,s_r];rfl
theorem r_l:(Str.ofString "r" == Str.ofString "l")=false:=by rw[s_l,s_r];rfl
@[simp] theorem fc_r{b:Bool}:(fc b == Str.ofString "r")=b:=by cases b;exact l_r;exact YC _
@[simp] theorem fc_l{b:Bool}:(fc b == Str.ofString "l") = !b:=by cases b;exact YC _;exact r_l
@[simp] theorem Qpq{a b:Bool}:(fc a == fc b)=(a == b):=by cases b;rw[show fc false=Str.ofString "l" from rfl,fc_l];cases a <;> rfl;rw[show fc true=Str.ofString "r" from rfl,fc_r];cases a <;> rfl
theorem lrS.fc{f:Str}(h:lrS f):∃b,f=fc b:=by
 rcases h with rfl|rfl
 ·exact⟨false,rfl⟩
 ·exact⟨true,rfl⟩
theorem fc.lr(b:Bool):lrS (fc b):=by cases b;exact .inl rfl;exact .inr rfl
@[simp] theorem Qpr:Str.ofString "r" = fc true:=rfl
@[simp] theorem Qps:Str.ofString "l" = fc false:=rfl
noncomputable def shD(st:Int)(b:Bool)(L R:List D):D:=.tup [.int st,.str (fc b),.tup L,.tup R]
noncomputable def ahd(b:Bool)(L R:List D):Option D:=if b then R.head? else L.getLast?
noncomputable def rsL(b:Bool)(L:List D):List D:=if b then L else L.dropLast
noncomputable def rsR(b:Bool)(R:List D):List D:=if b then R.tail else R
theorem Qaz{st:Int}{b:Bool}{L R:List D}{g:G}:ZF [shD st b L R] g=.ok ((ahd b L R).getD .non) g:=by
 cases b
 ·rcases U2 L with rfl|⟨L,d,rfl⟩ <;> simp[ZF,Jt,shD,ahd]
 ·cases R <;> simp[ZF,Jt,shD,ahd]
theorem Qck{st:Int}{b:Bool}{L R X:List D}{g:G}(hz:L.length+R.length+X.length<=10000):QT [shD st b L R,.tup X] g=.ok (if b then shD st b L (X++R.tail) else shD st b (L.dropLast++X) R) g:=by
 cases b
 ·simp[QT,ZU,shD,QcJ (g:=g) (xs:=L.dropLast) (ys:=X) (by simp;omega)]
 ·simp[QT,ZU,shD,QcJ (g:=g) (xs:=X) (ys:=R.tail) (by simp;omega)]
noncomputable def gone(b:Bool)(L R:List D)(s:Int)(w:Bool)(t:D):D:=if w then shD s w (rsL b L++[t]) (rsR b R) else shD s w (rsL b L) (t::rsR b R)
theorem QiF{st s:Int}{b w:Bool}{L R:List D}{t:D}{g:G}(hz:L.length+R.length<=1000):JU [shD st b L R,.int s,.str (fc w),t] g=.ok (gone b L R s w t) g:=by
 have e:=Qck (st:=st) (b:=b) (L:=L) (R:=R) (X:=[]) (g:=g) (by simp;omega)
 have a1:pAdd (.tup (rsL b L)) (.tup [t]) g=.ok (.tup (rsL b L++[t])) g:=QcJ (by unfold rsL;split <;> simp <;> omega)
 have a2:pAdd (.tup [t]) (.tup (rsR b R)) g=.ok (.tup (t::rsR b R)) g:=QcJ (by unfold rsR;split <;> simp <;> omega)
 unfold rsL at a1
 unfold rsR at a2
 cases b <;> cases w <;> simp[shD]at e a1 a2 <;> simp[JU,Qez,shD,e,gone,a1,a2,rsL,rsR]
section
variable{σ:S3}{g:G}
@[simp] theorem Qov{i j k:Nat}{a:ME}:mAsg (QcD [gSet i,gSet j,gSet k]) a σ g=(match a σ g with | .ok (.tup [x,y,z]) g'=>.nx (((σ.set i (some x)).set j (some y)).set k (some z)) g' | .ok _ _=>.stuck | .raise e g'=>.raise e σ g' | .stuck=>.stuck):=by
 unfold mAsg;cases a σ g with
 |ok d g'=>cases d with
  |tup ds=>match ds with
   |[]=>rfl
   |[_]=>rfl
   |[_,_]=>rfl
   |[_,_,_]=>rfl
   |_::_::_::_::_=>rfl
  |_=>rfl
 |_=>rfl
@[simp] theorem Qow{i j k l:Nat}{a:ME}:mAsg (QcD [gSet i,gSet j,gSet k,gSet l]) a σ g=(match a σ g with | .ok (.tup [x,y,z,w]) g'=>.nx ((((σ.set i (some x)).set j (some y)).set k (some z)).set l (some w)) g' | .ok _ _=>.stuck | .raise e g'=>.raise e σ g' | .stuck=>.stuck):=by
 unfold mAsg;cases a σ g with
 |ok d g'=>cases d with
  |tup ds=>match ds with
   |[]=>rfl
   |[_]=>rfl
   |[_,_]=>rfl
   |[_,_,_]=>rfl
   |[_,_,_,_]=>rfl
   |_::_::_::_::_::_=>rfl
  |_=>rfl
 |_=>rfl
end
@[simp] theorem s_om:(Str.ofString "one" == Str.ofString "many")=false:=Qj8
@[simp] theorem s_mo:(Str.ofString "many" == Str.ofString "one")=false:=Qgb
@[simp] theorem s_ss{s:Str}:(s == s)=true:=YC s
@[simp] theorem Qpc{t:Tk}:isNon (tkD t)=false:=by cases t <;> rfl
noncomputable def ahT(b:Bool)(L R:List Tk):Option Tk:=if b then R.head? else L.getLast?
theorem QiG{b:Bool}{L R:List Tk}:ahd b (L.map tkD) (R.map tkD)=(ahT b L R).map tkD:=by cases b <;> simp[ahd,ahT]
theorem QaI{b:Bool}{L R:List Tk}{t:Tk}{P:Tk->Prop}(h:ahT b L R=some t)(hL:∀t∈L,P t)(hR:∀t∈R,P t):P t:=by
 cases b
 ·exact hL t (List.mem_of_getLast? h)
 ·exact hR t (List.mem_of_head? h)
structure Tbl(rows:List (List D))(n m:Nat):Prop where
 n0:0<n
 m0:0<m
 len:rows.length=n
 row:∀r∈rows,r.length=m
 ent:∀r∈rows,∀d∈r,entOk d n m
noncomputable abbrev En:=Option (Int×Bool×Int)
noncomputable def enc:En->D
 |none=>.non
 |some (a,w,s)=>.tup [.int a,.str (fc w),.int s]
noncomputable def dec:D->En
 |.tup [.int a,.str w,.int s]=>some (a,w == Str.ofString "r",s)
 |_=>none
noncomputable def en(rows:List (List D))(st s:Int):En:=dec (((rows[st.toNat]?.getD [])[s.toNat]?).getD .non)
theorem QlR{d:D}{n m:Nat}(h:entOk d n m):d=enc (dec d)/\∀a w s,dec d=some (a,w,s)->(0<=a/\a<m)/\0<=s/\s<n:=by
 rcases h with rfl|⟨i,j,w,rfl,h1,h2,h3,h4,h5⟩
 ·exact⟨rfl,λa w s h=>by cases h⟩
 ·refine⟨?_,λa w s h=>by cases h;exact⟨⟨h1,h2⟩,h3,h4⟩⟩
  rcases h5 with rfl|rfl
  ·rw[<-s_l];show _=enc (some (i,(fc false == Str.ofString "r"),j));rw[fc_r];rfl
  ·rw[<-s_r];show _=enc (some (i,(fc true == Str.ofString "r"),j));rw[fc_r];rfl
theorem Tbl.at'{rows:List (List D)}{n m:Nat}(h:Tbl rows n m){st s:Int}(h0:0<=st)(h1:st<n)(h2:0<=s)(h3:s<m):
  ∃r,rows[st.toNat]?=some r/\r[s.toNat]?=some (enc (en rows st s))/\∀a w s',en rows st s=some (a,w,s')->(0<=a/\a<m)/\0<=s'/\s'<n:=by
 have hl:=h.len
 have e1:rows[st.toNat]?=some rows[st.toNat]:=Uq (by omega)
 have hr:=UX (l:=rows) (n:=st.toNat) (by omega)
 have hm:=h.row _ hr
 have e2:(rows[st.toNat])[s.toNat]?=some ((rows[st.toNat])[s.toNat]):=Uq (by omega)
 obtain⟨q1,q2⟩:=QlR (h.ent _ hr _ (UX (l:=rows[st.toNat]) (n:=s.toNat) (by omega)))
 have e3:en rows st s=dec ((rows[st.toNat])[s.toNat]):=by unfold en;rw[e1,T6,e2,T6]
 exact⟨_,e1,by rw[e3,<-q1];exact e2,by rw[e3];exact q2⟩
theorem Tbl.prog{rows:List (List D)}{n m:Nat}(h:Tbl rows n m){st s:Int}(h0:0<=st)(h1:st<n)(h2:0<=s)(h3:s<m):∃r,atD (rows.map D.tup) st=some (.tup r)/\atD r s=some (enc (en rows st s)):=by
 obtain⟨r,e1,e2,_⟩:=h.at' h0 h1 h2 h3
 have a1:((st.toNat:Nat):Int)=st:=by omega
 have a2:((s.toNat:Nat):Int)=s:=by omega
 refine⟨r,?_,?_⟩
 ·rw[<-a1];exact atN (by rw[Uy,e1];rfl)
 ·rw[<-a2];exact atN e2
theorem Tbl.law{rows:List (List D)}{n m N t:Nat}{g:G}(h:Tbl rows n m)(ht:tabOf N g t rows){st s:Int}(h0:0<=st)(h1:st<n)(h2:0<=s)(h3:s<m):∃q,pIx (.ref t) (.int st) g=.ok (.ref q) g/\pIx (.ref q) (.int s) g=.ok (enc (en rows st s)) g:=by
 obtain⟨r,e1,e2,_⟩:=h.at' h0 h1 h2 h3
 obtain⟨_,ds,d1,d2,d3⟩:=ht
 have hl:=(Ud.mp e1).1
 have e0:ds[st.toNat]?=some ds[st.toNat]:=Uq (by omega)
 obtain⟨q,hq,_,_,gq⟩:=d3 _ _ _ e0 e1
 rw[hq]at e0
 exact⟨q,Qc6 d1 h0 e0,Qc6 gq h2 e2⟩
noncomputable def ste(rows:List (List D))(st:Int)(b:Bool)(L R:List Tk)(s:Int):Option D:=(en rows st s).map λe=>gone b (L.map tkD) (R.map tkD) e.2.2 e.2.1 (tkD (.one e.1))
noncomputable def QiH(rows:List (List D))(st:Int)(b:Bool)(L R:List Tk):Option D:=match ahT b L R with
 |none=>ste rows st b L R 0
 |some (.one s)=>ste rows st b L R s
 |some (.many _ _)=>none
noncomputable def Pr(o:Option D)(g:G):Res D:=match o with
 |some d=>.ok d g
 |none=>.raise (8,none) g
@[simp] theorem Qox{e:En}:isNon (enc e)=e.isNone:=by cases e <;> rfl
section
variable{rows:List (List D)}{n m K:Nat}{st:Int}{b:Bool}{L R:List Tk}{g:G}
theorem QdL{M:Nat}(hM:g[M]?=some (JL rows))(hT:Tbl rows n m)(h0:0<=st)(h1:st<n)(hL:∀t∈L,TkK K m t)(hR:∀t∈R,TkK K m t)(hz:L.length+R.length<=1000):
  Z0 [.ref M,shD st b (L.map tkD) (R.map tkD)] g=Pr (QiH rows st b L R) g:=by
 have hA:∀i σ,σ[i]?=some (some (.ref M))->QcE [11] "table" (mVar i) σ g=.ok (.tup (rows.map .tup)) g:=λi σ h=>Qbi h hM
 have e1:=Qaz (st:=st) (b:=b) (L:=L.map tkD) (R:=R.map tkD) (g:=g)
 rw[QiG]at e1
 have G:=λs w t=>QiF (st:=st) (s:=s) (b:=b) (w:=w) (L:=L.map tkD) (R:=R.map tkD) (t:=t) (g:=g) (by simp;omega)
 have key:∀s:Int,0<=s->s<m->∃r,atD (rows.map D.tup) st=some (.tup r)/\atD r s=some (enc (en rows st s)):=λs h2 h3=>hT.prog h0 h1 h2 h3
 simp only[shD]at e1 G ⊢
 unfold QiH ste
 cases ha:ahT b L R with
 |none =>
  obtain⟨r,k1,k2⟩:=key 0 (by omega) (by have:=hT.m0;omega)
  rw[ha]at e1
  cases he:en rows st 0 <;> rw[he]at k2 <;> simp[Z0,YZ,e1,isNon,hA,k1,k2,enc,Pr,G,tkD]
 |some t =>
  rw[ha]at e1
  have ht:=QaI ha hL hR
  cases t with
  |many w k=>simp[Z0,YZ,e1,isNon,Pr,tkD]
  |one s =>
   obtain⟨r,k1,k2⟩:=key s ht.1 ht.2
   cases he:en rows st s <;> rw[he]at k2 <;> simp[Z0,YZ,e1,isNon,hA,k1,k2,enc,Pr,G,tkD,he]
end
noncomputable def ones(w:List Int):List D:=w.map λs=>tkD (.one s)
theorem QiI{it:ME}{σ:S3}{g:G}{w:List Int}(h:it σ g=.ok (.tup (w.map .int)) g)(hz:w.length<=1000):mOp1 Zq (Yf (QN it) 1 [] (gSet 0) ZS (mOpA pTup (Qb (mLit (.str "one")) (Qb (mVar 0) mNil)))) σ g=.ok (.tup (ones w)) (g++[.lst (ones w)]):=by
 obtain⟨xs,σ',g3,c1,c2,c3,_⟩:=Yd (src:=⟨λ_ i=>some (w.map D.int)[i]?,(w.map D.int).length⟩) (t:=gSet 0) (c:=ZS) (e:=mOpA pTup (Qb (mLit (.str "one")) (Qb (mVar 0) mNil))) (n:=w.length)
  (λi σ' g4 acc=>acc=(ones w).take i/\g4=g/\∃u,σ'=[u]) (λi σ' g4 acc hi hQ=>by
   obtain⟨q1,q2,u,q3⟩:=hQ
   subst q2 q3
   refine⟨.int w[i],[some (.int w[i])],g4,by simp[hi],rfl,.inl ⟨tkD (.one w[i]),g4,rfl,rfl,?_,rfl,_,rfl⟩⟩
   rw[q1,UR (by unfold ones;simpa using hi)]
   simp[ones]) (λσ g1 acc _=>by simp) ((w.map D.int).length+1) 0 [none] g [] (by simp) (by omega) ⟨rfl,rfl,none,rfl⟩
 subst c3
 rw[TW (by simp[ones])]at c2
 subst c2
 refine Yx (JW (n:=1) (cap:=[]) (σ0:=[none]) (g1:=g3) (src:=⟨λ_ i=>some (w.map D.int)[i]?,(w.map D.int).length⟩) (by unfold QN;rw[h];rfl) (by show(w.map D.int).length<=SZ;rw[Uc];exact UY (QgT hz)) rfl c1) ?_
 unfold Zq;dsimp only;rw[Qw]
theorem Qc8{w:List Int}{g:G}(hz:w.length<=1000):QaU [.tup (w.map .int)] g=.ok (.tup (ones w)) (g++[.lst (ones w)]):=ZD rfl (JH (QiI (it:=mVar 0) (σ:=[some (.tup (w.map .int))]) rfl hz))
noncomputable def QiJ(st:Int)(b:Bool)(L R:List Tk):Option D:=match ahT b L R with
 |some (.many w k)=>if k<1 then none else some (if b then shD st b (L.map tkD) (ones w++[tkD (.many w (k-1))]++(R.map tkD).tail) else shD st b ((L.map tkD).dropLast++([tkD (.many w (k-1))]++ones w)) (R.map tkD))
 |_=>none
section
variable{n m K:Nat}{st:Int}{b:Bool}{L R:List Tk}{g:G}
theorem Qa1:ZZ [shD st b (L.map tkD) (R.map tkD)] g=(match ahT b L R with|some (.many w k)=>.ok (tkD (.many w k)) g|_=>.raise (8,none) g):=by
 have e1:=Qaz (st:=st) (b:=b) (L:=L.map tkD) (R:=R.map tkD) (g:=g)
 rw[QiG]at e1
 cases ha:ahT b L R with
 |none=>rw[ha]at e1;simp[ZZ,JT,e1,isNon]
 |some t=>rw[ha]at e1;cases t <;> simp[ZZ,JT,e1,isNon,tkD]
theorem QdM(hL:∀t∈L,TkK K m t)(hR:∀t∈R,TkK K m t)(hz:L.length+R.length<=1000):
  ∃g',Keeps [] g g'/\Zr [shD st b (L.map tkD) (R.map tkD)] g=Pr (QiJ st b L R) g':=by
 have e1:=Qa1 (st:=st) (b:=b) (L:=L) (R:=R) (g:=g)
 unfold QiJ
 cases ha:ahT b L R with
 |none=>rw[ha]at e1;exact⟨g,.refl,by simp[Zr,Z2,e1,Pr]⟩
 |some t =>
  have ht:=QaI ha hL hR
  rw[ha]at e1
  cases t with
  |one s=>exact⟨g,.refl,by simp[Zr,Z2,e1,Pr]⟩
  |many w k =>
   by_cases hk:k<1
   ·exact⟨g,.refl,by simp[Zr,Z2,e1,Pr,tkD,hk]⟩
   ·have e2:=Qc8 (w:=w) (g:=g) (by have:=ht.2.2.2.1;omega)
    have z:(ones w).length<=20:=by unfold ones;rw[Uc];exact ht.2.2.2.1
    refine⟨g++[.lst (ones w)],.push _,?_⟩
    have e3:=λX=>Qck (st:=st) (b:=b) (L:=L.map tkD) (R:=R.map tkD) (X:=X) (g:=g++[.lst (ones w)])
    simp only[shD]at e1 e3 ⊢
    cases b
    ·simp[Zr,Z2,e1,Pr,tkD,hk,e2,QcJ (g:=g++[.lst (ones w)]) (xs:=[.tup [.str "many",.tup (w.map .int),.int (k-1)]]) (ys:=ones w) (by simp;omega),e3 (.tup [.str "many",.tup (w.map .int),.int (k-1)]::ones w) (by simp;omega)]
    ·simp[Zr,Z2,e1,Pr,tkD,hk,e2,QcJ (g:=g++[.lst (ones w)]) (ys:=[.tup [.str "many",.tup (w.map .int),.int (k-1)]]) (xs:=ones w) (by simp;omega),e3 (ones w++[.tup [.str "many",.tup (w.map .int),.int (k-1)]]) (by simp;omega)]
end
theorem Keeps.new{g0 g:G}{l:Nat}{o:GO}(k:Keeps [] g0 g)(h:g0.length<=l):Keeps [] g0 (g.set l o):=⟨by rw[UN];exact k.len,λi u _ e=>by
 have:=Zw e
 rw[Uo (by omega)];exact k.at' _ _ (by simp) e⟩
noncomputable def pn(p:Int)(w:Bool):Int:=if w then p+1 else p-1
noncomputable def goW(rows:List (List D)):Nat->List Int->Int->Int->Option (List Int×Int×Bool)
 |0,_,_,_=>none
 |f+1,c,p,cur=>match en rows cur (c[p.toNat]?.getD 0) with
  |none=>none
  |some (a,w,s)=>if 0<=pn p w/\pn p w<c.length then goW rows f (c.set p.toNat a) (pn p w) s else some (c.set p.toNat a,s,w)
noncomputable def ovW(st:Int)(b:Bool):Option (List Int×Int×Bool)->Option (List Int)
 |some (c,s,w)=>if (w == b && s == st)=true then some c else none
 |none=>none
noncomputable def iD:Option (List Int)->D
 |some c=>.tup (c.map .int)
 |none=>.non
noncomputable def ov0(b:Bool)(w:List Int):Int:=if b then 0 else (w.length:Int) - 1
theorem ixI{g:G}{l:Nat}{c:List Int}{p:Int}(hl:g[l]?=some (.lst (c.map .int)))(h0:0<=p)(h1:p<c.length):pIx (.ref l) (.int p) g=.ok (.int (c[p.toNat]?.getD 0)) g:=Qc6 hl h0 (by
 rw[Uy,Uq (show p.toNat<c.length by omega)];rfl)
theorem setI{g:G}{l:Nat}{c:List Int}{p a:Int}{σ:S3}{o i v:ME}(hl:g[l]?=some (.lst (c.map .int)))(h0:0<=p)(h1:p<c.length)(hv:v σ g=.ok (.int a) g)(ho:o σ g=.ok (.ref l) g)(hi:i σ g=.ok (.int p) g):YJ o i v σ g=.nx σ (g.set l (.lst ((c.set p.toNat a).map .int))):=by
 unfold YJ
 rw[hv];dsimp only
 rw[ho];dsimp only
 rw[hi];dsimp only
 rw[hl];dsimp only
 unfold ixD
 rw[Ue h0,Ue (by rw[Uc];exact h1)]
 dsimp only
 rw[List.map_set]
section
variable{rows:List (List D)}{n m K:Nat}{st:Int}{b:Bool}{g0:G}
theorem Qfn{m:Nat}{c:List Int}{p:Nat}{a:Int}(h:∀x∈c,0<=x/\x<(m:Int))(ha:0<=a/\a<(m:Int)):∀x∈c.set p a,0<=x/\x<(m:Int):=λx hx=>by
 rcases List.mem_or_eq_of_mem_set hx with z|z
 ·exact h x z
 ·rw[z];exact ha
theorem QkR{m:Nat}{c:List Int}{p:Int}(h:∀x∈c,0<=x/\x<(m:Int))(h0:0<=p)(h1:p<c.length):0<=c[p.toNat]?.getD 0/\c[p.toNat]?.getD 0<(m:Int):=by
 have e:c[p.toNat]?=some c[p.toNat]:=Uq (by omega)
 rw[e];exact h _ (UX _)
theorem QiK{M l:Nat}{W:Option D}(hM:g0[M]?=some (JL rows))(hT:Tbl rows n m)(hl0:g0.length<=l):∀(f i:Nat)(c:List Int)(p cur:Int)(x7 x8:Option D)(g:G),i+f=1000->Keeps [] g0 g->g[l]?=some (.lst (c.map .int))->(∀x∈c,0<=x/\x<(m:Int))->0<=cur->cur<n->0<=p->p<c.length ->
  ∃g',Keeps [] g0 g'/\(forL (Q1 0 1000) (gSet 7) QD (f+1) i [some (.ref M),some (.int st),some (.str (fc b)),W,some (.ref l),some (.int p),some (.int cur),x7,x8] g=.rt (iD (ovW st b (goW rows f c p cur))) g' \/
   (goW rows f c p cur=none/\∃σ',forL (Q1 0 1000) (gSet 7) QD (f+1) i [some (.ref M),some (.int st),some (.str (fc b)),W,some (.ref l),some (.int p),some (.int cur),x7,x8] g=.nx σ' g'))
 |0,i,c,p,cur,x7,x8,g,hf,k,gl,hc,h0,h1,h2,h3=>by
  have:¬i<1000:=by omega
  exact⟨g,k,.inr ⟨rfl,_,by unfold forL;simp only[Q1,this,TL];rfl⟩⟩
 |f+1,i,c,p,cur,x7,x8,g,hf,k,gl,hc,h0,h1,h2,h3=>by
  have hi:i<1000:=by omega
  obtain⟨y0,y1⟩:=QkR hc h2 h3
  obtain⟨r,k1,k2⟩:=hT.prog h0 h1 y0 y1
  obtain⟨_,_,_,bd⟩:=hT.at' h0 h1 y0 y1
  have k3:=ixI gl h2 h3
  unfold forL goW
  simp only[Q1,hi,TX]
  generalize c[p.toNat]?.getD 0=y at k2 k3 bd
  have hA:∀i σ,σ[i]?=some (some (.ref M))->QcE [11] "table" (mVar i) σ g=.ok (.tup (rows.map .tup)) g:=λi σ h=>Qbi h (k.at' _ _ (by simp) hM)
  cases he:en rows cur y with
  |none =>
   rw[he]at k2
   exact⟨g,k,.inl (by simp[gSet,QD,hA,k1,k2,k3,enc,isNon,ovW,iD])⟩
  |some e =>
   obtain⟨a,w,s⟩:=e
   obtain⟨ba,bs⟩:=bd _ _ _ he
   rw[he]at k2
   have hS:∀σ,σ[4]?=some (some (.ref l))->σ[5]?=some (some (.int p))->σ[8]?=some (some (.tup [.int a,.str (fc w),.int s]))->YJ (mVar 4) (mVar 5) (mOp2 pIx (mVar 8) (mLit (.int 0))) σ g=.nx σ (g.set l (.lst ((c.set p.toNat a).map .int))):=λσ q1 q2 q3=>setI gl h2 h3 (by simp[q3]) (by simp[q1]) (by simp[q2])
   have kn:Keeps [] g0 (g.set l (.lst ((c.set p.toNat a).map .int))):=k.new hl0
   have gn:(g.set l (.lst ((c.set p.toNat a).map .int)))[l]?=some (.lst ((c.set p.toNat a).map .int)):=Q9 gl
   generalize g.set l (.lst ((c.set p.toNat a).map .int))=g2 at hS kn gn
   have hlen:pLen (.ref l) g2=.ok (.int c.length) g2:=by simp[pLen,gn]
   have htup:Zq (.ref l) g2=.ok (.tup ((c.set p.toNat a).map .int)) g2:=by simp[Zq,gn]
   have hpw:(if w then p+1 else p-1)=pn p w:=rfl
   have hb:=YM (.int (pn p w)) c.length g2 .int rfl
   have key:∀R,(if 0<=pn p w/\pn p w<c.length then Out.nx [some (.ref M),some (.int st),some (.str (fc b)),W,some (.ref l),some (.int (pn p w)),some (.int s),some (.int (0+i)),some (.tup [.int a,.str (fc w),.int s])] g2 else .rt (iD (ovW st b (some (c.set p.toNat a,s,w)))) g2)=R->QD [some (.ref M),some (.int st),some (.str (fc b)),W,some (.ref l),some (.int p),some (.int cur),some (.int (0+i)),x8] g=R:=λR hR=>by
    subst hR
    by_cases hin:0<=pn p w/\pn p w<c.length
    ·rw[show Jj (.int (pn p w)) c.length=true from Uz hin]at hb
     cases w <;> simp[pn]at hb hin <;> simp[QD,hA,k1,k2,k3,enc,isNon,hS,hlen,hb,pn,hin]
    ·rw[show Jj (.int (pn p w)) c.length=false from Ul hin]at hb
     rw[Uh hin]
     cases w <;> cases b <;> by_cases hq:s=st <;> simp[pn]at hb hin hq <;> simp[QD,hA,k1,k2,k3,enc,isNon,hS,hlen,hb,pn,htup,ovW,iD,hq]
   dsimp only[gSet]
   by_cases hin:0<=pn p w/\pn p w<c.length
   ·have hb1:=key _ rfl
    rw[Ue hin]at hb1 ⊢
    obtain⟨g',q1,q2⟩:=QiK hM hT hl0 f (i+1) (c.set p.toNat a) (pn p w) s (some (.int (0+i))) (some (.tup [.int a,.str (fc w),.int s])) g2 (by omega) kn gn (Qfn hc ba) bs.1 bs.2 hin.1 (by rw[UN];exact hin.2)
    refine⟨g',q1,?_⟩
    simp only[List.set_cons_succ,List.set_cons_zero]
    rw[hb1]
    exact q2
   ·have hb1:=key _ rfl
    rw[Uh hin]at hb1 ⊢
    refine⟨g2,kn,.inl ?_⟩
    simp only[List.set_cons_succ,List.set_cons_zero]
    rw[hb1]
theorem QcK{M:Nat}{w:List Int}(hM:g0[M]?=some (JL rows))(hT:Tbl rows n m)(h0:0<=st)(h1:st<n)(hw:w≠[])(hc:∀x∈w,0<=x/\x<(m:Int)):
  ∃g',Keeps [] g0 g'/\Ju [.ref M,.int st,.str (fc b),.tup (w.map .int)] g0=.ok (iD (ovW st b (goW rows 1000 w (ov0 b w) st))) g':=by
 have hl:0<w.length:=U7.mpr hw
 have kn:Keeps [] g0 (g0++[.lst (w.map .int)]):=.push _
 obtain⟨g',q1,q2⟩:=QiK (st:=st) (b:=b) (W:=some (.tup (w.map .int))) hM hT (Ui _) 1000 0 w (ov0 b w) st none none _ rfl kn (Qw _) hc h0 h1 (by unfold ov0;split <;> omega) (by unfold ov0;split <;> omega)
 have hlen:pLen (.ref g0.length) (g0++[.lst (w.map .int)])=.ok (.int w.length) (g0++[.lst (w.map .int)]):=by unfold pLen;dsimp only;rw[Qw];simp
 have hfor:mFor (QO (mLit (.int 1000))) (gSet 7) QD [some (.ref M),some (.int st),some (.str (fc b)),some (.tup (w.map .int)),some (.ref g0.length),some (.int (ov0 b w)),some (.int st),none,none] (g0++[.lst (w.map .int)])=forL (Q1 0 1000) (gSet 7) QD 1001 0 [some (.ref M),some (.int st),some (.str (fc b)),some (.tup (w.map .int)),some (.ref g0.length),some (.int (ov0 b w)),some (.int st),none,none] (g0++[.lst (w.map .int)]):=Y4 (ZQ (n:=1000) rfl (Qa0 (by omega)))
 have hpre:∀R,mSeq (mFor (QO (mLit (.int 1000))) (gSet 7) QD) (mRet (mLit .non)) [some (.ref M),some (.int st),some (.str (fc b)),some (.tup (w.map .int)),some (.ref g0.length),some (.int (ov0 b w)),some (.int st),none,none] (g0++[.lst (w.map .int)])=R->QaV [some (.ref M),some (.int st),some (.str (fc b)),some (.tup (w.map .int)),none,none,none,none,none] g0=R:=λR hR=>by
  refine Qk _ (g0++[.lst (w.map .int)]) rfl (Qk [some (.ref M),some (.int st),some (.str (fc b)),some (.tup (w.map .int)),some (.ref g0.length),some (.int (ov0 b w)),none,none,none] (g0++[.lst (w.map .int)]) ?_ (Qk _ (g0++[.lst (w.map .int)]) rfl hR))
  cases b <;> simp[ov0,hlen]
 refine⟨g',q1,ZD rfl (hpre _ ?_)⟩
 rcases q2 with q2|⟨q3,σ',q2⟩
 ·exact Qc4 (hfor.trans q2)
 ·rw[q3];exact Qk σ' g' (hfor.trans q2) rfl
noncomputable def QiL(rows:List (List D))(st:Int)(b:Bool)(L R:List Tk):Option D:=match ahT b L R with
 |some (.many w k)=>(ovW st b (goW rows 1000 w (ov0 b w) st)).map λc=>gone b (L.map tkD) (R.map tkD) st b (tkD (.many c k))
 |_=>none
theorem QdN{M:Nat}{L R:List Tk}(hM:g0[M]?=some (JL rows))(hT:Tbl rows n m)(h0:0<=st)(h1:st<n)(hL:∀t∈L,TkK K m t)(hR:∀t∈R,TkK K m t)(hz:L.length+R.length<=1000):
  ∃g',Keeps [] g0 g'/\Z1 [.ref M,shD st b (L.map tkD) (R.map tkD)] g0=Pr (QiL rows st b L R) g':=by
 have e1:=Qa1 (st:=st) (b:=b) (L:=L) (R:=R) (g:=g0)
 unfold QiL
 cases ha:ahT b L R with
 |none=>rw[ha]at e1;exact⟨g0,.refl,by simp[Z1,Y0,e1,Pr]⟩
 |some t =>
  have ht:=QaI ha hL hR
  rw[ha]at e1
  cases t with
  |one s=>exact⟨g0,.refl,by simp[Z1,Y0,e1,Pr]⟩
  |many w k =>
   obtain⟨g',q1,q2⟩:=QcK (b:=b) hM hT h0 h1 ht.1 ht.2.1
   have G:=λt=>QiF (st:=st) (s:=st) (b:=b) (w:=b) (L:=L.map tkD) (R:=R.map tkD) (t:=t) (g:=g') (by simp;omega)
   simp only[shD]at e1 G ⊢
   refine⟨g',q1,?_⟩
   cases ho:ovW st b (goW rows 1000 w (ov0 b w) st) <;> rw[ho]at q2 <;> simp[iD]at q2 <;> simp[Z1,Y0,e1,Pr,tkD,q2,isNon,G]
end
noncomputable def pq:Nat->D->Bool
 |0,_=>false
 |f+1,d=>match d with
  |.int _=>true
  |.str _=>true
  |.tup ds=>decide (ds.length<=100000) && ds.all (pq f)
  |_=>false
theorem Qns(g:G):∀(f:Nat)(d:D),pq f d=true->Sm g f d d
 |0,_,h=>absurd h Uf
 |f+1,d,h=>by
  cases d with
  |int i=>exact .int _ _
  |str s=>exact .str _ _
  |tup ds =>
   have h':(decide (ds.length<=100000) && ds.all (pq f))=true:=h
   rw[UD,TJ,UE]at h'
   exact Qno h'.1 λu hu=>Qns g f u (h'.2 u hu)
  |_=>exact absurd h Uf
theorem Qc9{f:Nat}{ds:List D}(hz:ds.length<=100000)(h:∀x∈ds,pq f x=true):pq (f+1) (.tup ds)=true:=by
 show(decide (ds.length<=100000) && ds.all (pq f))=true
 rw[Uz hz,UE.mpr h];rfl
theorem Qnt(f:Nat){w:List Int}(hz:w.length<=100000):pq (f+2) (.tup (w.map .int))=true:=Qc9 (by rw[Uc];exact hz) λd hd=>by
 obtain⟨i,_,rfl⟩:=Tn.mp hd;rfl
theorem QlS{w:List Int}{k:Int}(hz:w.length<=1000):pq 3 (tkD (.many w k))=true:=Qc9 (by simp) λx hx=>by
 rcases Uu.mp hx with rfl|hx
 ·rfl
 rcases Uu.mp hx with rfl|hx
 ·exact Qnt 0 (by omega)
 ·rw[Up.mp hx];rfl
theorem Qoy{m K:Nat}{t:Tk}(h:TkK K m t):pq 3 (tkD t)=true:=by
 cases t with
 |one s=>rfl
 |many w k=>exact QlS (by have:=h.2.2.2.1;omega)
theorem QkS{m K:Nat}{T:List Tk}(h:∀t∈T,TkK K m t):∀x∈T.map tkD,pq 3 x=true:=λx hx=>by
 obtain⟨t,ht,rfl⟩:=Tn.mp hx;exact Qoy (h t ht)
noncomputable def isO:List Tk->List Int->Bool
 |[],[]=>true
 |.one s::X,z::w=>(s == z) && isO X w
 |_,_=>false
theorem Qda:∀{X:List Tk}{w:List Int},isO X w=true->X=w.map .one
 |[],[],_=>rfl
 |.one s::X,z::w,h=>by
  have h:((s == z) && isO X w)=true:=h
  rw[UD]at h
  rw[W2 h.1,Qda h.2];rfl
 |[],_::_,h=>by cases h
 |.many _ _::_,_,h=>by cases h
 |.one _::_,[],h=>by cases h
theorem QiM(g:G)(f:Nat):∀(X:List Tk)(w:List Int),eqGs (eqN g (f+2)) (X.map tkD) (ones w)=some (isO X w)
 |[],[]=>rfl
 |[],_::_=>rfl
 |.one s::X,z::w=>by
  have ih:=QiM g f X w
  show eqGs (eqN g (f+2)) (tkD (.one s)::X.map tkD) (tkD (.one z)::ones w)=some ((s == z) && isO X w)
  unfold eqGs
  rw[ih]
  simp[tkD,eqN,eqGs]
 |.many v k::X,z::w=>by
  have ih:=QiM g f X w
  show eqGs (eqN g (f+2)) (tkD (.many v k)::X.map tkD) (tkD (.one z)::ones w)=some false
  unfold eqGs
  rw[ih]
  simp[tkD,eqN,eqGs]
 |.one _::_,[]=>rfl
 |.many _ _::_,[]=>rfl
theorem QiN{X:List Tk}{w:List Int}{g:G}:pNe (.tup (X.map tkD)) (.tup (ones w)) g=.ok (.bl (!isO X w)) g:=by
 unfold pNe
 rw[show eqN g 8 (.tup (X.map tkD)) (.tup (ones w))=eqGs (eqN g 7) (X.map tkD) (ones w) from rfl,QiM g 5]
theorem QiO{t:Tk}{z:Int}{g:G}:pNe (tkD t) (.tup [.str "one",.int z]) g=.ok (.bl (!isO [t] [z])) g:=by
 cases t <;> simp[pNe,tkD,eqN,eqGs,isO]
theorem QZ(c:Nat)(A B:List Tk):Qn c (A++B)=Qn c A++Qn c B:=List.flatMap_append
theorem Qt(c:Nat)(t:Tk)(B:List Tk):Qn c (t::B)=ZE c t++Qn c B:=List.flatMap_cons
theorem Jk(c:Nat):∀w:List Int,Qn c (w.map .one)=w
 |[]=>rfl
 |z::w=>by rw[UJ,Qt,Jk c w];rfl
theorem QdO(w:List Int):∀n:Nat,(List.replicate n w).flatten++w=w++(List.replicate n w).flatten
 |0=>by simp
 |n+1=>by rw[Uw,UK,UH,QdO w n]
theorem QdP(c:Nat){w:List Int}{k:Int}(h:0<=k):ZE c (.many w (k+1))=w++ZE c (.many w k):=by
 show(List.replicate (c+(k+1).toNat) w).flatten=w++(List.replicate (c+k.toNat) w).flatten
 rw[show c+(k+1).toNat=c+k.toNat+1 by omega,Uw,UK]
theorem QeH(c:Nat){w:List Int}{k:Int}(h:0<=k):ZE c (.many w (k+1))=ZE c (.many w k)++w:=by
 rw[QdP c h];exact(QdO w _).symm
theorem Qgi(s:Int)(v:List Int):∀n:Nat,s::(List.replicate n (v++[s])).flatten=(List.replicate n (s::v)).flatten++[s]
 |0=>by simp
 |n+1=>by rw[Uw,Uw,UK,UK,UH,UH,<-Qgi s v n];simp
theorem Qdb(c:Nat)(s:Int)(v:List Int)(k:Int):ZE c (.one s)++ZE c (.many (v++[s]) k)=ZE c (.many (s::v) k)++ZE c (.one s):=Qgi s v _
theorem QiP{α:Type}{xs:List α}(a n:Nat):cutD xs (some (a:Int)) (some ((a:Int)+n))=(xs.drop a).take n:=by
 have h1:¬((a:Int)<0):=by omega
 have h2:¬((a:Int)+n<0):=by omega
 have h3:((a:Int)+n).toNat=a+n:=by omega
 simp only[cutD,sIxD,h1,h2,TL,TH,h3]
 by_cases h:a<=xs.length
 ·rw[Wu h]
  by_cases h':a+n<=xs.length
  ·rw[Wu h',We]
  ·rw[Wh (by omega),TW (by rw[TN];omega),TW (by rw[TN];omega)]
 ·rw[Wh (show xs.length<=a by omega),List.drop_length,Wn (show xs.length<=a by omega)];simp
theorem QbN{α:Type}{xs:List α}{p:Nat}{a:α}(h:xs[p]?=some a):xs=xs.take p++a::xs.drop (p+1):=by
 obtain⟨h1,h2⟩:=Ud.mp h
 rw[<-h2,<-T7 h1,WA]
section
variable{m K:Nat}{T:List Tk}{p:Nat}{w:List Int}{k:Int}
@[simp] theorem Qpd{g:G}{i j:Int}:QjZ (.int i) (.int j) g=.ok (.int (if j<i then j else i)) g:=rfl
@[simp] theorem Qpe{g:G}{i j:Int}:Qj0 (.int i) (.int j) g=.ok (.int (if i<j then j else i)) g:=rfl
theorem QeI{g:G}:Yl [tkD (.many w k)] g=.ok (tkD (.many w (k+1))) g:=by simp[Yl,Qay,tkD]
def TOp(K m:Nat)(T:List Tk)(o:Option D):Prop:=∀d,o=some d->∃T',d=.tup (T'.map tkD)/\T'.length<=T.length/\(∀t∈T',TkK (K+1) m t)/\∀c,Qn c T'=Qn c T
theorem TOp.none:TOp K m T none:=λd h=>by cases h
theorem QiQ(hp:T[p]?=some (.many w k))(hT:∀t∈T,TkK K m t)(hz:T.length<=140)(rw':Bool):∃o:Option D,(∀g,∃g',Keeps [] g g'/\Qz [.tup (T.map tkD),.int p,.bl rw'] g=Pr o g')/\TOp K m T o:=by
 have hw:=hT _ (U4 hp)
 have hpl:=(Ud.mp hp).1
 have hwl:=hw.2.2.2.1
 have hix:atD (T.map tkD) p=some (tkD (.many w k)):=atN (by rw[Uy,hp];rfl)
 have e2:=λg=>Qc8 (w:=w) (g:=g) (by omega)
 have hadd:=λ(g:G)(xs ys:List D) h=>QcJ (g:=g) (xs:=xs) (ys:=ys) h
 have hup:TkK (K+1) m (.many w (k+1)):=⟨hw.1,hw.2.1,by have:=hw.2.2.1;omega,hwl,by have:=hw.2.2.2.2;omega⟩
 have hmem:∀X:List Tk,(∀t∈X,t∈T)->∀t∈X,TkK (K+1) m t:=λX h t ht=>(hT t (h t ht)).up
 cases rw' with
 |true =>
  have hcut:cutD (T.map tkD) (some ((p:Int)+1)) (some ((p:Int)+1+w.length))=((T.drop (p+1)).take w.length).map tkD:=by
   rw[show(p:Int)+1=((p+1:Nat):Int) by omega,QiP,<-T3,<-T1]
  have hc1:cutD (T.map tkD) none (some (p:Int))=(T.take p).map tkD:=by rw[Qgh,<-T1]
  have hc2:cutD (T.map tkD) (some ((p:Int)+1+w.length)) none=(T.drop (p+1+w.length)).map tkD:=by
   rw[show(p:Int)+1+w.length=((p+1+w.length:Nat):Int) by omega,QbM,<-T3]
  have h1:(p:Int)<p+1:=by omega
  have h2:¬((p:Int)+1<0):=by omega
  have h3:¬((p:Int)+1+w.length<p+1):=by omega
  have hne:=λg=>QiN (X:=(T.drop (p+1)).take w.length) (w:=w) (g:=g)
  have z1:((T.take p).map tkD).length+((T.drop (p+1+w.length)).map tkD).length<=140:=by simp;omega
  generalize hX:((T.drop (p+1)).take w.length).map tkD=X at hcut hne
  generalize hA:(T.take p).map tkD=A at hc1 z1
  generalize hB:(T.drop (p+1+w.length)).map tkD=B at hc2 z1
  cases hb:isO ((T.drop (p+1)).take w.length) w with
  |false =>
   rw[hb]at hne
   exact⟨none,λg=>⟨g++[.lst (ones w)],.push _,by simp[Qz,QQ,hix,Pr,tkD,h2,e2,hcut,hne]⟩,.none⟩
  |true =>
   rw[hb]at hne
   refine⟨some (.tup (A++tkD (.many w (k+1))::B)),λg=>⟨g++[.lst (ones w)],.push _,?_⟩,λd hd=>?_⟩
   ·have a1:=hadd (g++[.lst (ones w)]) A [tkD (.many w (k+1))] (by simp;omega)
    have a2:=hadd (g++[.lst (ones w)]) (A++[tkD (.many w (k+1))]) B (by simp;omega)
    have r1:=QeI (w:=w) (k:=k) (g:=g++[.lst (ones w)])
    simp[tkD]at a1 a2 r1
    simp[Qz,QQ,hix,Pr,tkD,h1,h2,h3,e2,hcut,hne,hc1,hc2,a1,a2,r1]
   ·cases hd
    refine⟨T.take p++.many w (k+1)::T.drop (p+1+w.length),by rw[<-hA,<-hB];simp,by simp;omega,λt ht=>?_,λc=>?_⟩
    ·rcases UB.mp ht with z|z
     ·exact(hT t (Tc z)).up
     rcases Uu.mp z with rfl|z
     ·exact hup
     ·exact(hT t (TD z)).up
    ·conv=>rhs;rw[QbN hp,<-WA w.length (T.drop (p+1)),Qda hb,List.drop_drop]
     rw[QZ,QZ,Qt,Qt,QZ,Jk,QeH c hw.2.2.1,UH]
 |false =>
  by_cases h0:(p:Int) - w.length<0
  ·exact⟨none,λg=>⟨g,.refl,by simp[Qz,QQ,hix,Pr,tkD,h0]⟩,.none⟩
  obtain⟨q,hq⟩:∃q:Nat,p=q+w.length:=⟨p-w.length,by omega⟩
  have hF:(p:Int) - w.length=q:=by omega
  have hcut:cutD (T.map tkD) (some (q:Int)) (some ((q:Int)+w.length))=((T.drop q).take w.length).map tkD:=by rw[QiP,<-T3,<-T1]
  have hc1:cutD (T.map tkD) none (some (q:Int))=(T.take q).map tkD:=by rw[Qgh,<-T1]
  have hc2:cutD (T.map tkD) (some ((p:Int)+1)) none=(T.drop (p+1)).map tkD:=by
   rw[show(p:Int)+1=((p+1:Nat):Int) by omega,QbM,<-T3]
  have h1:¬((p:Int)<q):=by omega
  have h2:¬((q:Int)<0):=by omega
  have h3:(q:Int)+w.length<p+1:=by omega
  have hne:=λg=>QiN (X:=(T.drop q).take w.length) (w:=w) (g:=g)
  have z1:((T.take q).map tkD).length+((T.drop (p+1)).map tkD).length<=140:=by simp;omega
  generalize hX:((T.drop q).take w.length).map tkD=X at hcut hne
  generalize hA:(T.take q).map tkD=A at hc1 z1
  generalize hB:(T.drop (p+1)).map tkD=B at hc2 z1
  cases hb:isO ((T.drop q).take w.length) w with
  |false =>
   rw[hb]at hne
   exact⟨none,λg=>⟨g++[.lst (ones w)],.push _,by simp[Qz,QQ,hix,Pr,tkD,hF,h2,e2,hcut,hne]⟩,.none⟩
  |true =>
   rw[hb]at hne
   refine⟨some (.tup (A++tkD (.many w (k+1))::B)),λg=>⟨g++[.lst (ones w)],.push _,?_⟩,λd hd=>?_⟩
   ·have a1:=hadd (g++[.lst (ones w)]) A [tkD (.many w (k+1))] (by simp;omega)
    have a2:=hadd (g++[.lst (ones w)]) (A++[tkD (.many w (k+1))]) B (by simp;omega)
    have r1:=QeI (w:=w) (k:=k) (g:=g++[.lst (ones w)])
    simp[tkD]at a1 a2 r1
    simp[Qz,QQ,hix,Pr,tkD,hF,h1,h2,h3,e2,hcut,hne,hc1,hc2,a1,a2,r1]
   ·cases hd
    refine⟨T.take q++.many w (k+1)::T.drop (p+1),by rw[<-hA,<-hB];simp,by simp;omega,λt ht=>?_,λc=>?_⟩
    ·rcases UB.mp ht with z|z
     ·exact(hT t (Tc z)).up
     rcases Uu.mp z with rfl|z
     ·exact hup
     ·exact(hT t (TD z)).up
    ·have e1:T.take p=T.take q++(T.drop q).take w.length:=by rw[hq,List.take_add]
     conv=>rhs;rw[QbN hp,e1,Qda hb]
     rw[QZ,QZ,QZ,Qt,Qt,Jk,QdP c hw.2.2.1,UH,UH]
end
section
variable{m K:Nat}{T:List Tk}{p:Nat}{w:List Int}{k:Int}
theorem Qfo{i n:Int}{g:G}(h0:0<=i)(h1:i<n):QE [.int i,.int n] g=.ok (.bl true) g:=by rw[YM (.int i) n g .int rfl,show Jj (.int i) n=true from Uz ⟨h0,h1⟩]
theorem Qfp{i n:Int}{g:G}(h:¬(0<=i/\i<n)):QE [.int i,.int n] g=.ok (.bl false) g:=by rw[YM (.int i) n g .int rfl,show Jj (.int i) n=false from Ul h]
theorem QiR(hp:T[p]?=some (.many w k))(hT:∀t∈T,TkK K m t)(hz:T.length<=140)(rw':Bool):∃o:Option D,(∀g,Qo [.tup (T.map tkD),.int p,.bl rw'] g=Pr o g)/\TOp K m T o:=by
 have hw:=hT _ (U4 hp)
 have hwl:=hw.2.2.2.1
 have hpl:=(Ud.mp hp).1
 have hix:atD (T.map tkD) p=some (.tup [.str "many",.tup (w.map .int),.int k]):=atN (by rw[Uy,hp];rfl)
 have hadd:=λ(g:G)(xs ys:List D) h=>QcJ (g:=g) (xs:=xs) (ys:=ys) h
 cases rw' with
 |true =>
  rcases U2 w with rfl|⟨v,z,rfl⟩
  ·exact absurd rfl hw.1
  have a3:∀g,pAdd (.tup [.int z]) (.tup (v.map .int)) g=.ok (.tup (.int z::v.map .int)) g:=λg=>hadd _ _ _ (by simp at hwl ⊢;omega)
  by_cases h0:p=0
  ·subst h0
   have hb':∀g,QE [.int (-1),.int T.length] g=.ok (.bl false) g:=λg=>Qfp (by omega)
   simp at hix
   exact⟨none,λg=>by simp[Qo,Qv,hix,hb',Pr],.none⟩
  ·have hb':∀g,QE [.int ((p:Int) - 1),.int T.length] g=.ok (.bl true) g:=λg=>Qfo (by omega) (by omega)
   obtain⟨q,rfl⟩:∃q,p=q+1:=⟨p-1,by omega⟩
   obtain⟨t,ht⟩:∃t,T[q]?=some t:=⟨T[q],Uq (by omega)⟩
   have hq:((q+1:Nat):Int) - 1=q:=by omega
   rw[hq]at hb'
   have hix1:atD (T.map tkD) (q:Int)=some (tkD t):=atN (by rw[Uy,ht];rfl)
   have hne:=λg=>QiO (t:=t) (z:=z) (g:=g)
   cases hb:isO [t] [z]with
   |false =>
    rw[hb]at hne
    push_cast at hix hq
    exact⟨none,λg=>by simp[Qo,Qv,hix,hb',Pr,hix1,hne,hq],.none⟩
   |true =>
    rw[hb]at hne
    have htz:t=.one z:=by have:=Qda hb;simpa using this
    subst htz
    have hc1:cutD (T.map tkD) none (some (q:Int))=(T.take q).map tkD:=by rw[Qgh,<-T1]
    have hc2:cutD (T.map tkD) (some ((q:Int)+1+1)) none=(T.drop (q+2)).map tkD:=by
     rw[show(q:Int)+1+1=((q+2:Nat):Int) by omega,QbM,<-T3]
    have z1:((T.take q).map tkD).length+((T.drop (q+2)).map tkD).length<=140:=by simp;omega
    generalize hA:(T.take q).map tkD=A at hc1 z1
    generalize hB:(T.drop (q+2)).map tkD=B at hc2 z1
    refine⟨some (.tup (A++([tkD (.many (z::v) k),tkD (.one z)]++B))),λg=>?_,λd hd=>?_⟩
    ·have a1:=hadd g A [tkD (.many (z::v) k),tkD (.one z)] (by simp;omega)
     have a2:=hadd g (A++[tkD (.many (z::v) k),tkD (.one z)]) B (by simp;omega)
     simp[tkD]at a1 a2 hix1 hne
     push_cast at hix hq
     simp[Qo,Qv,hix,hb',Pr,hix1,hne,hq,a1,a2,a3,hc1,hc2,tkD]
    ·cases hd
     have e1:T=T.take q++(.one z::.many (v++[z]) k::T.drop (q+2)):=by
      have e2:=QbN ht
      have e3:T.drop (q+1)=.many (v++[z]) k::T.drop (q+2):=by
       rw[T7 (by omega)]
       congr 1
       have:=(Ud.mp hp).2
       simpa using this
      rw[e3]at e2;exact e2
     refine⟨T.take q++(.many (z::v) k::.one z::T.drop (q+2)),by rw[<-hA,<-hB];simp,by simp;omega,λt ht'=>?_,λc=>?_⟩
     ·rcases UB.mp ht' with y|y
      ·exact(hT t (Tc y)).up
      rcases Uu.mp y with rfl|y
      ·exact TkK.up ⟨by simp,λx hx=>hw.2.1 x (by simp at hx ⊢;rcases hx with rfl|hx <;> simp[*]),hw.2.2.1,by simp at hwl ⊢;omega,hw.2.2.2.2⟩
      rcases Uu.mp y with rfl|y
      ·exact(hT _ (U4 ht)).up
      ·exact(hT t (TD y)).up
     ·conv=>rhs;rw[e1]
      rw[QZ,QZ,Qt,Qt,Qt,Qt,<-UH (ZE c (.one z)),Qdb,UH]
 |false =>
  cases w with
  |nil=>exact absurd rfl hw.1
  |cons z v =>
  have a3:∀g,pAdd (.tup (v.map .int)) (.tup [.int z]) g=.ok (.tup (v.map .int++[.int z])) g:=λg=>hadd _ _ _ (by simp at hwl ⊢;omega)
  by_cases h0:p+1=T.length
  ·have hb':∀g,QE [.int ((p:Int)+1),.int T.length] g=.ok (.bl false) g:=λg=>Qfp (by omega)
   exact⟨none,λg=>by simp[Qo,Qv,hix,hb',Pr],.none⟩
  ·have hb':∀g,QE [.int ((p:Int)+1),.int T.length] g=.ok (.bl true) g:=λg=>Qfo (by omega) (by omega)
   obtain⟨t,ht⟩:∃t,T[p+1]?=some t:=⟨T[p+1],Uq (by omega)⟩
   have hix1:atD (T.map tkD) ((p:Int)+1)=some (tkD t):=by rw[show(p:Int)+1=((p+1:Nat):Int) by omega];exact atN (by rw[Uy,ht];rfl)
   have hne:=λg=>QiO (t:=t) (z:=z) (g:=g)
   cases hb:isO [t] [z]with
   |false =>
    rw[hb]at hne
    exact⟨none,λg=>by simp[Qo,Qv,hix,hb',Pr,hix1,hne],.none⟩
   |true =>
    rw[hb]at hne
    have htz:t=.one z:=by have:=Qda hb;simpa using this
    subst htz
    have hc1:cutD (T.map tkD) none (some (p:Int))=(T.take p).map tkD:=by rw[Qgh,<-T1]
    have hc2:cutD (T.map tkD) (some ((p:Int)+1+1)) none=(T.drop (p+2)).map tkD:=by
     rw[show(p:Int)+1+1=((p+2:Nat):Int) by omega,QbM,<-T3]
    have z1:((T.take p).map tkD).length+((T.drop (p+2)).map tkD).length<=140:=by simp;omega
    generalize hA:(T.take p).map tkD=A at hc1 z1
    generalize hB:(T.drop (p+2)).map tkD=B at hc2 z1
    refine⟨some (.tup (A++([tkD (.one z),tkD (.many (v++[z]) k)]++B))),λg=>?_,λd hd=>?_⟩
    ·have a1:=hadd g A [tkD (.one z),tkD (.many (v++[z]) k)] (by simp;omega)
     have a2:=hadd g (A++[tkD (.one z),tkD (.many (v++[z]) k)]) B (by simp;omega)
     simp[tkD]at a1 a2 hix1 hne
     simp[Qo,Qv,hix,hb',Pr,hix1,hne,a1,a2,a3,hc1,hc2,tkD]
    ·cases hd
     have e1:T=T.take p++(.many (z::v) k::.one z::T.drop (p+2)):=by
      have e2:=QbN hp
      have e3:T.drop (p+1)=.one z::T.drop (p+2):=by
       rw[T7 (by omega)]
       congr 1
       exact(Ud.mp ht).2
      rw[e3]at e2;exact e2
     refine⟨T.take p++(.one z::.many (v++[z]) k::T.drop (p+2)),by rw[<-hA,<-hB];simp,by simp;omega,λt ht'=>?_,λc=>?_⟩
     ·rcases UB.mp ht' with y|y
      ·exact(hT t (Tc y)).up
      rcases Uu.mp y with rfl|y
      ·exact(hT _ (U4 ht)).up
      rcases Uu.mp y with rfl|y
      ·exact TkK.up ⟨by simp,λx hx=>hw.2.1 x (by simp at hx ⊢;rcases hx with hx|rfl <;> simp[*]),hw.2.2.1,by simp at hwl ⊢;omega,hw.2.2.2.2⟩
      ·exact(hT t (TD y)).up
     ·conv=>rhs;rw[e1]
      rw[QZ,QZ,Qt,Qt,Qt,Qt,<-UH (ZE c (.one z)),Qdb,UH]
theorem QgW(s:Bool)(T:List Tk)(a:Nat):(∃(p:Nat)(w:List Int)(k:Int),T[p]?=some (.many w k)/\(∀g,QP [.tup (T.map tkD),.str (fc s),.int a] g=.ok (.int p) g)) \/
  (∀g,QP [.tup (T.map tkD),.str (fc s),.int a] g=.raise (8,none) g):=by
 have ha:¬((a:Int)<0):=by omega
 by_cases h:a<T.length
 ·have hb':∀g,QE [.int a,.int T.length] g=.ok (.bl true) g:=λg=>Qfo (by omega) (by omega)
  have key:∀(p:Nat)(t:Tk),T[p]?=some t->(p:Int)=(if s then (T.length:Int) - 1-a else a)->(∃(p:Nat)(w:List Int)(k:Int),T[p]?=some (.many w k)/\(∀g,QP [.tup (T.map tkD),.str (fc s),.int a] g=.ok (.int p) g)) \/
  (∀g,QP [.tup (T.map tkD),.str (fc s),.int a] g=.raise (8,none) g):=λp t ht hp=>by
   have hix:atD (T.map tkD) p=some (tkD t):=atN (by rw[Uy,ht];rfl)
   rw[hp]at hix
   cases t with
   |one z=>refine .inr λg=>?_;cases s <;> simp at hix <;> simp[QP,Yb,hb',hix,tkD]
   |many w k =>
    refine .inl ⟨p,w,k,ht,λg=>?_⟩;rw[hp];cases s <;> simp at hix <;> simp[QP,Yb,hb',hix,tkD]
  cases s
  ·exact key a T[a] (Uq h) rfl
  ·exact key (T.length-1-a) T[T.length-1-a] (Uq (by omega)) (by simp;omega)
 ·have hb':∀g,QE [.int a,.int T.length] g=.ok (.bl false) g:=λg=>Qfp (by omega)
  refine .inr λg=>?_;cases s <;> simp[QP,Yb,hb']
end
theorem wds:(Str.ofString "back" == Str.ofString "draw")=false/\(Str.ofString "back" == Str.ofString "join")=false/\(Str.ofString "back" == Str.ofString "open")=false/\(Str.ofString "back" == Str.ofString "over")=false/\(Str.ofString "back" == Str.ofString "roll")=false/\(Str.ofString "back" == Str.ofString "step")=false/\(Str.ofString "draw" == Str.ofString "back")=false/\(Str.ofString "draw" == Str.ofString "join")=false/\(Str.ofString "draw" == Str.ofString "open")=false/\(Str.ofString "draw" == Str.ofString "over")=false/\(Str.ofString "draw" == Str.ofString "roll")=false/\(Str.ofString "draw" == Str.ofString "step")=false/\(Str.ofString "join" == Str.ofString "back")=false/\(Str.ofString "join" == Str.ofString "draw")=false/\(Str.ofString "join" == Str.ofString "open")=false/\(Str.ofString "join" == Str.ofString "over")=false/\(Str.ofString "join" == Str.ofString "roll")=false/\(Str.ofString "join" == Str.ofString "step")=false/\(Str.ofString "open" == Str.ofString "over")=false/\(Str.ofString "open" == Str.ofString "step")=false/\(Str.ofString "over" == Str.ofString "open")=false/\(Str.ofString "over" == Str.ofString "step")=false/\(Str.ofString "pad" == Str.ofString "open")=false/\(Str.ofString "pad" == Str.ofString "over")=false/\(Str.ofString "pad" == Str.ofString "step")=false/\(Str.ofString "pad" == Str.ofString "trim")=false/\(Str.ofString "roll" == Str.ofString "back")=false/\(Str.ofString "roll" == Str.ofString "draw")=false/\(Str.ofString "roll" == Str.ofString "join")=false/\(Str.ofString "roll" == Str.ofString "open")=false/\(Str.ofString "roll" == Str.ofString "over")=false/\(Str.ofString "roll" == Str.ofString "step")=false/\(Str.ofString "step" == Str.ofString "open")=false/\(Str.ofString "step" == Str.ofString "over")=false/\(Str.ofString "trim" == Str.ofString "open")=false/\(Str.ofString "trim" == Str.ofString "over")=false/\(Str.ofString "trim" == Str.ofString "pad")=false/\(Str.ofString "trim" == Str.ofString "step")=false:=by decide +kernel
inductive Wd where|join|draw|roll|back
noncomputable def wS:Wd->Str
 |.join=>Str.ofString "join" |.draw=>Str.ofString "draw" |.roll=>Str.ofString "roll" |.back=>Str.ofString "back"
section
variable{m K:Nat}{T:List Tk}{g:G}
@[simp] theorem Qpf{neg:Bool}{s a b:Str}:pIn neg (.str s) (.tup [.str a,.str b]) g=.ok (.bl (if neg=true then !((a == s) || (b == s)) else ((a == s) || (b == s)))) g:=by
 show Res.ok (D.bl (if neg=true then !((a == s) || ((b == s) || false)) else ((a == s) || ((b == s) || false)))) g=_
 rw[RZ]
@[simp] theorem Qoz{neg:Bool}{i:Int}:pIn neg (.int i) (.tup [.int 2,.int 3]) g=.ok (.bl (if neg=true then !((2 == i) || (3 == i)) else ((2 == i) || (3 == i)))) g:=by
 show Res.ok (D.bl (if neg=true then !((2 == i) || ((3 == i) || false)) else ((2 == i) || ((3 == i) || false)))) g=_
 rw[RZ]
@[simp] theorem Qpg{ds:List D}:ZT .tuple (.tup ds) g=.ok (.bl true) g:=rfl
theorem QiS(hT:∀t∈T,TkK K m t)(hz:T.length<=140)(wd:Wd)(s:Bool)(a:Nat):∃o:Option D,(∀g,∃g',Keeps [] g g'/\ZB [.tup (T.map tkD),.str (wS wd),.str (fc s),.int a] g=Pr o g')/\TOp K m T o:=by
 rcases QgW s T a with⟨p,w,k,hp,e1⟩|e1
 ·have hgath:∀r,(wd=.join/\r = !s\/wd=.draw/\r=s)->∃o:Option D,(∀g,∃g',Keeps [] g g'/\ZB [.tup (T.map tkD),.str (wS wd),.str (fc s),.int a] g=Pr o g')/\TOp K m T o:=λr hr=>by
   obtain⟨o,b1,b3⟩:=QiQ hp hT hz r
   refine⟨o,λg=>?_,b3⟩
   obtain⟨g',k1,q⟩:=b1 g
   refine⟨g',k1,?_⟩
   cases s <;> rcases hr with⟨rfl,rfl⟩|⟨rfl,rfl⟩ <;> cases o <;> simp[Pr]at q <;> simp[ZB,Jv,e1,wS,wds,q,Pr]
  have hpass:∀r,(wd=.roll/\r = !s\/wd=.back/\r=s)->∃o:Option D,(∀g,∃g',Keeps [] g g'/\ZB [.tup (T.map tkD),.str (wS wd),.str (fc s),.int a] g=Pr o g')/\TOp K m T o:=λr hr=>by
   obtain⟨o,b1,b3⟩:=QiR hp hT hz r
   refine⟨o,λg=>⟨g,.refl,?_⟩,b3⟩
   have q:=b1 g
   cases s <;> rcases hr with⟨rfl,rfl⟩|⟨rfl,rfl⟩ <;> cases o <;> simp[Pr]at q <;> simp[ZB,Jv,e1,wS,wds,q,Pr]
  cases wd
  ·exact hgath _ (.inl ⟨rfl,rfl⟩)
  ·exact hgath _ (.inr ⟨rfl,rfl⟩)
  ·exact hpass _ (.inl ⟨rfl,rfl⟩)
  ·exact hpass _ (.inr ⟨rfl,rfl⟩)
 ·exact⟨none,λg=>⟨g,.refl,by simp[ZB,Jv,e1,Pr]⟩,.none⟩
noncomputable def eS(pad:Bool):Str:=if pad then Str.ofString "pad" else Str.ofString "trim"
def Same(s:Bool)(A B:List Int):Prop:=∀i:Nat,(if s then A else A.reverse)[i]?.getD 0=(if s then B else B.reverse)[i]?.getD 0
theorem Qa2(A:List Int)(i:Nat):(A++[0])[i]?.getD 0=A[i]?.getD 0:=by
 by_cases h:i<A.length
 ·rw[Ut h]
 ·rw[Ux (by omega),U8 (l:=A) (by omega)]
  cases i-A.length <;> rfl
def EOp(K m:Nat)(s:Bool)(T:List Tk)(o:Option D):Prop:=∀d,o=some d->∃T',d=.tup (T'.map tkD)/\T'.length<=T.length+1/\(∀t∈T',TkK (K+1) m t)/\∀c,Same s (Qn c T') (Qn c T)
theorem TOp.e{s:Bool}{o:Option D}(h:TOp K m T o):EOp K m s T o:=λd hd=>by
 obtain⟨T',h1,h2,h3,h4⟩:=h d hd
 exact⟨T',h1,by omega,h3,λc i=>by rw[h4]⟩
theorem Qke(hm:0<m)(hT:∀t∈T,TkK K m t)(hz:T.length<=140)(pad s:Bool):∃o:Option D,(∀g,ZG [.tup (T.map tkD),.str (eS pad),.str (fc s)] g=Pr o g)/\EOp K m s T o/\(pad=true->o≠none):=by
 have a1:∀(g:G) x,pAdd (.tup (T.map tkD)) (.tup [x]) g=.ok (.tup (T.map tkD++[x])) g:=λg x=>QcJ (by simp;omega)
 have a2:∀(g:G) x,pAdd (.tup [x]) (.tup (T.map tkD)) g=.ok (.tup (x::T.map tkD)) g:=λg x=>QcJ (by simp;omega)
 have h1:TkK (K+1) m (.one 0):=⟨by omega,by omega⟩
 cases pad
 ·have key:∀(t:Tk)(X:List Tk),(s=true/\T=X++[t]\/s=false/\T=t::X)->∃o:Option D,(∀g,ZG [.tup (T.map tkD),.str (eS false),.str (fc s)] g=Pr o g)/\EOp K m s T o:=λt X h=>by
   have hn:∀g,pNe (.tup [tkD t]) (.tup [.tup [.str "one",.int 0]]) g=.ok (.bl (!isO [t] [0])) g:=λg=>QiN (X:=[t]) (w:=[0]) (g:=g)
   refine⟨if isO [t] [0] then some (.tup (X.map tkD)) else none,λg=>?_,λd hd=>?_⟩
   ·rcases h with⟨rfl,rfl⟩|⟨rfl,rfl⟩ <;> cases hb:isO [t] [0] <;> rw[hb]at hn <;> simp[ZG,Qaf,eS,wds,hn,Pr]
   ·cases hb:isO [t] [0]with
    |false=>rw[hb]at hd;cases hd
    |true =>
     rw[hb]at hd
     cases hd
     have ht:t=.one 0:=by have:=Qda hb;simpa using this
     subst ht
     have:∀x∈X,x∈T:=λx hx=>by rcases h with⟨_,rfl⟩|⟨_,rfl⟩ <;> simp[hx]
     refine⟨X,rfl,by rcases h with⟨_,rfl⟩|⟨_,rfl⟩ <;> simp <;> omega,λt ht=>(hT t (this t ht)).up,λc i=>?_⟩
     rcases h with⟨rfl,rfl⟩|⟨rfl,rfl⟩
     ·rw[QZ];exact(Qa2 (Qn c X) i).symm
     ·rw[Qt]
      show(Qn c X).reverse[i]?.getD 0=([0]++Qn c X).reverse[i]?.getD 0
      rw[RB];exact(Qa2 _ i).symm
  have nil:T=[]->∃o:Option D,(∀g,ZG [.tup (T.map tkD),.str (eS false),.str (fc s)] g=Pr o g)/\EOp K m s T o:=λh=>by
   subst h
   have n0:∀g,pNe (.tup []) (.tup [.tup [.str "one",.int 0]]) g=.ok (.bl true) g:=λg=>rfl
   exact⟨none,λg=>by cases s <;> simp[ZG,Qaf,eS,wds,Pr,n0],λd h=>by cases h⟩
  have fin:∃o:Option D,(∀g,ZG [.tup (T.map tkD),.str (eS false),.str (fc s)] g=Pr o g)/\EOp K m s T o:=by
   cases s
   ·cases T with
    |nil=>exact nil rfl
    |cons t X=>exact key t X (.inr ⟨rfl,rfl⟩)
   ·rcases U2 T with h|⟨X,t,h⟩
    ·exact nil h
    ·exact key t X (.inl ⟨rfl,by rw[h];simp⟩)
  obtain⟨o,f1,f2⟩:=fin
  exact⟨o,f1,f2,λh=>by cases h⟩
 ·refine⟨some (.tup ((if s then T++[.one 0] else .one 0::T).map tkD)),λg=>?_,λd hd=>?_,λ_ h=>by cases h⟩
  ·cases s <;> simp[ZG,Qaf,eS,a1,a2,Pr,tkD]
  ·cases hd
   refine⟨_,rfl,by cases s <;> simp,λt ht=>?_,λc i=>?_⟩
   ·cases s <;> simp at ht <;> rcases ht with z|z <;> first|exact(hT t z).up|(rw[z];exact h1)
   ·cases s
    ·simp only[U5,TL]
     rw[Qt]
     show([0]++Qn c T).reverse[i]?.getD 0=_
     rw[RB];exact Qa2 _ i
    ·simp only[TX]
     rw[QZ];exact Qa2 _ i
end
noncomputable def tp(l r:Nat->Int)(x:Int):Int:=if x<0 then l (-1-x).toNat else r x.toNat
noncomputable def sR(A:List Int)(i:Nat):Int:=A[i]?.getD 0
noncomputable def plc(b:Bool):Int:=if b then 0 else -1
noncomputable def put(F:Int->Int)(p a:Int):Int->Int:=λx=>if x=p then a else F x
section
variable{l r l' r':Nat->Int}{a:Int}
theorem QoA(h1:∀i,r' i=r (i+1))(h2:l' 0=a)(h3:∀i,l' (i+1)=l i)(x:Int):put (tp l r) 0 a (x+1)=tp l' r' x:=by
 unfold put tp
 rcases(by omega:x = -1\/x < -1\/0<=x) with h|h|h
 ·subst h;simp[h2]
 ·rw[Uh (by omega),Ue (by omega),Ue (by omega),show(-1-x).toNat=(-1 - (x+1)).toNat+1 by omega,h3]
 ·rw[Uh (by omega),Uh (by omega),Uh (by omega),h1,show(x+1).toNat=x.toNat+1 by omega]
theorem QoB(h1:∀i,r' (i+1)=r (i+1))(h2:r' 0=a)(x:Int):put (tp l r) 0 a x=tp l r' x:=by
 unfold put tp
 rcases(by omega:x=0\/x<0\/0<x) with h|h|h
 ·subst h;simp[h2]
 ·rw[Uh (by omega),Ue h,Ue h]
 ·rw[Uh (by omega),Uh (by omega),Uh (by omega),show x.toNat=(x-1).toNat+1 by omega,h1]
theorem QoC(h1:∀i,l' i=l (i+1))(h2:r' 0=a)(h3:∀i,r' (i+1)=r i)(x:Int):put (tp l r) (-1) a (x-1)=tp l' r' x:=by
 unfold put tp
 rcases(by omega:x=0\/x<0\/0<x) with h|h|h
 ·subst h;simp[h2]
 ·rw[Uh (by omega),Ue (by omega),Ue (by omega),h1,show(-1 - (x-1)).toNat=(-1-x).toNat+1 by omega]
 ·rw[Uh (by omega),Uh (by omega),Uh (by omega),show x.toNat=(x-1).toNat+1 by omega,h3]
theorem QoD(h1:∀i,l' (i+1)=l (i+1))(h2:l' 0=a)(x:Int):put (tp l r) (-1) a x=tp l' r x:=by
 unfold put tp
 rcases(by omega:x = -1\/x < -1\/0<=x) with h|h|h
 ·subst h;simp[h2]
 ·rw[Uh (by omega),Ue (by omega),Ue (by omega),show(-1-x).toNat=(-1 - (x+1)).toNat+1 by omega,h1]
 ·rw[Uh (by omega),Uh (by omega),Uh (by omega)]
end
noncomputable abbrev Cg:=Int×Int×(Int->Int)
def Stp(rows:List (List D))(u v:Cg):Prop:=∃a w,en rows u.1 (u.2.2 u.2.1)=some (a,w,v.1)/\v.2.1=pn u.2.1 w/\v.2.2=put u.2.2 u.2.1 a
inductive Rin(rows:List (List D))(lo hi:Int):Nat->Cg->Cg->Prop where
 |nil (u:Cg):Rin rows lo hi 0 u u
 |cons {n:Nat} {u v w:Cg} (h1:lo<=u.2.1/\u.2.1<hi) (h2:Stp rows u v) (h3:Rin rows lo hi n v w):Rin rows lo hi (n+1) u w
theorem Rin.app{rows:List (List D)}{lo hi:Int}{n k:Nat}{u v w:Cg}(h:Rin rows lo hi n u v)(h':Rin rows lo hi k v w):Rin rows lo hi (n+k) u w:=by
 induction h with
 |nil u=>rw[Nat.zero_add];exact h'
 |cons a b c ih=>rw[Nat.add_right_comm];exact .cons a b (ih h')
theorem Rin.mono{rows:List (List D)}{lo hi lo' hi':Int}{n:Nat}{u v:Cg}(h:Rin rows lo hi n u v)(h1:lo'<=lo)(h2:hi<=hi'):Rin rows lo' hi' n u v:=by
 induction h with
 |nil u=>exact .nil u
 |cons a b c ih=>exact .cons ⟨by omega,by omega⟩ b ih
def Sg(F:Int->Int)(q:Int)(A:List Int):Prop:=∀i:Nat,i<A.length->F (q+i)=A[i]?.getD 0
theorem Sg.app{F:Int->Int}{q:Int}{A B:List Int}(h:Sg F q (A++B)):Sg F q A/\Sg F (q+A.length) B:=by
 refine⟨λi hi=>?_,λi hi=>?_⟩
 ·rw[h i (by simp;omega),Ut hi]
 ·rw[show q+(A.length:Int)+i=q+((A.length+i:Nat):Int) by omega,h _ (by simp;omega),Ux (by omega),We]
def Out'(F F':Int->Int)(q:Int)(n:Nat):Prop:=∀x,x<q\/q+n<=x->F' x=F x
theorem Qan{rows:List (List D)}:∀(f:Nat)(c:List Int)(p cur:Int)(c':List Int)(s:Int)(v:Bool)(q:Int)(F:Int->Int),goW rows f c p cur=some (c',s,v)->0<=p->p<c.length->Sg F q c ->
  ∃N F',N<=f/\Rin rows q (q+c.length) N (cur,q+p,F) (s,(if v then q+c.length else q-1),F')/\c'.length=c.length/\Sg F' q c'/\Out' F F' q c.length
 |0,_,_,_,_,_,_,_,_,h,_,_,_=>by cases h
 |f+1,c,p,cur,c',s,v,q,F,h,h0,h1,hS=>by
  have hat:F (q+p)=c[p.toNat]?.getD 0:=by
   have:=hS p.toNat (by omega)
   rw[show((p.toNat:Nat):Int)=p by omega]at this;exact this
  unfold goW at h
  rw[<-hat]at h
  cases he:en rows cur (F (q+p)) with
  |none=>rw[he]at h;cases h
  |some e =>
   obtain⟨a,w,s1⟩:=e
   rw[he]at h
   dsimp only at h
   have st1:Stp rows (cur,q+p,F) (s1,q+pn p w,put F (q+p) a):=⟨a,w,he,by show q+pn p w=pn (q+p) w;unfold pn;split <;> omega,rfl⟩
   have hS1:Sg (put F (q+p) a) q (c.set p.toNat a):=λi hi=>by
    rw[UN]at hi
    unfold put
    by_cases hz:i=p.toNat
    ·rw[Ue (by omega),hz,U0 (by omega)];rfl
    ·rw[Uh (by omega),Uo (by omega)];exact hS i hi
   have hO1:Out' F (put F (q+p) a) q c.length:=λx hx=>Uh (by omega)
   by_cases hin:0<=pn p w/\pn p w<c.length
   ·rw[Ue hin]at h
    obtain⟨N,F',n1,n2,n3,n4,n5⟩:=Qan f (c.set p.toNat a) (pn p w) s1 c' s v q (put F (q+p) a) h hin.1 (by rw[UN];exact hin.2) hS1
    rw[UN]at n2 n3 n5
    exact⟨N+1,F',by omega,.cons ⟨by show q<=q+p;omega,by show q+p<q+c.length;omega⟩ st1 n2,n3,n4,λx hx=>(n5 x hx).trans (hO1 x hx)⟩
   ·rw[Uh hin]at h
    cases h
    have hpos:q+pn p v=if v then q+(c.length:Int) else q-1:=by
     cases v <;> simp[pn]at hin ⊢ <;> omega
    rw[hpos]at st1
    exact⟨1,_,by omega,.cons ⟨by show q<=q+p;omega,by show q+p<q+c.length;omega⟩ st1 (.nil _),by rw[UN],hS1,hO1⟩
theorem Qgj{st:Int}{b:Bool}{o:Option (List Int×Int×Bool)}{c:List Int}(h:ovW st b o=some c):o=some (c,st,b):=by
 unfold ovW at h
 split at h
 ·split at h
  ·rename_i h2
   rw[UD]at h2
   cases h
   rw[W2 h2.1,W2 h2.2]
  ·cases h
 ·cases h
theorem QkT{rows:List (List D)}{st:Int}{w w':List Int}(hw:w≠[])(h:goW rows 1000 w 0 st=some (w',st,true)):∀(n:Nat)(q:Int)(F:Int->Int),Sg F q (List.replicate n w).flatten ->
  ∃N F',N<=1000*n/\Rin rows q (q+n*w.length) N (st,q,F) (st,q+n*w.length,F')/\Sg F' q (List.replicate n w').flatten/\Out' F F' q (n*w.length)
 |0,q,F,_=>⟨0,F,Ui _,by rw[show q+((0:Nat):Int)*w.length=q by omega];exact .nil _,λi hi=>by simp at hi,λx _=>rfl⟩
 |n+1,q,F,hS=>by
  have hl:0<w.length:=U7.mpr hw
  rw[Uw,UK]at hS
  obtain⟨S1,S2⟩:=hS.app
  obtain⟨N1,F1,a1,a2,a3,a4,a5⟩:=Qan 1000 w 0 st w' st true q F h (by omega) (by omega) S1
  simp only[TX,Int.add_zero]at a2
  have hfl:=Yn w n
  have S3:Sg F1 (q+w.length) (List.replicate n w).flatten:=λi hi=>by
   rw[a5 _ (by omega)];exact S2 i hi
  obtain⟨N2,F2,b1,b2,b3,b4⟩:=QkT hw h n (q+w.length) F1 S3
  have e1:((n+1:Nat):Int)*w.length=w.length+n*w.length:=by push_cast;rw[BO];omega
  have e2:((n:Int)*w.length)=((n*w.length:Nat):Int):=by push_cast;rfl
  have e3:(n+1)*w.length=w.length+n*w.length:=by rw[Wo,Wp]
  rw[e1,e3]
  rw[e2]at b2 ⊢
  have e4:q+(w.length:Int)+((n*w.length:Nat):Int)=q+(w.length+((n*w.length:Nat):Int)):=by omega
  rw[e4]at b2
  refine⟨N1+N2,F2,by omega,(a2.mono (Rv _) (by omega)).app (b2.mono (by omega) (Rv _)),?_,λx hx=>?_⟩
  ·rw[Uw,UK]
   intro i hi
   rw[Um,a3]at hi
   by_cases hi':i<w.length
   ·rw[Ut (by omega),b4 _ (.inl (by omega))];exact a4 i (by omega)
   ·rw[Ux (by omega),a3]
    have:=b3 (i-w.length) (by omega)
    rw[show q+(w.length:Int)+((i-w.length:Nat):Int)=q+i by omega]at this
    exact this
  ·rw[b4 x (by omega),a5 x (by omega)]
theorem QkU{rows:List (List D)}{st:Int}{w w':List Int}(hw:w≠[])(h:goW rows 1000 w ((w.length:Int) - 1) st=some (w',st,false)):∀(n:Nat)(q:Int)(F:Int->Int),Sg F (q-n*w.length) (List.replicate n w).flatten ->
  ∃N F',N<=1000*n/\Rin rows (q-n*w.length) q N (st,q-1,F) (st,q-n*w.length-1,F')/\Sg F' (q-n*w.length) (List.replicate n w').flatten/\Out' F F' (q-n*w.length) (n*w.length)
 |0,q,F,_=>⟨0,F,Ui _,by rw[show q - ((0:Nat):Int)*w.length=q by omega];exact .nil _,λi hi=>by simp at hi,λx _=>rfl⟩
 |n+1,q,F,hS=>by
  have hl:0<w.length:=U7.mpr hw
  have hfl:=Yn w n
  have hwl:w'.length=w.length:=by
   obtain⟨_,_,_,_,a3,_⟩:=Qan (rows:=rows) 1000 w ((w.length:Int) - 1) st w' st false 0 (λx=>sR w x.toNat) h (by omega) (by omega) (λi _=>by simp[sR])
   exact a3
  have hfl':=Yn w' n
  rw[hwl]at hfl'
  have e1:((n+1:Nat):Int)*w.length=w.length+n*w.length:=by push_cast;rw[BO];omega
  have e2:((n:Int)*w.length)=((n*w.length:Nat):Int):=by push_cast;rfl
  have e3:(n+1)*w.length=w.length+n*w.length:=by rw[Wo,Wp]
  have r1:∀v:List Int,(List.replicate (n+1) v).flatten=(List.replicate n v).flatten++v:=λv=>by rw[Uw,UK];exact(QdO v n).symm
  rw[r1]at hS
  rw[e1,e2]at hS
  obtain⟨S2,S1⟩:=hS.app
  rw[hfl,show q - ((w.length:Int)+((n*w.length:Nat):Int))+((n*w.length:Nat):Int)=q-w.length by omega]at S1
  obtain⟨N1,F1,a1,a2,a3,a4,a5⟩:=Qan 1000 w ((w.length:Int) - 1) st w' st false (q-w.length) F h (by omega) (by omega) S1
  rw[show q - (w.length:Int)+w.length=q by omega,show q - (w.length:Int)+((w.length:Int) - 1)=q-1 by omega]at a2
  simp only[U5,TL]at a2
  have S3:Sg F1 (q-w.length-n*w.length) (List.replicate n w).flatten:=λi hi=>by
   rw[e2,a5 _ (by omega)]
   have:=S2 i hi
   rw[show q - ((w.length:Int)+((n*w.length:Nat):Int))=q-w.length - ((n*w.length:Nat):Int) by omega]at this
   exact this
  obtain⟨N2,F2,b1,b2,b3,b4⟩:=QkU hw h n (q-w.length) F1 S3
  rw[e2]at b2 b3 b4
  have e4:q - (w.length:Int) - ((n*w.length:Nat):Int)=q - (w.length+((n*w.length:Nat):Int)):=by omega
  rw[e4]at b2 b3 b4
  rw[e1,e3,e2]
  refine⟨N1+N2,F2,by omega,(a2.mono (by omega) (Rv _)).app (b2.mono (Rv _) (by omega)),?_,λx hx=>?_⟩
  ·rw[r1]
   intro i hi
   rw[Um,hwl]at hi
   by_cases hi':i<n*w.length
   ·rw[Ut (by omega)];exact b3 i (by omega)
   ·rw[Ux (by omega),hfl',b4 _ (.inr (by omega))]
    have:=a4 (i-n*w.length) (by omega)
    rw[show q - (w.length:Int)+((i-n*w.length:Nat):Int)=q - (w.length+((n*w.length:Nat):Int))+i by omega]at this
    exact this
  ·rw[b4 x (by omega),a5 x (by omega)]
inductive Mv where
 |step|over|opn|ends (pad s:Bool)|many (wd:Wd) (s:Bool) (a:Nat)
noncomputable def mvD:Mv->D
 |.step=>.tup [.str "step"]
 |.over=>.tup [.str "over"]
 |.opn=>.tup [.str "open"]
 |.ends pad s=>.tup [.str (eS pad),.str (fc s)]
 |.many wd s a=>.tup [.str (wS wd),.str (fc s),.int a]
noncomputable def Tp(c:Nat)(L R:List Tk):Int->Int:=tp (sR (Qn c L).reverse) (sR (Qn c R))
noncomputable def Wk(rows:List (List D))(c:Nat)(mv:Mv)(st:Int)(b:Bool)(L R:List Tk)(st':Int)(b':Bool)(L' R':List Tk):Prop :=
 ∃v:Cg,(match mv with
  |.step=>Stp rows (st,plc b,Tp c L R) v
  |.over=>∃w k N,ahT b L R=some (.many w k)/\N<=1000*(c+k.toNat)/\Rin rows (if b then 0 else -(((c+k.toNat)*w.length:Nat):Int)) (if b then (((c+k.toNat)*w.length:Nat):Int) else 0) N (st,plc b,Tp c L R) v/\v.2.1=(if b then (((c+k.toNat)*w.length:Nat):Int) else -(((c+k.toNat)*w.length:Nat):Int) - 1)
  |_=>v=(st,plc b,Tp c L R))/\v.1=st'/\∀x,v.2.2 (x+(v.2.1-plc b'))=Tp c L' R' x
theorem QiT{A B:List Int}{i:Nat}(h:i<A.length):sR (A++B) i=sR A i:=by unfold sR;rw[Ut h]
theorem QiU{A B:List Int}{i:Nat}(h:A.length<=i):sR (A++B) i=sR B (i-A.length):=by unfold sR;rw[Ux h]
theorem QiV{A:List Int}{i:Nat}(h:i<A.length):sR A.reverse i=sR A (A.length-1-i):=by unfold sR;rw[List.getElem?_reverse h]
theorem QeJ(c:Nat):Qn c []=[]:=rfl
theorem Z5(c:Nat)(L:List Tk)(t:Tk):(Qn c (L++[t])).reverse=(ZE c t).reverse++(Qn c L).reverse:=by rw[QZ,Qt,QeJ,UW,RB]
noncomputable def tL(b:Bool)(L:List Tk):List Tk:=if b then L else L.dropLast
noncomputable def tR(b:Bool)(R:List Tk):List Tk:=if b then R.tail else R
theorem QlT{b w:Bool}{L R:List Tk}{s:Int}{t:Tk}:gone b (L.map tkD) (R.map tkD) s w (tkD t)=shD s w ((if w then tL b L++[t] else tL b L).map tkD) ((if w then tR b R else t::tR b R).map tkD):=by
 cases b <;> cases w <;> simp[gone,rsL,rsR,tL,tR]
section
variable{rows:List (List D)}{n m K:Nat}{st:Int}{b:Bool}{L R:List Tk}{c:Nat}
theorem QlU{a s1 s:Int}{w:Bool}(ha:ahT b L R=none/\s=0\/ahT b L R=some (.one s))(he:en rows st s=some (a,w,s1)):Wk rows c .step st b L R s1 w (if w then tL b L++[.one a] else tL b L) (if w then tR b R else .one a::tR b R):=by
 refine⟨(s1,pn (plc b) w,put (Tp c L R) (plc b) a),⟨a,w,?_,rfl,rfl⟩,rfl,?_⟩
 ·rw[<-he]
  congr 1
  cases b
  ·rcases U2 L with rfl|⟨L0,t,rfl⟩
   ·rcases ha with⟨_,rfl⟩|h
    ·rfl
    ·cases h
   ·simp[ahT]at ha
    rcases ha with rfl
    show sR (Qn c (L0.concat (.one s))).reverse 0=s
    rw[TZ,Z5];rfl
  ·cases R with
   |nil =>
    rcases ha with⟨_,rfl⟩|h
    ·rfl
    ·cases h
   |cons t R0 =>
    simp[ahT]at ha
    rcases ha with rfl
    rfl
 ·intro x
  cases b
  ·have h1:∀i,sR (Qn c L.dropLast).reverse i=sR (Qn c L).reverse (i+1):=λi=>by
    rcases U2 L with rfl|⟨L0,t,rfl⟩
    ·rfl
    ·simp[ahT]at ha
     rcases ha with rfl
     rw[TZ,WK,Z5];rfl
   cases w
   ·have:=QoC (l:=sR (Qn c L).reverse) (r:=sR (Qn c R)) (r':=sR (Qn c (.one a::R))) (a:=a) h1 rfl (λi=>rfl) x
    rw[<-show x+(pn (plc false) false-plc false)=x-1 by show x+(-1-1 - -1)=x-1;omega]at this
    exact this
   ·have:=QoD (l:=sR (Qn c L).reverse) (l':=sR (Qn c (L.dropLast++[.one a])).reverse) (r:=sR (Qn c R)) (a:=a) (λi=>by rw[Z5];exact h1 i) (by rw[Z5];rfl) x
    rw[<-show x+(pn (plc false) true-plc true)=x by show x+(-1+1-0)=x;omega]at this
    exact(by rw[show x+(pn (plc false) true-plc true)=x by show x+(-1+1-0)=x;omega]at this ⊢;exact this)
  ·have h1:∀i,sR (Qn c R.tail) i=sR (Qn c R) (i+1):=λi=>by
    cases R with
    |nil=>rfl
    |cons t R0 =>
     simp[ahT]at ha
     rcases ha with rfl
     rfl
   cases w
   ·have:=QoB (l:=sR (Qn c L).reverse) (r:=sR (Qn c R)) (r':=sR (Qn c (.one a::R.tail))) (a:=a) h1 rfl x
    rw[show x+((s1,pn (plc true) false,put (Tp c L R) (plc true) a).2.1-plc false)=x by show x+(0-1 - -1)=x;omega]
    exact this
   ·have:=QoA (l:=sR (Qn c L).reverse) (l':=sR (Qn c (L++[.one a])).reverse) (r:=sR (Qn c R)) (a:=a) h1 (by rw[Z5];rfl) (λi=>by rw[Z5];rfl) x
    rw[show x+((s1,pn (plc true) true,put (Tp c L R) (plc true) a).2.1-plc true)=x+1 by show x+(0+1-0)=x+1;omega]
    exact this
end
section
variable{rows:List (List D)}{n m K:Nat}{st:Int}{b:Bool}{L R:List Tk}{c:Nat}
theorem QlV{w w':List Int}{k:Int}(hw:w≠[])(ha:ahT b L R=some (.many w k))(he:ovW st b (goW rows 1000 w (ov0 b w) st)=some w'):Wk rows c .over st b L R st b (if b then tL b L++[.many w' k] else tL b L) (if b then tR b R else .many w' k::tR b R):=by
 have he:=Qgj he
 generalize hN:c+k.toNat=N
 cases b
 ·rcases U2 L with rfl|⟨L0,t,rfl⟩
  ·cases ha
  rw[TZ]at ha ⊢
  have ht:t=.many w k:=by simpa[ahT]using ha
  subst ht
  have hwl:w'.length=w.length:=by
   obtain⟨_,_,_,_,a3,_⟩:=Qan (rows:=rows) 1000 w _ st w' st false 0 (λx=>sR w x.toNat) he (by unfold ov0;have:=U7.mpr hw;simp;omega) (by unfold ov0;simp;omega) (λi _=>by simp[sR])
   exact a3
  have l1:(List.replicate N w).flatten.length=N*w.length:=Yn w N
  have l2:(List.replicate N w').flatten.length=N*w.length:=by rw[Yn,hwl]
  have e1:ZE c (.many w k)=(List.replicate N w).flatten:=by rw[<-hN];rfl
  have e2:ZE c (.many w' k)=(List.replicate N w').flatten:=by rw[<-hN];rfl
  have hF:∀x:Int,x<0->Tp c (L0++[.many w k]) R x=sR ((List.replicate N w).flatten.reverse++(Qn c L0).reverse) (-1-x).toNat:=λx hx=>by
   unfold Tp tp;rw[Ue hx,Z5,e1]
  have hc:((N:Int)*w.length)=((N*w.length:Nat):Int):=by push_cast;rfl
  generalize hW:N*w.length=W at l1 l2 hc
  obtain⟨T,F',o1,o2,o3,o4⟩:=QkU hw he N 0 (Tp c (L0++[.many w k]) R) (λi hi=>by
   rw[hc,hF _ (by omega),QiT (by rw[Th];omega),QiV (by omega),l1]
   unfold sR
   congr 2;omega)
  rw[hc]at o2 o3 o4
  rw[hW]at o4
  refine⟨(st,-((W:Nat):Int) - 1,F'),⟨w,k,T,ha,by omega,?_,?_⟩,rfl,λx=>?_⟩
  ·simp only[U5,TL]
   rw[hN,hW]
   rw[show(0:Int) - (W:Int) = -(W:Int) by omega]at o2
   exact o2
  ·simp only[U5,TL];rw[hN,hW]
  ·show F' (x+(-((W:Nat):Int) - 1 - -1))=Tp c (tL false (L0++[.many w k])) (.many w' k::tR false R) x
   rw[show x+(-((W:Nat):Int) - 1 - -1)=x-W by omega]
   unfold tL tR
   simp only[U5,TL,WK]
   by_cases h0:x<0
   ·rw[o4 _ (by omega),hF _ (by omega),QiU (by rw[Th];omega),Th,l1]
    unfold Tp tp;rw[Ue h0];congr 1;omega
   ·unfold Tp tp
    rw[Uh h0,Qt,e2]
    by_cases h1:x<W
    ·rw[QiT (by omega)]
     have:=o3 x.toNat (by omega)
     rw[show(0:Int) - (W:Int)+(x.toNat:Int)=x-W by omega]at this
     exact this
    ·rw[QiU (by omega),o4 _ (by omega)]
     unfold Tp tp;rw[Uh (by omega),l2];congr 1;omega
 ·cases R with
  |nil=>cases ha
  |cons t R0 =>
  have ht:t=.many w k:=by simpa[ahT]using ha
  subst ht
  have hwl:w'.length=w.length:=by
   obtain⟨_,_,_,_,a3,_⟩:=Qan (rows:=rows) 1000 w _ st w' st true 0 (λx=>sR w x.toNat) he (by unfold ov0;simp) (by unfold ov0;have:=U7.mpr hw;simp;omega) (λi _=>by simp[sR])
   exact a3
  have l1:(List.replicate N w).flatten.length=N*w.length:=Yn w N
  have l2:(List.replicate N w').flatten.length=N*w.length:=by rw[Yn,hwl]
  have e1:ZE c (.many w k)=(List.replicate N w).flatten:=by rw[<-hN];rfl
  have e2:ZE c (.many w' k)=(List.replicate N w').flatten:=by rw[<-hN];rfl
  have hF:∀x:Int,0<=x->Tp c L (.many w k::R0) x=sR ((List.replicate N w).flatten++Qn c R0) x.toNat:=λx hx=>by
   unfold Tp tp;rw[Uh (by omega),Qt,e1]
  have hc:((N:Int)*w.length)=((N*w.length:Nat):Int):=by push_cast;rfl
  generalize hW:N*w.length=W at l1 l2 hc
  obtain⟨T,F',o1,o2,o3,o4⟩:=QkT hw he N 0 (Tp c L (.many w k::R0)) (λi hi=>by
   rw[hF _ (by omega),QiT (by omega)]
   unfold sR
   congr 2;omega)
  rw[hc]at o2
  rw[hW]at o4
  refine⟨(st,((W:Nat):Int),F'),⟨w,k,T,ha,by omega,?_,?_⟩,rfl,λx=>?_⟩
  ·simp only[TX]
   rw[hN,hW]
   rw[show(0:Int)+(W:Int)=(W:Int) by omega]at o2
   exact o2
  ·simp only[TX];rw[hN,hW]
  ·show F' (x+(((W:Nat):Int) - 0))=Tp c (tL true L++[.many w' k]) (tR true (.many w k::R0)) x
   rw[show x+(((W:Nat):Int) - 0)=x+W by omega]
   unfold tL tR
   simp only[TX,List.tail_cons]
   by_cases h0:x<0
   ·unfold Tp tp
    rw[Ue h0,Z5,e2]
    by_cases h1 : -1-x<W
    ·rw[QiT (by rw[Th];omega),QiV (by omega),l2]
     have:=o3 (W-1 - (-1-x).toNat) (by omega)
     rw[show(0:Int)+((W-1 - (-1-x).toNat:Nat):Int)=x+W by omega]at this
     exact this
    ·rw[QiU (by rw[Th];omega),o4 _ (by omega)]
     unfold Tp tp;rw[Ue (by omega),Th,l2];congr 1;omega
   ·rw[o4 _ (by omega),hF _ (by omega),QiU (by omega)]
    unfold Tp tp;rw[Uh h0,l1];congr 1;omega
theorem QbO{mv:Mv}{L' R':List Tk}(h:match mv with | .step=>False | .over=>False|_=>True)(hL:Same false (Qn c L') (Qn c L))(hR:Same true (Qn c R') (Qn c R)):Wk rows c mv st b L R st b L' R':=by
 refine⟨(st,plc b,Tp c L R),?_,rfl,λx=>?_⟩
 ·cases mv <;> first|exact h.elim|rfl
 ·show Tp c L R (x+(plc b-plc b))=Tp c L' R' x
  rw[Int.sub_self,Int.add_zero]
  unfold Tp tp
  split
  ·exact(hL _).symm
  ·exact(hR _).symm
end
theorem Same.of{s:Bool}{A B:List Int}(h:A=B):Same s A B:=λi=>by rw[h]
@[simp] theorem QoE{g:G}{s t:Str}:pEq (.tup [.str s]) (.tup [.str t]) g=.ok (.bl (s == t)) g:=by simp[pEq,eqN,eqGs]
@[simp] theorem QoF{g:G}{s t u:Str}:pEq (.tup [.str s,.str u]) (.tup [.str t]) g=.ok (.bl false) g:=by simp[pEq,eqN,eqGs]
@[simp] theorem QoG{g:G}{s t u:Str}{i:Int}:pEq (.tup [.str s,.str u,.int i]) (.tup [.str t]) g=.ok (.bl false) g:=by simp[pEq,eqN,eqGs]
section
variable{rows:List (List D)}{n m K:Nat}{st:Int}{b:Bool}{L R:List Tk}
theorem Tbl.rng{s a s1:Int}{w:Bool}(h:Tbl rows n m)(h0:0<=st)(h1:st<n)(h2:0<=s)(h3:s<m)(he:en rows st s=some (a,w,s1)):(0<=a/\a<m)/\0<=s1/\s1<n:=by
 obtain⟨_,_,_,bd⟩:=h.at' h0 h1 h2 h3
 exact bd _ _ _ he
theorem QiW(hT:Tbl rows n m):∀(f:Nat)(c:List Int)(p cur:Int)(c':List Int)(s:Int)(v:Bool),goW rows f c p cur=some (c',s,v)->0<=cur->cur<n->0<=p->p<c.length->(∀x∈c,0<=x/\x<(m:Int))->c'.length=c.length/\∀x∈c',0<=x/\x<(m:Int)
 |0,_,_,_,_,_,_,h,_,_,_,_,_=>by cases h
 |f+1,c,p,cur,c',s,v,h,q0,q1,q2,q3,hc=>by
  obtain⟨y0,y1⟩:=QkR hc q2 q3
  unfold goW at h
  cases he:en rows cur (c[p.toNat]?.getD 0) with
  |none=>rw[he]at h;cases h
  |some e =>
   obtain⟨a,w,s1⟩:=e
   rw[he]at h
   dsimp only at h
   obtain⟨r1,r2⟩:=hT.rng q0 q1 y0 y1 he
   by_cases hin:0<=pn p w/\pn p w<c.length
   ·rw[Ue hin]at h
    have:=QiW hT f _ _ _ _ _ _ h r2.1 r2.2 hin.1 (by rw[UN];exact hin.2) (Qfn hc r1)
    rw[UN]at this;exact this
   ·rw[Uh hin]at h
    cases h
    exact⟨UN ..,Qfn hc r1⟩
def MOp(rows:List (List D))(n m K:Nat)(st:Int)(b:Bool)(L R:List Tk)(mv:Mv)(o:Option D):Prop:=∀d,o=some d->∃st' b' L' R',d=shD st' b' (L'.map tkD) (R'.map tkD)/\(0<=st'/\st'<n)/\(∀t∈L',TkK (K+1) m t)/\(∀t∈R',TkK (K+1) m t)/\L'.length<=L.length+21/\R'.length<=R.length+21/\∀c,Wk rows c mv st b L R st' b' L' R'
noncomputable def putO(st:Int)(b s:Bool)(L R:List D)(o:Option D):Option D:=o.map λd=>if s then .tup [.int st,.str (fc b),.tup L,d] else .tup [.int st,.str (fc b),d,.tup R]
theorem QkV{s:Bool}{o:Option D}{mv:Mv}(h0:0<=st)(h1:st<n)(hL:∀t∈L,TkK K m t)(hR:∀t∈R,TkK K m t)(h:match mv with | .step=>False | .over=>False|_=>True)(ho:EOp K m s (if s then R else L) o):MOp rows n m K st b L R mv (putO st b s (L.map tkD) (R.map tkD) o):=λd hd=>by
 cases hq:o with
 |none=>rw[hq]at hd;cases hd
 |some e =>
  obtain⟨T',rfl,z,k1,k2⟩:=ho e hq
  rw[hq]at hd
  cases s
  ·cases hd
   exact⟨st,b,T',R,rfl,⟨h0,h1⟩,k1,λt ht=>(hR t ht).up,by simp at z;omega,by omega,λc=>QbO h (k2 c) (.of rfl)⟩
  ·cases hd
   exact⟨st,b,L,T',rfl,⟨h0,h1⟩,λt ht=>(hL t ht).up,k1,by omega,by simp at z;omega,λc=>QbO h (.of rfl) (k2 c)⟩
theorem Qnu{P:Tk->Prop}(h:∀t∈L,P t):(∀t∈tL b L,P t)/\(tL b L).length<=L.length:=by
 unfold tL
 cases b
 ·exact⟨λt ht=>h t (by rw[TY]at ht;exact Tc ht),by simp⟩
 ·exact⟨h,Ui _⟩
theorem Qnv{P:Tk->Prop}(h:∀t∈R,P t):(∀t∈tR b R,P t)/\(tR b R).length<=R.length:=by
 unfold tR
 cases b
 ·exact⟨h,Ui _⟩
 ·exact⟨λt ht=>h t (List.mem_of_mem_tail ht),by simp⟩
theorem QiX{w:Bool}{s:Int}{t:Tk}{d:D}{mv:Mv}(hs:0<=s/\s<n)(ht:TkK K m t)(hL:∀t∈L,TkK K m t)(hR:∀t∈R,TkK K m t)(hd:gone b (L.map tkD) (R.map tkD) s w (tkD t)=d)(hk:∀c,Wk rows c mv st b L R s w (if w then tL b L++[t] else tL b L) (if w then tR b R else t::tR b R)):∃st' b' L' R',d=shD st' b' (L'.map tkD) (R'.map tkD)/\(0<=st'/\st'<n)/\(∀t∈L',TkK (K+1) m t)/\(∀t∈R',TkK (K+1) m t)/\L'.length<=L.length+21/\R'.length<=R.length+21/\∀c,Wk rows c mv st b L R st' b' L' R':=by
 obtain⟨p1,p2⟩:=Qnu (b:=b) hL
 obtain⟨q1,q2⟩:=Qnv (b:=b) hR
 refine⟨s,w,_,_,by rw[<-hd,QlT],hs,λu hu=>?_,λu hu=>?_,?_,?_,hk⟩
 ·cases w
  ·exact(p1 u hu).up
  ·rcases UB.mp hu with z|z
   ·exact(p1 u z).up
   ·rw[Up.mp z];exact ht.up
 ·cases w
  ·rcases Uu.mp hu with rfl|z
   ·exact ht.up
   ·exact(q1 u z).up
  ·exact(q1 u hu).up
 ·cases w <;> simp <;> omega
 ·cases w <;> simp <;> omega
theorem QeK(hT:Tbl rows n m)(h0:0<=st)(h1:st<n)(hL:∀t∈L,TkK K m t)(hR:∀t∈R,TkK K m t)(zL:L.length<=140)(zR:R.length<=140)(mv:Mv):∃o:Option D,(∀g M,g[M]?=some (JL rows)->∃g',Keeps [] g g'/\QV [.ref M,shD st b (L.map tkD) (R.map tkD),mvD mv] g=Pr o g')/\MOp rows n m K st b L R mv o/\(mv=.ends true false->o≠none):=by
 cases mv with
 |step =>
  refine⟨QiH rows st b L R,λg M hM=>⟨g,.refl,?_⟩,λd hd=>?_,λh=>by cases h⟩
  ·have:=QdL (b:=b) hM hT h0 h1 hL hR (by omega)
   cases ho:QiH rows st b L R <;> rw[ho]at this <;> simp[Pr,shD]at this <;> simp[QV,Z3,mvD,this,Pr,shD]
  ·have hs:∀s,(ahT b L R=none/\s=0\/ahT b L R=some (.one s))->0<=s->s<m->ste rows st b L R s=some d->_:=λs ha s0 s1 h=>by
    unfold ste at h
    cases he:en rows st s with
    |none=>rw[he]at h;cases h
    |some e =>
     obtain⟨a,w,s1⟩:=e
     rw[he]at h
     obtain⟨r1,r2⟩:=hT.rng h0 h1 s0 (by omega) he
     exact QiX (mv:=.step) (t:=.one a) r2 r1 hL hR (Option.some.inj h) λc=>QlU ha he
   unfold QiH at hd
   split at hd
   ·rename_i ha
    exact hs 0 (.inl ⟨ha,rfl⟩) (by omega) (by have:=hT.m0;omega) hd
   ·rename_i s ha
    have ht:=QaI ha hL hR
    exact hs s (.inr ha) ht.1 ht.2 hd
   ·cases hd
 |over =>
  refine⟨QiL rows st b L R,λg M hM=>?_,λd hd=>?_,λh=>by cases h⟩
  ·obtain⟨g',k,e⟩:=QdN (b:=b) hM hT h0 h1 hL hR (by omega)
   refine⟨g',k,?_⟩
   cases ho:QiL rows st b L R <;> rw[ho]at e <;> simp[Pr,shD]at e <;> simp[QV,Z3,mvD,e,Pr,shD,wds]
  ·unfold QiL at hd
   split at hd
   ·rename_i w k ha
    have ht:=QaI ha hL hR
    cases ho:ovW st b (goW rows 1000 w (ov0 b w) st) with
    |none=>rw[ho]at hd;cases hd
    |some w' =>
     rw[ho]at hd
     have hl:=U7.mpr ht.1
     obtain⟨l1,l2⟩:=QiW hT _ _ _ _ _ _ _ (Qgj ho) h0 h1 (by unfold ov0;split <;> omega) (by unfold ov0;split <;> omega) ht.2.1
     exact QiX (mv:=.over) (t:=.many w' k) ⟨h0,h1⟩ ⟨by intro z;rw[z]at l1;simp at l1;omega,l2,ht.2.2.1,by rw[l1];exact ht.2.2.2.1,ht.2.2.2.2⟩ hL hR (Option.some.inj hd) λc=>QlV ht.1 ha ho
   ·cases hd
 |opn =>
  refine⟨QiJ st b L R,λg M hM=>?_,λd hd=>?_,λh=>by cases h⟩
  ·obtain⟨g',k,e⟩:=QdM (g:=g) (st:=st) (b:=b) hL hR (by omega)
   refine⟨g',k,?_⟩
   cases ho:QiJ st b L R <;> rw[ho]at e <;> simp[Pr,shD]at e <;> simp[QV,Z3,mvD,e,Pr,shD,wds]
  ·unfold QiJ at hd
   split at hd
   ·rename_i w k ha
    have ht:=QaI ha hL hR
    have hwl:=ht.2.2.2.1
    by_cases hk:k<1
    ·rw[Ue hk]at hd;cases hd
    rw[Uh hk]at hd
    have m1:TkK (K+1) m (.many w (k-1)):=⟨ht.1,ht.2.1,by omega,hwl,by have:=ht.2.2.2.2;omega⟩
    have m2:∀t∈w.map Tk.one,TkK (K+1) m t:=λt h=>by
     obtain⟨z,hz,rfl⟩:=Tn.mp h
     exact ht.2.1 z hz
    have ek:∀c,ZE c (.many w k)=w++ZE c (.many w (k-1)):=λc=>by
     have:=QdP c (w:=w) (k:=k-1) (by omega)
     rwa[show k-1+1=k by omega]at this
    have ek':∀c,ZE c (.many w k)=ZE c (.many w (k-1))++w:=λc=>by
     have:=QeH c (w:=w) (k:=k-1) (by omega)
     rwa[show k-1+1=k by omega]at this
    cases b
    ·rcases U2 L with rfl|⟨L0,t,rfl⟩
     ·cases ha
     rw[TZ]at *
     have htt:t=.many w k:=by simpa[ahT]using ha
     subst htt
     cases hd
     refine⟨st,false,L0++(.many w (k-1)::w.map .one),R,by simp[ones,RV],⟨h0,h1⟩,λt h=>?_,λt h=>(hR t h).up,by simp;omega,by omega,λc=>QbO trivial (.of ?_) (.of rfl)⟩
     ·rcases UB.mp h with z|z
      ·exact(hL t (Ta _ z)).up
      rcases Uu.mp z with rfl|z
      ·exact m1
      ·exact m2 t z
     ·rw[QZ,QZ,Qt,Qt,Jk,ek',QeJ,UW]
    ·cases R with
     |nil=>cases ha
     |cons t R0 =>
     have htt:t=.many w k:=by simpa[ahT]using ha
     subst htt
     cases hd
     refine⟨st,true,L,w.map .one++(.many w (k-1)::R0),by simp[ones,RV],⟨h0,h1⟩,λt h=>(hL t h).up,λt h=>?_,by omega,by simp;omega,λc=>QbO trivial (.of rfl) (.of ?_)⟩
     ·rcases UB.mp h with z|z
      ·exact m2 t z
      rcases Uu.mp z with rfl|z
      ·exact m1
      ·exact(hR t (Uv _ z)).up
     ·rw[QZ,Qt,Qt,Jk,ek,UH]
   ·cases hd
 |ends pad s =>
  obtain⟨o,e1,e2,e3⟩:=Qke (T:=if s then R else L) (m:=m) hT.m0 (by cases s;exact hL;exact hR) (by cases s;exact zL;exact zR) pad s
  refine⟨putO st b s (L.map tkD) (R.map tkD) o,λg M hM=>⟨g,.refl,?_⟩,QkV h0 h1 hL hR trivial e2,λh=>?_⟩
  ·have e:=e1 g
   cases s <;> cases pad <;> cases o <;> simp[Pr,eS]at e <;> simp[QV,Z3,Zm,ZL,mvD,Pr,shD,wds,eS,e,putO]
  ·cases h
   have:=e3 rfl
   cases o with
   |none=>exact absurd rfl this
   |some d=>intro h;cases h
 |many wd s a =>
  obtain⟨o,e1,e2⟩:=QiS (T:=if s then R else L) (m:=m) (by cases s;exact hL;exact hR) (by cases s;exact zL;exact zR) wd s a
  refine⟨putO st b s (L.map tkD) (R.map tkD) o,λg M hM=>?_,QkV h0 h1 hL hR trivial e2.e,λh=>by cases h⟩
  obtain⟨g',k,e⟩:=e1 g
  refine⟨g',k,?_⟩
  cases s <;> cases o <;> simp[Pr]at e <;> simp[QV,Z3,Zm,ZL,mvD,Pr,shD,e,putO]
end
noncomputable def inS(m:Nat):Tk->Bool
 |.one s=>decide (s<m)
 |.many w _=>w.all λx=>decide (x<m)
theorem Qgk:∀w:List Int,Qdm (w.map .int)=some w
 |[]=>rfl
 |i::r=>by show(Qdm (r.map .int)).map (i :: ·)=_;rw[Qgk r];rfl
theorem QiY:∀{w:List Int},w≠[]->∃M,maxZ w=some M
 |[],h=>absurd rfl h
 |i::r,_=>by unfold maxZ;cases maxZ r <;> exact⟨_,rfl⟩
section
variable{rows:List (List D)}{n m K:Nat}{g:G}
theorem QiZ{t:Tk}(h:TkOk t):∃M:Int,(∀(x0 x1 x2 x3:Option D)(g:G),mOp1 Qff (Ql YG (Qb (mVar 4) mNil)) [x0,x1,x2,x3,some (tkD t)] g=.ok (.int M) g)/\(inS m t=decide (M<m)):=by
 cases t with
 |one s=>exact⟨s,λx0 x1 x2 x3 g=>by simp[YG,Qbf,tkD,Qff,Qdm,maxZ],rfl⟩
 |many w k =>
  obtain⟨M,hM⟩:=QiY h.1
  obtain⟨q1,q2⟩:=Qdy hM
  refine⟨M,λx0 x1 x2 x3 g=>by simp[YG,Qbf,tkD,Qff,Qgk,hM],?_⟩
  by_cases hm:M<m
  ·rw[Uz hm];exact UE.mpr λx hx=>Uz (by have:=q2 x hx;omega)
  ·rw[Ul hm];exact List.all_eq_false.mpr ⟨M,q1,by simpa using hm⟩
theorem Qkf{t:Tk}(h:TkOk t)(x0 x1 x3:Option D):Q7 [x0,x1,some (.int m),x3,some (tkD t)] g=if inS m t=true then .nx [x0,x1,some (.int m),x3,some (tkD t)] g else .raise (7,none) [x0,x1,some (.int m),x3,some (tkD t)] g:=by
 obtain⟨M,e,q⟩:=QiZ (m:=m) h
 have e':=e x0 x1 (some (.int m)) x3 g
 unfold Q7
 rw[q]
 generalize mOp1 Qff (Ql YG (Qb (mVar 4) mNil))=Q at e'
 by_cases hm:M<m
 ·have:¬((m:Int)<=M):=by omega
  simp[e',hm,this]
 ·have:(m:Int)<=M:=by omega
  simp[e',hm,this]
theorem Qgl{xs:D}{c:Bool}{T:List Tk}(hs:QK g xs=some (c,T.map tkD))(hT:∀t∈T,TkOk t)(x0 x1 x4:Option D):∃y,Q8 [x0,x1,some (.int m),some xs,x4] g=if T.all (inS m)=true then .nx [x0,x1,some (.int m),some xs,y] g else .raise (7,none) [x0,x1,some (.int m),some xs,y] g:=by
 obtain⟨src,s1,s2,s3⟩:=Qce hs
 rw[Uc]at s2
 have e0:Q8 [x0,x1,some (.int m),some xs,x4] g=forL src (gSet 4) Q7 (src.top+1) 0 [x0,x1,some (.int m),some xs,x4] g:=Y4 (by unfold QN;rw[show mVar 3 [x0,x1,some (.int m),some xs,x4] g=.ok xs g from rfl,Res.bind_ok];exact s1)
 have:=Qaj (src:=src) (t:=gSet 4) (body:=Q7) (n:=T.length) (λi σ g'=>g'=g/\(∃y,σ=[x0,x1,some (.int m),some xs,y])/\(T.take i).all (inS m)=true) (λo=>∃y,o=.raise (7,none) [x0,x1,some (.int m),some xs,y] g/\T.all (inS m)=false) (λi σ g' hi hQ=>by
  obtain⟨rfl,⟨y,rfl⟩,q⟩:=hQ
  refine⟨tkD T[i],[x0,x1,some (.int m),some xs,some (tkD T[i])],by rw[s3 _ _ hs];simp[hi],rfl,?_⟩
  rw[Qkf (hT _ (UX hi))]
  by_cases hb:inS m T[i]=true
  ·rw[Ue hb]
   exact .inl ⟨_,_,.inl rfl,rfl,⟨_,rfl⟩,by rw[UR hi,List.all_append,q];simp[hb]⟩
  ·rw[Uh hb]
   exact .inr ⟨trivial,_,rfl,List.all_eq_false.mpr ⟨T[i],UX hi,hb⟩⟩) (λσ g' hQ=>by rw[hQ.1,s3 _ _ hs];simp) (src.top+1) 0 [x0,x1,some (.int m),some xs,x4] g (by omega) (by omega) ⟨rfl,⟨_,rfl⟩,rfl⟩
 rw[e0]
 rcases this with⟨σ',g',h1,rfl,⟨y,rfl⟩,h3⟩|⟨_,y,h1,h2⟩
 ·rw[TU]at h3
  exact⟨y,by rw[h1,Ue h3]⟩
 ·exact⟨y,by rw[h1,h2];rfl⟩
theorem Qnw{M:Nat}{st:Int}{b:Bool}{L R:D}{c c':Bool}{tl tr:List Tk}(hM:g[M]?=some (JL rows))(hT:Tbl rows n m)(h0:0<=st)(hL:QK g L=some (c,tl.map tkD))(hR:QK g R=some (c',tr.map tkD))(ol:∀t∈tl,TkOk t)(or':∀t∈tr,TkOk t)(zl:tl.length<=140)(zr:tr.length<=140):
  ∃g',Keeps [] g g'/\QY [.ref M,.tup [.int st,.str (fc b),L,R]] g=if st<n/\tl.all (inS m)=true/\tr.all (inS m)=true then .ok .non g' else .raise (7,none) g':=by
 obtain⟨g1,e1,k1⟩:=Qka h0 (fc.lr b) hL hR ol or' zl zr
 refine⟨g1,k1,?_⟩
 have hM1:=k1.at' _ _ (by simp) hM
 have hA:∀i σ,σ[i]?=some (some (.ref M))->QcE [11] "table" (mVar i) σ g1=.ok (.tup (rows.map .tup)) g1:=λi σ h=>Qbi h hM1
 have hn:=hT.len
 have hr:∃r rest,rows=r::rest:=by
  cases rows with
  |nil=>have:=hT.n0;simp at hn;omega
  |cons r rest=>exact⟨r,rest,rfl⟩
 obtain⟨r,rest,hr⟩:=hr
 have hrm:r.length=m:=hT.row r (by rw[hr];simp)
 have st1:Jr [.ref M] g1=.ok (.int n) g1:=by simp[Jr,Qb6,hA,hn]
 have sg1:Qae [.ref M] g1=.ok (.int m) g1:=by
  rw[hr]at hA
  simp[Qae,Qc0,hA,hrm]
 obtain⟨y1,l1⟩:=Qgl (m:=m) (QG hL k1) ol (some (.ref M)) (some (.tup [.int st,.str (fc b),L,R])) none
 obtain⟨y2,l2⟩:=Qgl (m:=m) (QG hR k1) or' (some (.ref M)) (some (.tup [.int st,.str (fc b),L,R])) y1
 have hcut:cutD [.int st,.str (fc b),L,R] (some 2) none=[L,R]:=rfl
 have hfor:mFor (QN (QM (mVar 1) (Zp (mLit (.int 2))) QB)) (gSet 3) Q8 [some (.ref M),some (.tup [.int st,.str (fc b),L,R]),some (.int m),none,none] g1=forL ⟨λ_ i=>some [L,R][i]?,2⟩ (gSet 3) Q8 3 0 [some (.ref M),some (.tup [.int st,.str (fc b),L,R]),some (.int m),none,none] g1:=Y4 rfl
 by_cases hs:st<n
 ·have hs':¬((n:Int)<=st):=by omega
  by_cases q1:tl.all (inS m)=true
  ·by_cases q2:tr.all (inS m)=true
   ·rw[Ue q1]at l1
    rw[Ue q2]at l2
    rw[Ue ⟨hs,q1,q2⟩]
    simp[QY,Zv,e1,st1,sg1,hs',hfor,forL,gSet,l1,l2]
   ·rw[Ue q1]at l1
    rw[Uh q2]at l2
    rw[Uh λz=>q2 z.2.2]
    simp[QY,Zv,e1,st1,sg1,hs',hfor,forL,gSet,l1,l2]
  ·rw[Uh q1]at l1
   rw[Uh λz=>q1 z.2.1]
   simp[QY,Zv,e1,st1,sg1,hs',hfor,forL,gSet,l1]
 ·have hs':(n:Int)<=st:=by omega
  rw[Uh λz=>hs z.1]
  simp[QY,Zv,e1,st1,hs']
theorem QkW{T:List Tk}(h:∀t∈T,TkK K m t):T.all (inS m)=true:=UE.mpr λt ht=>by
 have:=h t ht
 cases t with
 |one s=>exact Uz this.2
 |many w k=>exact UE.mpr λx hx=>Uz (this.2.1 x hx).2
theorem Qkg{M:Nat}(hK:K<=12){st:Int}{b:Bool}{L R:D}{c c':Bool}{tl tr:List Tk}(hM:g[M]?=some (JL rows))(hT:Tbl rows n m)(h0:0<=st)(h1:st<n)(hL:QK g L=some (c,tl.map tkD))(hR:QK g R=some (c',tr.map tkD))(ol:∀t∈tl,TkK K m t)(or':∀t∈tr,TkK K m t)(zl:tl.length<=140)(zr:tr.length<=140)(y:D):
  ∃g1,Keeps [] g g1/\Qdz [.ref M,.tup [.int st,.str (fc b),L,R],y] g=QV [.ref M,shD st b (tl.map tkD) (tr.map tkD),y] g1:=by
 obtain⟨g1,k1,e⟩:=Qnw (b:=b) hM hT h0 hL hR (λt ht=>(ol t ht).ok hK) (λt ht=>(or' t ht).ok hK) zl zr
 rw[Ue ⟨h1,QkW ol,QkW or'⟩]at e
 refine⟨g1,k1,?_⟩
 have p1:=Qcf (QG hL k1)
 have p2:=Qcf (QG hR k1)
 have wt:Yz [.tup [.int st,.str (fc b),L,R]] g1=.ok (shD st b (tl.map tkD) (tr.map tkD)) g1:=by simp[Yz,QaT,p1,p2,shD]
 cases hr:QV [.ref M,shD st b (tl.map tkD) (tr.map tkD),y] g1 <;> simp[Qdz,Qim,e,wt,hr]
theorem Qfq{M:Nat}{L R:List Tk}(hK:K<=12)(hM:g[M]?=some (JL rows))(hT:Tbl rows n m){st:Int}{b:Bool}(h0:0<=st)(h1:st<n)(hL:∀t∈L,TkK K m t)(hR:∀t∈R,TkK K m t)(zL:L.length<=140)(zR:R.length<=140){mv:Mv}{o:Option D}(ho:∀g M,g[M]?=some (JL rows)->∃g',Keeps [] g g'/\QV [.ref M,shD st b (L.map tkD) (R.map tkD),mvD mv] g=Pr o g'):
  ∃g',Keeps [] g g'/\Jx [.ref M,shD st b (L.map tkD) (R.map tkD),mvD mv] g=.ok (o.getD .non) g':=by
 obtain⟨g1,k1,e1⟩:=Qkg (b:=b) hK hM hT h0 h1 (c:=false) (c':=false) (L:=.tup (L.map tkD)) (R:=.tup (R.map tkD)) rfl rfl hL hR zL zR (mvD mv)
 obtain⟨g2,k2,e2⟩:=ho g1 M (k1.at' _ _ (by simp) hM)
 rw[e2]at e1
 refine⟨g2,k1.trans k2,?_⟩
 unfold shD
 cases o with
 |some d =>
  simp[Pr]at e1
  simp[Jx,QdE,mTry,e1]
 |none =>
  simp[Pr]at e1
  simp[Jx,QdE,mTry,e1,runH]
end
theorem Qgm(k j:DK)(v:D):∀ks:List (DK×D),dGet (ks.map λp=>if p.1=k then (p.1,v) else p) j=(dGet ks j).map λx=>if j=k then v else x
 |[]=>rfl
 |p::r=>by
  have ih:=Qgm k j v r
  unfold dGet at ih ⊢
  rw[UJ,UO,UO]
  by_cases h:p.1=j
  ·have e:decide ((if p.1=k then (p.1,v) else p).1=j)=true:=by split <;> exact Uz h
   rw[e,Uz h]
   subst h
   by_cases hk:p.1=k <;> simp[hk]
  ·have e:decide ((if p.1=k then (p.1,v) else p).1=j)=false:=by split <;> exact Ul h
   rw[e,Ul h]
   exact ih
theorem QdQ(k:DK):∀ks:List (DK×D),(ks.any λp=>decide (p.1=k))=(dGet ks k).isSome
 |[]=>rfl
 |p::r=>by
  have ih:=QdQ k r
  unfold dGet at ih ⊢
  rw[Tl,UO]
  by_cases h:p.1=k
  ·rw[Uz h];rfl
  ·rw[Ul h];exact ih
theorem Qgn(k j:DK)(v:D):∀ks:List (DK×D),dGet ks k=none->dGet (ks++[(k,v)]) j=if j=k then some v else dGet ks j
 |[],_=>by
  unfold dGet
  by_cases h:j=k
  ·subst h;simp
  ·simp[h,Ne.symm h]
 |p::r,hn=>by
  have hp:¬p.1=k:=λh=>by unfold dGet at hn;rw[UO,Uz h]at hn;cases hn
  have hr:dGet r k=none:=by unfold dGet at hn ⊢;rw[UO,Ul hp]at hn;exact hn
  have ih:=Qgn k j v r hr
  unfold dGet at ih ⊢
  rw[List.cons_append,UO,UO]
  by_cases h:p.1=j
  ·rw[Uz h,Uh (λz=>hp (h.trans z))]
  ·rw[Ul h];exact ih
theorem Qkh(ks:List (DK×D))(k j:DK)(v:D):dGet (dPut ks k v) j=if j=k then some v else dGet ks j:=by
 unfold dPut
 rw[QdQ]
 cases h:dGet ks k with
 |none=>rw[Uh (by simp)];exact Qgn k j v ks h
 |some x =>
  rw[Ue (show(some x).isSome=true from rfl),Qgm]
  by_cases e:j=k
  ·subst e;rw[h];simp
  ·simp[e]
theorem Qgo(ks:List (DK×D))(k:DK)(v:D):(dPut ks k v).length<=ks.length+1:=by
 unfold dPut;split <;> simp
theorem Qgp(k:DK)(v:D):∀ks:List (DK×D),Yq (ks.map λp=>if p.1=k then (p.1,v) else p)=Yq ks
 |[]=>rfl
 |p::r=>by
  have ih:=Qgp k v r
  obtain⟨q,w⟩:=p
  rw[UJ]
  by_cases h:q=k
  ·rw[Ue h]
   cases q with
   |inl i=>show(Yq _).map _=(Yq r).map _;rw[ih]
   |inr s=>rfl
  ·rw[Uh h]
   cases q with
   |inl i=>show(Yq _).map _=(Yq r).map _;rw[ih]
   |inr s=>rfl
theorem Qgq(x:Int)(v:D):∀{ks:List (DK×D)}{is:List Int},Yq ks=some is->Yq (ks++[(.inl x,v)])=some (is++[x])
 |[],_,h=>by cases h;rfl
 | (.inl i,_)::r,is,h=>by
  have h:(Yq r).map (i :: ·)=some is:=h
  obtain⟨js,h1,h2⟩:=TV.mp h
  show(Yq (r++_)).map (i :: ·)=_
  rw[Qgq x v h1,<-h2];rfl
theorem QdR(k:Int):∀{ks:List (DK×D)}{is:List Int},Yq ks=some is->((ks.any λp=>decide (p.1=.inl k))=true↔k∈is)
 |[],_,h=>by cases h;simp
 | (.inl i,v)::r,is,h=>by
  have h:(Yq r).map (i :: ·)=some is:=h
  cases hr:Yq r with
  |none=>rw[hr]at h;cases h
  |some js =>
   rw[hr]at h
   cases h
   have ih:=QdR k hr
   rw[Tl,Bool.or_eq_true,ih,Uu,TJ]
   refine⟨λz=>?_,λz=>?_⟩
   ·rcases z with z|z
    ·exact .inl (Sum.inl.inj z).symm
    ·exact .inr z
   ·rcases z with z|z
    ·exact .inl (by rw[z])
    ·exact .inr z
 | (.inr s,v)::r,is,h=>by cases h
theorem QeL(k j:DK):∀ks:List (DK×D),dGet (Qb3 ks k) j=if j=k then none else dGet ks j
 |[]=>by unfold dGet Qb3;split <;> rfl
 |p::r=>by
  have ih:=QeL k j r
  unfold dGet Qb3 at ih ⊢
  rw[Tw]
  by_cases h:p.1=k
  ·rw[Uh (by simp[h]),ih,UO]
   by_cases e:j=k
   ·rw[Ue e,Ue e]
   ·rw[Uh e,Uh e,Ul (λz=>e (z.symm.trans h))]
  ·rw[Ue (by simp[h]),UO,UO]
   by_cases e:p.1=j
   ·rw[Uz e,Uh (λz=>h (e.trans z))]
   ·rw[Ul e];exact ih
theorem QeM(x:Int):∀{ks:List (DK×D)}{is:List Int},Yq ks=some is->Yq (Qb3 ks (.inl x))=some (is.filter λi=>decide (i≠x))
 |[],_,h=>by cases h;rfl
 | (.inl i,_)::r,is,h=>by
  have h:(Yq r).map (i :: ·)=some is:=h
  obtain⟨js,h1,h2⟩:=TV.mp h
  have ih:=QeM x h1
  subst h2
  unfold Qb3 at ih ⊢
  rw[Tw,Tw]
  by_cases e:i=x
  ·subst e
   rw[Uh (by simp),Uh (by simp)];exact ih
  ·rw[Ue (by simp[e]),Ue (by simp[e])]
   show(Yq _).map (i :: ·)=_
   rw[ih];rfl
section
variable{σ:S3}{g:G}
theorem Qi0{o k x:ME}{n:Nat}{ks:List (DK×D)}{i:Int}{z:D}(ho:o σ g=.ok (.ref n) g)(hd:g[n]?=some (.dct ks))(hk:k σ g=.ok (.int i) g)(hx:x σ g=.ok z g):Qbv o k x σ g=.ok ((dGet ks (.inl i)).getD z) g:=by
 unfold Qbv;simp[ho,hd,hk,hx,Res.bind]
theorem Qi1{o k v:ME}{n:Nat}{ks:List (DK×D)}{i:Int}{y:D}(hv:v σ g=.ok y g)(ho:o σ g=.ok (.ref n) g)(hk:k σ g=.ok (.int i) g)(hd:g[n]?=some (.dct ks))(hz:ks.length<=100000):Qfh o k v σ g=.nx σ (g.set n (.dct (dPut ks (.inl i) y))):=by
 unfold Qfh;simp[hv,ho,hk,hd,JI hz]
theorem QlW{o k:ME}{n:Nat}{ks:List (DK×D)}{i:Int}{v:D}(ho:o σ g=.ok (.ref n) g)(hk:k σ g=.ok (.int i) g)(hd:g[n]?=some (.dct ks))(hv:dGet ks (.inl i)=some v):Qid o k σ g=.ok v (g.set n (.dct (Qb3 ks (.inl i)))):=by
 unfold Qid;simp[ho,hd,hk,Res.bind,hv]
end
theorem QlX{n:Nat}(h:n<=100000):inR (n:Int):=by
 have:(n:Int)<=100000:=Int.ofNat_le.mpr h
 constructor <;> omega
theorem QbP:∀{ks:List (DK×D)}{is:List Int},Yq ks=some is->is.length=ks.length
 |[],_,h=>by cases h;rfl
 | (.inl i,_)::r,is,h=>by
  have h:(Yq r).map (i :: ·)=some is:=h
  obtain⟨js,h1,h2⟩:=TV.mp h
  rw[<-h2,UI,UI,QbP h1]
structure Rg(ks:List (DK×D))(f:Int->Option Int):Prop where
 keys:∃is,Yq ks=some is/\is.Nodup
 get:∀x,dGet ks (.inl x)=(f x).map .int
theorem Rg.put{ks:List (DK×D)}{f:Int->Option Int}(h:Rg ks f)(p v:Int):Rg (dPut ks (.inl p) (.int v)) (λx=>if x=p then some v else f x):=by
 obtain⟨⟨is,h1,h2⟩,h3⟩:=h
 refine⟨?_,λx=>?_⟩
 ·unfold dPut
  by_cases z:(ks.any λq=>decide (q.1=.inl p))=true
  ·rw[Ue z,Qgp];exact⟨is,h1,h2⟩
  ·rw[Uh z,Qgq p _ h1]
   refine⟨_,rfl,?_⟩
   rw[List.nodup_append]
   refine⟨h2,by simp,λa ha b hb e=>z ((QdR p h1).mpr ?_)⟩
   rw[Up]at hb
   rw[<-hb,<-e];exact ha
 ·rw[Qkh]
  by_cases z:x=p
  ·rw[Ue (by rw[z]),Ue z];rfl
  ·rw[Uh (λe=>z (Sum.inl.inj e)),Uh z];exact h3 x
theorem Rg.drop{ks:List (DK×D)}{f:Int->Option Int}(h:Rg ks f)(p:Int):Rg (Qb3 ks (.inl p)) (λx=>if x=p then none else f x):=by
 obtain⟨⟨is,h1,h2⟩,h3⟩:=h
 refine⟨⟨_,QeM p h1,h2.filter _⟩,λx=>?_⟩
 rw[QeL]
 by_cases z:x=p
 ·rw[Ue (by rw[z]),Ue z];rfl
 ·rw[Uh (λe=>z (Sum.inl.inj e)),Uh z];exact h3 x
noncomputable def nz(F:Int->Int)(x:Int):Option Int:=if F x=0 then none else some (F x)
theorem Rg.congr{ks:List (DK×D)}{f f':Int->Option Int}(h:Rg ks f)(e:∀x,f x=f' x):Rg ks f':=⟨h.keys,λx=>by rw[h.get,e]⟩
theorem Qnx{F:Int->Int}{p a x:Int}(h:a≠0):(if x=p then some a else nz F x)=nz (L3.put F p a) x:=by
 unfold nz L3.put
 by_cases z:x=p
 ·rw[Ue z,Ue z,Uh h]
 ·rw[Uh z,Uh z]
theorem QlY{F:Int->Int}{p x:Int}{o:Option Int}:(if x=p then none else if x=p then o else nz F x)=nz (L3.put F p 0) x:=by
 unfold nz L3.put
 by_cases z:x=p
 ·rw[Ue z,Ue z,Ue rfl]
 ·rw[Uh z,Uh z,Uh z]
theorem Rg.getD{ks:List (DK×D)}{F:Int->Int}(h:Rg ks (nz F))(x:Int):(dGet ks (.inl x)).getD (.int 0)=.int (F x):=by
 rw[h.get];unfold nz
 by_cases z:F x=0
 ·rw[Ue z,z];rfl
 ·rw[Uh z];rfl
theorem Rg.mem{ks:List (DK×D)}{F:Int->Int}{is:List Int}(h:Rg ks (nz F))(hk:Yq ks=some is)(x:Int):x∈is↔F x≠0:=by
 rw[<-QdR x hk,QdQ,h.get];unfold nz
 by_cases z:F x=0 <;> simp[z]
theorem Qny{c:Nat}{L R:List Tk}(x:Int):Tp c L R x=if 0<=x+(Qn c L).length then sR (Qn c L++Qn c R) (x+(Qn c L).length).toNat else 0:=by
 unfold Tp tp
 generalize Qn c L=A
 generalize Qn c R=B
 by_cases h:x<0
 ·rw[Ue h]
  by_cases h':0<=x+A.length
  ·rw[Ue h',QiT (by omega),QiV (by omega)];congr 1;omega
  ·rw[Uh h'];unfold sR;rw[U8 (by rw[Th];omega)];rfl
 ·rw[Uh h,Ue (by omega),QiU (by omega)];congr 1;omega
noncomputable def rowT(row:List Int)(n i:Nat)(x:Int):Int:=if 0<=x+n/\x+n<i then sR row (x+n).toNat else 0
theorem Qfr{row:List Int}{n i:Nat}{x:Int}(h:x+n=i):rowT row n i x=0/\rowT row n (i+1) x=sR row i:=by
 unfold rowT
 exact⟨Uh (by omega),by rw[Ue (by omega),h,TH]⟩
theorem Qi2{row:List Int}{n i:Nat}{x:Int}(h:x+n≠i):rowT row n (i+1) x=rowT row n i x:=by
 unfold rowT
 by_cases w:0<=x+(n:Int)/\x+n<i
 ·rw[Ue w,Ue (by omega)]
 ·rw[Uh w,Uh (by omega)]
theorem Qi3{rw' ah d:Nat}{row:List Int}{n:Nat}{x0 x1 x2 x3 x4 x5:Option D}{g:G}{A:List D}(hr:g[rw']?=some (.lst (row.map .int)))(ha:g[ah]?=some (.lst A))(hn:A.length=n)(hd:g[d]?=some (.dct []))(h1:rw'≠d)(h2:ah≠d)(hz:row.length<=100000):
  ∃y9 ks g',forL (Q1 0 row.length) (gSet 9) YL (row.length+1) 0 [x0,x1,x2,x3,x4,x5,some (.ref ah),some (.ref rw'),some (.ref d),none] g=.nx [x0,x1,x2,x3,x4,x5,some (.ref ah),some (.ref rw'),some (.ref d),y9] g'/\Keeps [d] g g'/\g'[d]?=some (.dct ks)/\Rg ks (nz (rowT row n row.length))/\ks.length<=row.length:=by
 obtain⟨σ',g',e,y9,ks,i1,i2,i3,i4,i5⟩:=Yt (t:=gSet 9) (body:=YL) (lo:=0) (n:=row.length) (σ:=[x0,x1,x2,x3,x4,x5,some (.ref ah),some (.ref rw'),some (.ref d),none]) (g:=g)
  (λi σ g1=>∃y9 ks,σ=[x0,x1,x2,x3,x4,x5,some (.ref ah),some (.ref rw'),some (.ref d),y9]/\Keeps [d] g g1/\g1[d]?=some (.dct ks)/\Rg ks (nz (rowT row n i))/\ks.length<=i) ⟨none,[],rfl,.refl,hd,⟨⟨[],rfl,.nil⟩,λx=>by
   unfold nz
   rw[show rowT row n 0 x=0 from Uh (by omega),Ue rfl];rfl⟩,Ui _⟩ (λi σ g1 hi hQ=>by
   obtain⟨y9,ks,i1,i2,i3,i4,i5⟩:=hQ
   subst i1
   have hr1:=i2.at' _ _ (λz=>h1 (Up.mp z)) hr
   have ha1:=i2.at' _ _ (λz=>h2 (Up.mp z)) ha
   have hri:sR row i=row[i]:=by unfold sR;rw[Uq hi];rfl
   have hix:pIx (.ref rw') (.int i) g1=.ok (.int row[i]) g1:=Y5 hr1 (by rw[Uy,Uq hi];rfl)
   have hl:=Qis ha1
   by_cases hs:row[i]=0
   ·refine⟨[x0,x1,x2,x3,x4,x5,some (.ref ah),some (.ref rw'),some (.ref d),some (.int i)],[x0,x1,x2,x3,x4,x5,some (.ref ah),some (.ref rw'),some (.ref d),some (.int i)],g1,by rw[RE];rfl,by simp[YL,hix,hs],_,ks,rfl,i2,i3,i4.congr λx=>?_,by omega⟩
    unfold nz
    by_cases z:x+(n:Int)=i
    ·rw[(Qfr z).1,(Qfr z).2,hri,hs]
    ·rw[Qi2 z]
   ·refine⟨[x0,x1,x2,x3,x4,x5,some (.ref ah),some (.ref rw'),some (.ref d),some (.int i)],[x0,x1,x2,x3,x4,x5,some (.ref ah),some (.ref rw'),some (.ref d),some (.int i)],g1.set d (.dct (dPut ks (.inl ((i:Int) - n)) (.int row[i]))),by rw[RE];rfl,?_,_,_,rfl,i2.trans (.set _ _),Q9 i3,(i4.put ((i:Int) - n) row[i]).congr λx=>?_,Ur (Qgo _ _ _) (by omega)⟩
    ·have:=Qi1 (o:=mVar 8) (k:=mOp2 pSub (mVar 9) (mOp1 pLen (mVar 6))) (v:=mOp2 pIx (mVar 7) (mVar 9)) (σ:=[x0,x1,x2,x3,x4,x5,some (.ref ah),some (.ref rw'),some (.ref d),some (.int i)]) (g:=g1) (n:=d) (ks:=ks) (i:=(i:Int) - n) (y:=.int row[i]) (by simp[hix]) (by simp) (by simp[hl,hn]) i3 (by omega)
     simp[YL,hix,hs,this]
    ·unfold nz
     by_cases z:x=(i:Int) - n
     ·rw[Ue z,(Qfr (show x+(n:Int)=i by omega)).2,hri,Uh hs]
     ·rw[Uh z,Qi2 (by omega)])
 subst i1
 exact⟨y9,ks,g',e,i2,i3,i4,i5⟩
theorem Qi4{st:Int}{b:Bool}{L R:List Tk}{c K m:Nat}{g:G}(hK:K<=12)(hc:c<=3)(hL:∀t∈L,TkK K m t)(hR:∀t∈R,TkK K m t)(zL:L.length<=140)(zR:R.length<=140):
  ∃d ks g',QaX [shD st b (L.map tkD) (R.map tkD),.int c] g=.ok (.tup [.int st,.int (plc b),.ref d]) g'/\Keeps [] g g'/\g.length<=d/\g'[d]?=some (.dct ks)/\Rg ks (nz (Tp c L R))/\ks.length<=84000:=by
 have oL:=λt ht=>(hL t ht).ok hK
 have oR:=λt ht=>(hR t ht).ok hK
 have lL:=Qak hc oL
 have lR:=Qak hc oR
 obtain⟨r1,g1,e1,q1,p1,k1⟩:=QeE (x:=.tup (L.map tkD)) (b:=false) (g:=g) rfl oL hc zL
 obtain⟨r2,g2,e2,q2,p2,k2⟩:=QeE (x:=.tup (R.map tkD)) (b:=false) (g:=g1) rfl oR hc zR
 have e3:=Qge (k2.at' _ _ (by simp) p1) p2 (by simp;omega)
 rw[<-US]at e3
 have k3:Keeps [] g2 (g2++[.lst ((Qn c L++Qn c R).map .int)]):=.push _
 have p3:(g2++[GO.lst ((Qn c L++Qn c R).map .int)])[g2.length]?=_:=Qw _
 have z3:g2.length<(g2++[GO.lst ((Qn c L++Qn c R).map .int)]).length:=by simp
 have z1:=Zw p1
 have z2:=k2.len
 have z0:=k1.len
 generalize g2.length=r3 at e3 p3 z3 z2
 generalize g2++[GO.lst ((Qn c L++Qn c R).map .int)]=g3 at e3 p3 k3 z3
 have k4:Keeps [] g3 (g3++[.dct []]):=.push _
 have p4:(g3++[GO.dct []])[g3.length]?=some (.dct []):=Qw _
 have en:Qly [some (shD st b (L.map tkD) (R.map tkD)),some (.int c),some (.int st),some (.str (fc b)),some (.tup (L.map tkD)),some (.tup (R.map tkD)),some (.ref r1),some (.ref r3),none,none] g3=.ok (.ref g3.length) (g3++[.dct []]):=rfl
 generalize g3.length=d at p4 en z3
 generalize g3++[GO.dct []]=g4 at p4 en k4
 have p14:=(k2.trans (k3.trans k4)).at' _ _ (by simp) p1
 have p34:=k4.at' _ _ (by simp) p3
 obtain⟨y9,ks,g5,e5,k5,p5,h5,z5⟩:=Qi3 (x0:=some (shD st b (L.map tkD) (R.map tkD))) (x1:=some (.int c)) (x2:=some (.int st)) (x3:=some (.str (fc b))) (x4:=some (.tup (L.map tkD))) (x5:=some (.tup (R.map tkD))) p34 p14 (by rw[Uc]) p4 (by omega) (by omega) (by simp;omega)
 have k04:=k1.trans (k2.trans (k3.trans k4))
 have kk:Keeps [] g g5:=⟨Ur k04.len k5.len,λi o _ h=>k5.at' _ _ (by have:=Zw h;simp;omega) (k04.at' _ _ (by simp) h)⟩
 refine⟨d,ks,g5,ZD rfl ?_,kk,by omega,p5,h5.congr λx=>?_,by simp at z5;omega⟩
 ·unfold Qf8
  refine Qk [some (shD st b (L.map tkD) (R.map tkD)),some (.int c),some (.int st),some (.str (fc b)),some (.tup (L.map tkD)),some (.tup (R.map tkD)),none,none,none,none] g (by simp[shD]) ?_
  refine Qk [some (shD st b (L.map tkD) (R.map tkD)),some (.int c),some (.int st),some (.str (fc b)),some (.tup (L.map tkD)),some (.tup (R.map tkD)),some (.ref r1),none,none,none] g1 (by simp[e1]) ?_
  refine Qk [some (shD st b (L.map tkD) (R.map tkD)),some (.int c),some (.int st),some (.str (fc b)),some (.tup (L.map tkD)),some (.tup (R.map tkD)),some (.ref r1),some (.ref r3),none,none] g3 (by simp[e2,e3]) ?_
  refine Qk [some (shD st b (L.map tkD) (R.map tkD)),some (.int c),some (.int st),some (.str (fc b)),some (.tup (L.map tkD)),some (.tup (R.map tkD)),some (.ref r1),some (.ref r3),some (.ref d),none] g4 (by simp[en]) ?_
  refine Qk _ g5 ((Y4 (ZQ (n:=(Qn c L++Qn c R).length) ?_ (QlX (by simp;omega)))).trans e5) ?_
  ·have:=Qis p34
   rw[Uc]at this
   simp only[Qnm,Qnl]
   exact this
  ·cases b <;> simp[plc]
 ·have:rowT (Qn c L++Qn c R) (Qn c L).length (Qn c L++Qn c R).length x=Tp c L R x:=by
   rw[Qny x];unfold rowT
   by_cases h:0<=x+((Qn c L).length:Int)
   ·rw[Ue h]
    by_cases h':x+((Qn c L).length:Int)<(Qn c L++Qn c R).length
    ·rw[Ue ⟨h,h'⟩]
    ·rw[Uh (λz=>h' z.2)]
     unfold sR;rw[U8 (by omega)];rfl
   ·rw[Uh h,Uh (λz=>h z.1)]
  unfold nz;rw[this]
theorem setG{g g':G}{l p:Nat}{c:List D}{y:D}{σ:S3}{o i v:ME}(hl:g'[l]?=some (.lst c))(h1:p<c.length)(hv:v σ g=.ok y g')(ho:o σ g'=.ok (.ref l) g')(hi:i σ g'=.ok (.int p) g'):YJ o i v σ g=.nx σ (g'.set l (.lst (c.set p y))):=by
 unfold YJ
 rw[hv];dsimp only
 rw[ho];dsimp only
 rw[hi];dsimp only
 rw[hl];dsimp only
 unfold ixD
 rw[Ue (by omega),Ue (by omega)]
 rfl
section
variable{rows:List (List D)}{n m N t r d:Nat}{st p:Int}{F:Int->Int}{ks:List (DK×D)}{g:G}{v:Cg}
theorem QoH(ht:tabOf N g t rows)(hT:Tbl rows n m)(h0:0<=st)(h1:st<n)(hF:∀x,0<=F x/\F x<m)(hr:g[r]?=some (.lst [.int st,.int p,.ref d]))(hd:g[d]?=some (.dct ks))(hR:Rg ks (nz F))(hz:ks.length<=100000)(hS:Stp rows (st,p,F) v):
  ∃ks' g',Qcc [.ref t,.ref r] g=.ok (.bl true) g'/\Keeps [r,d] g g'/\g'[r]?=some (.lst [.int v.1,.int v.2.1,.ref d])/\g'[d]?=some (.dct ks')/\Rg ks' (nz v.2.2)/\ks'.length<=ks.length+1/\(0<=v.1/\v.1<n)/\∀x,0<=v.2.2 x/\v.2.2 x<m:=by
 obtain⟨a,w,he,hp,hf⟩:=hS
 obtain⟨s,p',F'⟩:=v
 dsimp only at he hp hf
 subst hp hf
 obtain⟨ra,rs⟩:=hT.rng h0 h1 (hF p).1 (hF p).2 he
 obtain⟨q,l1,l2⟩:=hT.law ht h0 h1 (hF p).1 (hF p).2
 rw[he]at l2
 have hrd:r≠d:=λz=>by rw[z,hd]at hr;cases hr
 have a0:pIx (.ref r) (.int 0) g=.ok (.int st) g:=Y5 (p:=0) hr rfl
 have a1:pIx (.ref r) (.int 1) g=.ok (.int p) g:=Y5 (p:=1) hr rfl
 have a2:pIx (.ref r) (.int 2) g=.ok (.ref d) g:=Y5 (p:=2) hr rfl
 have dg:Qbv (mOp2 pIx (mVar 1) (mLit (.int 2))) (mOp2 pIx (mVar 1) (mLit (.int 1))) (mLit (.int 0)) [some (.ref t),some (.ref r),none] g=.ok (.int (F p)) g:=by
  rw[<-hR.getD p]
  exact Qi0 (by simp[a2]) hd (by simp[a1]) rfl
 -- the cell
 have k1:Keeps [r,d] g (g.set d (.dct (dPut ks (.inl p) (.int a)))):=(Keeps.set d _).mono (by simp)
 have d1:(g.set d (.dct (dPut ks (.inl p) (.int a))))[d]?=some (.dct (dPut ks (.inl p) (.int a))):=Q9 hd
 have r1:(g.set d (.dct (dPut ks (.inl p) (.int a))))[r]?=some (.lst [.int st,.int p,.ref d]):=by rw[Uo (Ne.symm hrd)];exact hr
 have e1:Qfh (mOp2 pIx (mVar 1) (mLit (.int 2))) (mOp2 pIx (mVar 1) (mLit (.int 1))) (mOp2 pIx (mVar 2) (mLit (.int 0))) [some (.ref t),some (.ref r),some (.tup [.int a,.str (fc w),.int s])] g=.nx [some (.ref t),some (.ref r),some (.tup [.int a,.str (fc w),.int s])] (g.set d (.dct (dPut ks (.inl p) (.int a)))):=Qi1 (by simp) (by simp[a2]) (by simp[a1]) hd hz
 have hR1:=hR.put p a
 have z1:=Qgo ks (.inl p) (.int a)
 generalize dPut ks (.inl p) (.int a)=ks1 at *
 generalize g.set d (.dct ks1)=g1 at *
 have hpop:∃ks2 g2,mIf (Qj (mOp2 pEq (mOp2 pIx (mVar 2) (mLit (.int 0))) (mLit (.int 0)))) (Z7 (Qid (mOp2 pIx (mVar 1) (mLit (.int 2))) (mOp2 pIx (mVar 1) (mLit (.int 1))))) QA [some (.ref t),some (.ref r),some (.tup [.int a,.str (fc w),.int s])] g1=.nx [some (.ref t),some (.ref r),some (.tup [.int a,.str (fc w),.int s])] g2/\Keeps [r,d] g1 g2/\g2[d]?=some (.dct ks2)/\g2[r]?=some (.lst [.int st,.int p,.ref d])/\Rg ks2 (nz (put F p a))/\ks2.length<=ks.length+1:=by
  by_cases ha:a=0
  ·have b1:pIx (.ref r) (.int 1) g1=.ok (.int p) g1:=Y5 (p:=1) r1 rfl
   have b2:pIx (.ref r) (.int 2) g1=.ok (.ref d) g1:=Y5 (p:=2) r1 rfl
   have hg:=hR1.get p
   rw[Ue rfl]at hg
   have:=QlW (o:=mOp2 pIx (mVar 1) (mLit (.int 2))) (k:=mOp2 pIx (mVar 1) (mLit (.int 1))) (σ:=[some (.ref t),some (.ref r),some (.tup [.int a,.str (fc w),.int s])]) (by simp[b2]) (by simp[b1]) d1 hg
   refine⟨_,g1.set d (.dct (Qb3 ks1 (.inl p))),by simp[ha]at this ⊢;simp[this],(Keeps.set d _).mono (by simp),Q9 d1,by rw[Uo (Ne.symm hrd)];exact r1,(hR1.drop p).congr λx=>by rw[ha];exact QlY,Ur (Wx _ _) z1⟩
  ·exact⟨ks1,g1,by simp[ha],.refl,d1,r1,hR1.congr λx=>Qnx ha,z1⟩
 obtain⟨ks2,g2,e2,k2,d2,r2,hR2,z2⟩:=hpop
 have k3:Keeps [r,d] g2 (g2.set r (.lst [.int s,.int p,.ref d])):=(Keeps.set r _).mono (by simp)
 have e3:YJ (mVar 1) (mLit (.int 0)) (mOp2 pIx (mVar 2) (mLit (.int 2))) [some (.ref t),some (.ref r),some (.tup [.int a,.str (fc w),.int s])] g2=.nx [some (.ref t),some (.ref r),some (.tup [.int a,.str (fc w),.int s])] (g2.set r (.lst [.int s,.int p,.ref d])):=setG (p:=0) (y:=.int s) r2 (by simp) (by simp) (by simp) (by simp)
 have r3:(g2.set r (.lst [.int s,.int p,.ref d]))[r]?=some (.lst [.int s,.int p,.ref d]):=Q9 r2
 have d3:(g2.set r (.lst [.int s,.int p,.ref d]))[d]?=some (.dct ks2):=by rw[Uo hrd];exact d2
 generalize g2.set r (.lst [.int s,.int p,.ref d])=g3 at *
 have k4:Keeps [] g3 (g3++[.lst [.int (-1),.int 1]]):=.push _
 have c1:pIx (.ref r) (.int 1) g3=.ok (.int p) g3:=Y5 (p:=1) r3 rfl
 have r4:=k4.at' _ _ (by simp) r3
 have d4:=k4.at' _ _ (by simp) d3
 have e4:YJ (mVar 1) (mLit (.int 1)) (mOp2 pAdd (mOp2 pIx (mVar 1) (mLit (.int 1))) (mOp2 pIx (mOpA newL (Qb (mOp1 pNeg (mLit (.int 1))) (Qb (mLit (.int 1)) mNil))) (mOp1 pInt (mOp2 pEq (mOp2 pIx (mVar 2) (mLit (.int 1))) (mLit (.str "r")))))) [some (.ref t),some (.ref r),some (.tup [.int a,.str (fc w),.int s])] g3=.nx [some (.ref t),some (.ref r),some (.tup [.int a,.str (fc w),.int s])] ((g3++[GO.lst [.int (-1),.int 1]]).set r (.lst [.int s,.int (pn p w),.ref d])):=setG (g':=g3++[.lst [.int (-1),.int 1]]) (p:=1) (y:=.int (pn p w)) r4 (by simp) (by cases w <;> simp[c1,pn] <;> rfl) (by simp) (by simp)
 have k5:Keeps [r,d] (g3++[GO.lst [.int (-1),.int 1]]) ((g3++[GO.lst [.int (-1),.int 1]]).set r (.lst [.int s,.int (pn p w),.ref d])):=(Keeps.set r _).mono (by simp)
 refine⟨ks2,_,ZD rfl ?_,k1.trans (k2.trans (k3.trans (k4.all.trans k5))),Q9 r4,by rw[Uo hrd];exact d4,hR2,z2,rs,λx=>?_⟩
 ·unfold QkM
  refine Qk [some (.ref t),some (.ref r),some (.tup [.int a,.str (fc w),.int s])] g (by simp[a0,l1,dg,l2,enc]) ?_
  refine Qk _ g (iff' g (by simp[isNon]) rfl) ?_
  refine Qk _ g1 e1 (Qk _ g2 e2 (Qk _ g3 e3 (Qk _ _ e4 rfl)))
 ·show 0<=put F p a x/\put F p a x<m
  unfold put
  split
  ·exact ra
  ·exact hF x
end
theorem QdS:∀{l l':List Int},l.Nodup->(∀x∈l,x∈l')->l.length<=l'.length
 |[],_,_,_=>RY _
 |a::t,l',hn,h=>by
  rw[T9]at hn
  have ha:=h a (UG ..)
  have ih:=QdS (l:=t) (l':=l'.erase a) hn.2 λx hx=>by
   have:x≠a:=λz=>hn.1 (by rw[<-z];exact hx)
   exact(List.mem_erase_of_ne this).mpr (h x (Uv _ hx))
  rw[List.length_erase_of_mem ha]at ih
  have:=Wm ha
  rw[UI];omega
theorem Rg.len{ks ks':List (DK×D)}{F F':Int->Int}{y:Int}(h:Rg ks (nz F))(h':Rg ks' (nz F'))(e:∀x,F (x+y)=F' x):ks.length=ks'.length:=by
 obtain⟨is,h1,h2⟩:=h.keys
 obtain⟨is',h1',h2'⟩:=h'.keys
 rw[<-QbP h1,<-QbP h1']
 have inj:∀(l:List Int)(z:Int),l.Nodup->(l.map (· + z)).Nodup:=λl z hl=>by
  unfold List.Nodup at hl ⊢
  rw[List.pairwise_map]
  exact hl.imp λhne q=>hne (by omega)
 apply Nat.le_antisymm
 ·have:=QdS (inj is (-y) h2) (l':=is') λx hx=>by
   obtain⟨u,hu,rfl⟩:=Tn.mp hx
   have:=(h.mem h1 u).mp hu
   rw[h'.mem h1',<-e,show u + -y+y=u by omega];exact this
  rwa[Uc]at this
 ·have:=QdS (inj is' y h2') (l':=is) λx hx=>by
   obtain⟨u,hu,rfl⟩:=Tn.mp hx
   have:=(h'.mem h1' u).mp hu
   rw[h.mem h1,e];exact this
  rwa[Uc]at this
theorem Qi5{r d:Nat}{st st' p:Int}{b':Bool}{F:Int->Int}{ks:List (DK×D)}{L' R':List Tk}{c K m:Nat}{g:G}(hK:K<=12)(hc:c<=3)(hL:∀t∈L',TkK K m t)(hR:∀t∈R',TkK K m t)(zL:L'.length<=140)(zR:R'.length<=140)(hr:g[r]?=some (.lst [.int st,.int p,.ref d]))(hd:g[d]?=some (.dct ks))(hF:Rg ks (nz F))(hs:st=st')(h:∀x,F (x+(p-plc b'))=Tp c L' R' x):
  ∃g',Qah [.ref r,shD st' b' (L'.map tkD) (R'.map tkD),.int c] g=.ok (.bl true) g'/\Keeps [] g g':=by
 obtain⟨d2,ks2,g1,e1,k1,q1,p1,h1,z1⟩:=Qi4 (st:=st') (b:=b') (g:=g) hK hc hL hR zL zR
 have hr1:=k1.at' _ _ (by simp) hr
 have hd1:=k1.at' _ _ (by simp) hd
 have hrl:=Zw hr
 have hdl:=Zw hd
 obtain⟨is,w1,w2⟩:=h1.keys
 have hl:=hF.len h1 h
 have l1:Qey (.ref d) g1=.ok (.int ks.length) g1:=by unfold Qey;dsimp only;rw[hd1]
 have l2:Qey (.ref d2) g1=.ok (.int ks2.length) g1:=by unfold Qey;dsimp only;rw[p1]
 rw[hl]at l1
 have a0:pIx (.ref r) (.int 0) g1=.ok (.int st) g1:=Y5 (p:=0) hr1 rfl
 have a1:pIx (.ref r) (.int 1) g1=.ok (.int p) g1:=Y5 (p:=1) hr1 rfl
 have a2:pIx (.ref r) (.int 2) g1=.ok (.ref d) g1:=Y5 (p:=2) hr1 rfl
 have k2:Keeps [] g (g1.set d2 (.dfz ks2)):=k1.new q1
 have p2:(g1.set d2 (.dfz ks2))[d2]?=some (.dfz ks2):=Q9 p1
 have it:∀σ,mVar 5 σ g1=.ok (.ref d2) g1->Qb5 (mVar 5) σ g1=.ok ⟨λ_ i=>some (is.map D.int)[i]?,is.length⟩ (g1.set d2 (.dfz ks2)):=λσ hv=>by
  unfold Qb5;rw[hv,Res.bind_ok];dsimp only;rw[p1];dsimp only;rw[w1]
 generalize g1.set d2 (.dfz ks2)=g2 at k2 p2 it
 obtain⟨g3,c1,k3⟩:=QdH (src:=⟨λ_ i=>some (is.map D.int)[i]?,is.length⟩) (ds:=is.map D.int) (e:=mOp2 pEq (Qbv (mOp2 pIx (mVar 3) (mLit (.int 2))) (mOp2 pAdd (mVar 0) (mVar 2)) (mLit (.int 0))) (mOp2 Qfj (mVar 1) (mVar 0))) (no:=0) (σ:=[some (.ref d2),some (.int (p-plc b')),some (.ref r)]) (g:=g2) (f:=λ_=>.bl true) (by simp) (λ_ _ _=>rfl) (λy hy g4 k4=>by
  obtain⟨x,hx,rfl⟩:=Tn.mp hy
  refine⟨g4,?_,.refl⟩
  have kk:=k2.trans k4
  have b2:pIx (.ref r) (.int 2) g4=.ok (.ref d) g4:=Y5 (p:=2) (kk.at' _ _ (by simp) hr) rfl
  have dg:Qbv (mOp2 pIx (mVar 3) (mLit (.int 2))) (mOp2 pAdd (mVar 0) (mVar 2)) (mLit (.int 0)) [some (.int x),some (.ref d2),some (.int (p-plc b')),some (.ref r)] g4=.ok (.int (F (x+(p-plc b')))) g4:=by
   rw[<-hF.getD]
   exact Qi0 (by simp[b2]) (kk.at' _ _ (by simp) hd) (by simp) rfl
  have hx0:Tp c L' R' x≠0:=(h1.mem w1 x).mp hx
  have dx:Qfj (.ref d2) (.int x) g4=.ok (.int (Tp c L' R' x)) g4:=by
   unfold Qfj;dsimp only;rw[k4.at' _ _ (by simp) p2];dsimp only;rw[h1.get];unfold nz;rw[Uh hx0];rfl
  rw[h]at dg
  show mOp2 pEq _ _ [some (.int x),some (.ref d2),some (.int (p-plc b')),some (.ref r)] g4=_
  simp[dg,dx])
 refine⟨_,ZD rfl ?_,k2.trans (k3.trans (.push (.lst ((is.map D.int).map λ_=>.bl true))))⟩
 unfold Qc1
 refine Qk [some (.ref r),some (shD st' b' (L'.map tkD) (R'.map tkD)),some (.int c),some (.int st'),some (.int (plc b')),some (.ref d2),none] g1 (by simp[e1]) ?_
 refine Qk [some (.ref r),some (shD st' b' (L'.map tkD) (R'.map tkD)),some (.int c),some (.int st'),some (.int (plc b')),some (.ref d2),some (.int (p-plc b'))] g1 (by simp[a1]) ?_
 refine Qk _ g1 (iff' g1 (by simp[a0,a2,l1,l2,hs]) rfl) ?_
 refine JH (Yx (JW (n:=1) (cap:=[5,6,0]) (σ0:=none::[some (.ref d2),some (.int (p-plc b')),some (.ref r)]) (it _ rfl) (by show is.length<=SZ;rw[QbP w1];exact UY (JI (by omega))) rfl c1) ?_)
 unfold pAll
 dsimp only
 rw[Qw]
 have:allB ((is.map D.int).map λ_=>.bl true)=some true:=by
  rw[show((is.map D.int).map λ_=>D.bl true)=(is.map λ_=>true).map D.bl by simp,Qiw]
  congr 1
  rw[UE];intro x hx
  obtain⟨_,_,rfl⟩:=Tn.mp hx
  rfl
 simp only[this]
section
variable{rows:List (List D)}{n m K N t:Nat}{gB:G}
theorem Qcl{c:Nat}(hm:0<m):∀{L:List Tk},(∀t∈L,TkK K m t)->∀x∈Qn c L,0<=x/\x<(m:Int)
 |[],_,x,hx=>by cases hx
 |t::L,h,x,hx=>by
  rw[Qt]at hx
  rcases UB.mp hx with z|z
  ·have ht:=h t (UG ..)
   cases t with
   |one s=>rw[Up.mp z];exact ht
   |many w k =>
    obtain⟨l,hl,hx'⟩:=List.mem_flatten.mp (show x∈(List.replicate (c+k.toNat) w).flatten from z)
    rw[(List.mem_replicate.mp hl).2]at hx'
    exact ht.2.1 x hx'
  ·exact Qcl hm (λt ht=>h t (Uv _ ht)) x z
theorem QkX{A:List Int}(hm:0<m)(h:∀x∈A,0<=x/\x<(m:Int))(i:Nat):0<=sR A i/\sR A i<(m:Int):=by
 unfold sR
 cases hi:A[i]? with
 |none=>exact⟨Rv _,by show(0:Int)<m;omega⟩
 |some x=>exact h x (U4 hi)
theorem Qnz{c:Nat}{L R:List Tk}(hm:0<m)(hL:∀t∈L,TkK K m t)(hR:∀t∈R,TkK K m t)(x:Int):0<=Tp c L R x/\Tp c L R x<(m:Int):=by
 unfold Tp tp
 split
 ·exact QkX hm (λx hx=>Qcl hm hL x (List.mem_reverse.mp hx)) _
 ·exact QkX hm (Qcl hm hR) _
structure Run(gB g:G)(r d:Nat)(n m B:Nat)(u:Cg):Prop where
 k:Keeps [] gB g
 r0:gB.length<=r
 d0:gB.length<=d
 st:0<=u.1/\u.1<n
 rng:∀x,0<=u.2.2 x/\u.2.2 x<m
 r:g[r]?=some (.lst [.int u.1,.int u.2.1,.ref d])
 d:∃ks,g[d]?=some (.dct ks)/\Rg ks (nz u.2.2)/\ks.length<=B
theorem Run.go{g:G}{r d B:Nat}{u v:Cg}(h:Run gB g r d n m B u)(ht:tabOf N gB t rows)(hT:Tbl rows n m)(hB:B<=100000)(hS:Stp rows u v):∃g',Qcc [.ref t,.ref r] g=.ok (.bl true) g'/\Run gB g' r d n m (B+1) v:=by
 obtain⟨ks,d1,d2,d3⟩:=h.d
 obtain⟨ks',g',e,k,r1,d1',d2',d3',s1,f1⟩:=QoH (ht.mono h.k (by simp)) hT h.st.1 h.st.2 h.rng h.r d1 d2 (by omega) hS
 refine⟨g',e,⟨⟨Ur h.k.len k.len,λi o _ q=>k.at' _ _ ?_ (h.k.at' _ _ (by simp) q)⟩,h.r0,h.d0,s1,f1,r1,ks',d1',d2',by omega⟩⟩
 have:=Zw q;have:=h.r0;have:=h.d0
 simp;omega
theorem Qi6{lo hi:Int}{r d M:Nat}{x2 x4 x5 x6 x7:Option D}{w:List D}{c k:Int}(ht:tabOf N gB t rows)(hT:Tbl rows n m)(hM:1000*(c+k)=M)(hck:0<=c+k/\c+k<=100){T:Nat}{u v:Cg}(h:Rin rows lo hi T u v)(hv:¬(lo<=v.2.1/\v.2.1<hi)):∀(s B:Nat)(g:G),s+T<=M->B+T<=100000->Run gB g r d n m B u ->
  ∃f y g',ZJ (JK (Qj (mOp2 pLe (mVar 10) (mOp2 pIx (mVar 1) (mLit (.int 1))))) (Qj (mOp2 pLt (mOp2 pIx (mVar 1) (mLit (.int 1))) (mOp2 pAdd (mVar 10) (mVar 9))))) YA f [some (.ref t),some (.ref r),x2,some (.int c),x4,x5,x6,x7,some (.tup [.str "many",.tup w,.int k]),some (.int (hi-lo)),some (.int lo),some (.int s)] g=.nx [some (.ref t),some (.ref r),x2,some (.int c),x4,x5,x6,x7,some (.tup [.str "many",.tup w,.int k]),some (.int (hi-lo)),some (.int lo),y] g'/\Run gB g' r d n m (B+T) v:=by
 have hlo:lo+(hi-lo)=hi:=by omega
 induction h with
 |nil u =>
  intro s B g h1 h2 hu
  refine⟨1,some (.int s),g,?_,hu⟩
  have a1:pIx (.ref r) (.int 1) g=.ok (.int u.2.1) g:=Y5 (p:=1) hu.r rfl
  unfold ZJ
  by_cases h3:lo<=u.2.1
  ·have h4:¬(u.2.1<hi):=λz=>hv ⟨h3,z⟩
   simp[a1,h3,hlo,h4]
  ·simp[a1,h3]
 |cons h1 h2 h3 ih =>
  rename_i T u u' v
  intro s B g q1 q2 hu
  obtain⟨g1,e1,hu1⟩:=hu.go ht hT (by omega) h2
  obtain⟨f,y,g',e2,hr⟩:=ih hv (s+1) (B+1) g1 (by omega) (by omega) hu1
  refine⟨f+1,y,g',?_,by rw[show B+(T+1)=B+1+T by omega];exact hr⟩
  have a1:pIx (.ref r) (.int 1) g=.ok (.int u.2.1) g:=Y5 (p:=1) hu.r rfl
  have hm:pMul (.int 1000) (.int (c+k)) g=.ok (.int M) g:=by rw[<-hM];exact mulL (QbL (by omega) (by omega))
  have hs:¬((M:Int)<(s:Int)+1):=by omega
  unfold ZJ
  rw[show JK (Qj (mOp2 pLe (mVar 10) (mOp2 pIx (mVar 1) (mLit (.int 1))))) (Qj (mOp2 pLt (mOp2 pIx (mVar 1) (mLit (.int 1))) (mOp2 pAdd (mVar 10) (mVar 9)))) [some (.ref t),some (.ref r),x2,some (.int c),x4,x5,x6,x7,some (.tup [.str "many",.tup w,.int k]),some (.int (hi-lo)),some (.int lo),some (.int s)] g=.ok true g by simp[a1,h1.1,hlo,h1.2]]
  dsimp only
  rw[show YA [some (.ref t),some (.ref r),x2,some (.int c),x4,x5,x6,x7,some (.tup [.str "many",.tup w,.int k]),some (.int (hi-lo)),some (.int lo),some (.int s)] g=.nx [some (.ref t),some (.ref r),x2,some (.int c),x4,x5,x6,x7,some (.tup [.str "many",.tup w,.int k]),some (.int (hi-lo)),some (.int lo),some (.int ((s+1:Nat):Int))] g1 by simp[YA,hm,hs,e1]]
  exact e2
theorem Qi7{c r d B:Nat}{st st':Int}{b b':Bool}{L R L' R':List Tk}{g:G}(hK:K<=12)(hc:c<=3)(ht:tabOf N gB t rows)(hT:Tbl rows n m)(hL:∀t∈L,TkK K m t)(hR:∀t∈R,TkK K m t)(hB:B<=85000)(hu:Run gB g r d n m B (st,plc b,Tp c L R))(hW:Wk rows c .over st b L R st' b' L' R'):
  ∃v g',Ji [.ref t,.ref r,shD st b (L.map tkD) (R.map tkD),.int c] g=.ok (.bl true) g'/\Run gB g' r d n m 100000 v/\v.1=st'/\∀x,v.2.2 (x+(v.2.1-plc b'))=Tp c L' R' x:=by
 obtain⟨v,⟨w,k,T,ha,hN,hr,hv⟩,h1,h2⟩:=hW
 have hw:=QaI ha hL hR
 have hk0:=hw.2.2.1
 have hk1:=hw.2.2.2.2
 have hwl:=hw.2.2.2.1
 have e0:(c:Int)+k=((c+k.toNat:Nat):Int):=by omega
 have hn:(c+k.toNat)*w.length<=15*20:=Rl (by omega) hwl
 generalize hNN:c+k.toNat=M at hN hr hv e0 hn
 have eW:(w.length:Int)*((c:Int)+k)=((M*w.length:Nat):Int):=by rw[e0,Int.mul_comm];push_cast;rfl
 generalize hWW:M*w.length=W at hr hv eW hn
 have k0:Keeps [] g (g++[.lst [.tup (cutD (L.map tkD) (some (-1)) none),.tup (cutD (R.map tkD) none (some 1))]]):=.push _
 have hu0:Run gB (g++[.lst [.tup (cutD (L.map tkD) (some (-1)) none),.tup (cutD (R.map tkD) none (some 1))]]) r d n m B (st,plc b,Tp c L R):=by
  obtain⟨ks,q1,q2,q3⟩:=hu.d
  exact⟨hu.k.trans k0,hu.r0,hu.d0,hu.st,hu.rng,k0.at' _ _ (by simp) hu.r,ks,k0.at' _ _ (by simp) q1,q2,q3⟩
 have etok:mAsg (gSet 8) (mOp2 pIx (mOp2 pIx (mOpA newL (Qb (QM (mVar 6) (Zp (mOp1 pNeg (mLit (.int 1)))) QB) (Qb (QM (mVar 7) QB (Zp (mLit (.int 1)))) mNil))) (mOp1 pInt (mOp2 pEq (mVar 5) (mLit (.str "r"))))) (mLit (.int 0))) [some (.ref t),some (.ref r),some (shD st b (L.map tkD) (R.map tkD)),some (.int c),some (.int st),some (.str (fc b)),some (.tup (L.map tkD)),some (.tup (R.map tkD)),none,none,none,none] g=.nx [some (.ref t),some (.ref r),some (shD st b (L.map tkD) (R.map tkD)),some (.int c),some (.int st),some (.str (fc b)),some (.tup (L.map tkD)),some (.tup (R.map tkD)),some (.tup [.str "many",.tup (w.map .int),.int k]),none,none,none] (g++[.lst [.tup (cutD (L.map tkD) (some (-1)) none),.tup (cutD (R.map tkD) none (some 1))]]):=by
  cases b
  ·rcases U2 L with rfl|⟨L0,x,rfl⟩
   ·cases ha
   ·have:x=.many w k:=by simpa[ahT]using ha
    subst this
    simp[tkD]
  ·cases R with
   |nil=>cases ha
   |cons x R0 =>
    have:x=.many w k:=by simpa[ahT]using ha
    subst this
    simp[tkD]
 generalize g++[GO.lst [.tup (cutD (L.map tkD) (some (-1)) none),.tup (cutD (R.map tkD) none (some 1))]]=g0 at k0 hu0 etok
 have m1:pMul (.int w.length) (.int ((c:Int)+k)) g0=.ok (.int W) g0:=by rw[<-eW];exact mulL (QbL (by omega) (by omega))
 have m2:pMul (.int (-(W:Int))) (.int (if (!b)=true then 1 else 0)) g0=.ok (.int (if b then 0 else -(W:Int))) g0:=by
  rw[mulL (QbL (by omega) (by omega))];cases b <;> simp
 obtain⟨f,y,g',e1,hr'⟩:=Qi6 (M:=1000*M) (x2:=some (shD st b (L.map tkD) (R.map tkD))) (x4:=some (.int st)) (x5:=some (.str (fc b))) (x6:=some (.tup (L.map tkD))) (x7:=some (.tup (R.map tkD))) (w:=w.map .int) (c:=c) (k:=k) ht hT (by omega) (by omega) hr (by rw[hv];cases b <;> simp <;> omega) 0 B g0 (by omega) (by omega) hu0
 rw[show((if b then (W:Int) else 0) - if b then 0 else -(W:Int))=W by cases b <;> simp]at e1
 refine⟨v,g',ZD rfl ?_,?_,h1,h2⟩
 ·unfold Qc2
  refine Qk [some (.ref t),some (.ref r),some (shD st b (L.map tkD) (R.map tkD)),some (.int c),some (.int st),some (.str (fc b)),some (.tup (L.map tkD)),some (.tup (R.map tkD)),none,none,none,none] g (by simp[shD]) ?_
  refine Qk _ g0 etok ?_
  refine Qk [some (.ref t),some (.ref r),some (shD st b (L.map tkD) (R.map tkD)),some (.int c),some (.int st),some (.str (fc b)),some (.tup (L.map tkD)),some (.tup (R.map tkD)),some (.tup [.str "many",.tup (w.map .int),.int k]),some (.int W),none,none] g0 (Zx (Qx (x:=.int w.length) (y:=.int ((c:Int)+k)) (g1:=g0) (g2:=g0) (Yx (x:=.tup (w.map .int)) (g1:=g0) rfl (by show Res.ok (D.int ((w.map D.int).length:Int)) g0=_;rw[Uc])) rfl m1)) ?_
  refine Qk [some (.ref t),some (.ref r),some (shD st b (L.map tkD) (R.map tkD)),some (.int c),some (.int st),some (.str (fc b)),some (.tup (L.map tkD)),some (.tup (R.map tkD)),some (.tup [.str "many",.tup (w.map .int),.int k]),some (.int W),some (.int (if b then 0 else -(W:Int))),none] g0 (by simp at m2;simp[m2]) ?_
  refine Qk [some (.ref t),some (.ref r),some (shD st b (L.map tkD) (R.map tkD)),some (.int c),some (.int st),some (.str (fc b)),some (.tup (L.map tkD)),some (.tup (R.map tkD)),some (.tup [.str "many",.tup (w.map .int),.int k]),some (.int W),some (.int (if b then 0 else -(W:Int))),some (.int 0)] g0 (by simp) ?_
  exact Qk _ g' (QdK e1 (λz=>by cases z)) rfl
 ·obtain⟨ks,q1,q2,q3⟩:=hr'.d
  exact⟨hr'.k,hr'.r0,hr'.d0,hr'.st,hr'.rng,hr'.r,ks,q1,q2,by omega⟩
end
section
variable{rows:List (List D)}{n m K N t:Nat}{g:G}
theorem QoI{ds:List D}:Qeo (.tup ds) g=.ok (.ref g.length) (g++[.lst ds]):=rfl
theorem Qi8{c:Nat}{st st':Int}{b b':Bool}{L R L' R':List Tk}{mv:Mv}(hK:K<=11)(hc:c<=3)(ht:tabOf N g t rows)(hT:Tbl rows n m)(h0:0<=st/\st<n)(hL:∀t∈L,TkK K m t)(hR:∀t∈R,TkK K m t)(zL:L.length<=140)(zR:R.length<=140)(hL':∀t∈L',TkK (K+1) m t)(hR':∀t∈R',TkK (K+1) m t)(zL':L'.length<=140)(zR':R'.length<=140)(hW:Wk rows c mv st b L R st' b' L' R')(x5:Option D):
  ∃y g',YB [some (.ref t),some (shD st b (L.map tkD) (R.map tkD)),some (mvD mv),some (shD st' b' (L'.map tkD) (R'.map tkD)),some (.int c),x5] g=.nx [some (.ref t),some (shD st b (L.map tkD) (R.map tkD)),some (mvD mv),some (shD st' b' (L'.map tkD) (R'.map tkD)),some (.int c),y] g'/\Keeps [] g g':=by
 obtain⟨d,ks,g1,e1,k1,q1,p1,r1,z1⟩:=Qi4 (st:=st) (b:=b) (g:=g) (by omega:K<=12) hc hL hR zL zR
 have k2:Keeps [] g1 (g1++[.lst [.int st,.int (plc b),.ref d]]):=.push _
 have hl:=k1.len
 have lt:=QoI (g:=g1) (ds:=[.int st,.int (plc b),.ref d])
 have hu:Run g (g1++[.lst [.int st,.int (plc b),.ref d]]) g1.length d n m 84000 (st,plc b,Tp c L R):=⟨k1.trans k2,hl,q1,h0,Qnz hT.m0 hL hR,Qw _,ks,k2.at' _ _ (by simp) p1,r1,z1⟩
 generalize g1.length=r at hu lt
 generalize g1++[GO.lst [.int st,.int (plc b),.ref d]]=g2 at k2 hu lt
 have fin:∀(v:Cg)(g3:G),Run g g3 r d n m 100000 v->v.1=st'->(∀x,v.2.2 (x+(v.2.1-plc b'))=Tp c L' R' x)->∃g',Qah [.ref r,shD st' b' (L'.map tkD) (R'.map tkD),.int c] g3=.ok (.bl true) g'/\Keeps [] g3 g':=λv g3 hv h1 h2=>by
  obtain⟨ks3,s1,s2,_⟩:=hv.d
  exact Qi5 (K:=K+1) (by omega) hc hL' hR' zL' zR' hv.r s1 s2 h1 h2
 have a0:mAsg (gSet 5) (mOp1 Qeo (Ql QaX (Qb (mVar 1) (Qb (mVar 4) mNil)))) [some (.ref t),some (shD st b (L.map tkD) (R.map tkD)),some (mvD mv),some (shD st' b' (L'.map tkD) (R'.map tkD)),some (.int c),x5] g=.nx [some (.ref t),some (shD st b (L.map tkD) (R.map tkD)),some (mvD mv),some (shD st' b' (L'.map tkD) (R'.map tkD)),some (.int c),some (.ref r)] g2:=by simp[e1,lt]
 have key:∃v g3,Run g g3 r d n m 100000 v/\v.1=st'/\(∀x,v.2.2 (x+(v.2.1-plc b'))=Tp c L' R' x)/\∀(T:MS)(Q:Out),T [some (.ref t),some (shD st b (L.map tkD) (R.map tkD)),some (mvD mv),some (shD st' b' (L'.map tkD) (R'.map tkD)),some (.int c),some (.ref r)] g3=Q->mSeq (mIf (JK (Qj (mOp2 pEq (mOp2 pIx (mVar 2) (mLit (.int 0))) (mLit (.str "step")))) (ZK (Qj (Ql Qcc (Qb (mVar 0) (Qb (mVar 5) mNil)))))) (mRet (mLit (.bl false))) QA) (mSeq (mIf (JK (Qj (mOp2 pEq (mOp2 pIx (mVar 2) (mLit (.int 0))) (mLit (.str "over")))) (ZK (Qj (Ql Ji (Qb (mVar 0) (Qb (mVar 5) (Qb (mVar 1) (Qb (mVar 4) mNil)))))))) (mRet (mLit (.bl false))) QA) T) [some (.ref t),some (shD st b (L.map tkD) (R.map tkD)),some (mvD mv),some (shD st' b' (L'.map tkD) (R'.map tkD)),some (.int c),some (.ref r)] g2=Q:=by
  have other:∀s:Str,(∀g,pIx (mvD mv) (.int 0) g=.ok (.str s) g)->(s == Str.ofString "step")=false->(s == Str.ofString "over")=false->Wk rows c mv st b L R st' b' L' R'->(∀v,(match mv with
   |.step=>Stp rows (st,plc b,Tp c L R) v
   |.over=>∃w k N,ahT b L R=some (.many w k)/\N<=1000*(c+k.toNat)/\Rin rows (if b then 0 else -(((c+k.toNat)*w.length:Nat):Int)) (if b then (((c+k.toNat)*w.length:Nat):Int) else 0) N (st,plc b,Tp c L R) v/\v.2.1=(if b then (((c+k.toNat)*w.length:Nat):Int) else -(((c+k.toNat)*w.length:Nat):Int) - 1)
   |_=>v=(st,plc b,Tp c L R))->v=(st,plc b,Tp c L R))->∃v g3,Run g g3 r d n m 100000 v/\v.1=st'/\(∀x,v.2.2 (x+(v.2.1-plc b'))=Tp c L' R' x)/\∀(T:MS)(Q:Out),T [some (.ref t),some (shD st b (L.map tkD) (R.map tkD)),some (mvD mv),some (shD st' b' (L'.map tkD) (R'.map tkD)),some (.int c),some (.ref r)] g3=Q->mSeq (mIf (JK (Qj (mOp2 pEq (mOp2 pIx (mVar 2) (mLit (.int 0))) (mLit (.str "step")))) (ZK (Qj (Ql Qcc (Qb (mVar 0) (Qb (mVar 5) mNil)))))) (mRet (mLit (.bl false))) QA) (mSeq (mIf (JK (Qj (mOp2 pEq (mOp2 pIx (mVar 2) (mLit (.int 0))) (mLit (.str "over")))) (ZK (Qj (Ql Ji (Qb (mVar 0) (Qb (mVar 5) (Qb (mVar 1) (Qb (mVar 4) mNil)))))))) (mRet (mLit (.bl false))) QA) T) [some (.ref t),some (shD st b (L.map tkD) (R.map tkD)),some (mvD mv),some (shD st' b' (L'.map tkD) (R'.map tkD)),some (.int c),some (.ref r)] g2=Q:=λs i1 i2 i3 hW hv=>by
   obtain⟨v,w1,w2,w3⟩:=hW
   have:=hv v w1
   subst this
   obtain⟨ks',s1,s2,s3⟩:=hu.d
   exact⟨_,g2,⟨hu.k,hu.r0,hu.d0,hu.st,hu.rng,hu.r,ks',s1,s2,by omega⟩,w2,w3,λT Q hQ=>Qk _ g2 (iff' g2 (by simp[i1,i2]) rfl) (Qk _ g2 (iff' g2 (by simp[i1,i3]) rfl) hQ)⟩
  cases mv with
  |step =>
   obtain⟨v,w1,w2,w3⟩:=hW
   obtain⟨g3,e3,hv⟩:=hu.go ht hT (by omega) w1
   obtain⟨ks',s1,s2,s3⟩:=hv.d
   refine⟨v,g3,⟨hv.k,hv.r0,hv.d0,hv.st,hv.rng,hv.r,ks',s1,s2,by omega⟩,w2,w3,λT Q hQ=>Qk _ g3 (iff' g3 (by simp[mvD,e3]) rfl) (Qk _ g3 (iff' g3 (by simp[mvD,wds]) rfl) hQ)⟩
  |over =>
   obtain⟨v,g3,e3,hv,w2,w3⟩:=Qi7 (by omega:K<=12) hc ht hT hL hR (by omega) hu hW
   exact⟨v,g3,hv,w2,w3,λT Q hQ=>Qk _ g2 (iff' g2 (by simp[mvD,wds]) rfl) (Qk _ g3 (iff' g3 (by simp[mvD,e3]) rfl) hQ)⟩
  |opn=>exact other (Str.ofString "open") (λg=>by simp[mvD]) (by simp[wds]) (by simp[wds]) hW (λv h=>h)
  |ends pad s=>exact other (eS pad) (λg=>by simp[mvD]) (by cases pad <;> simp[eS,wds]) (by cases pad <;> simp[eS,wds]) hW (λv h=>h)
  |many wd s a=>exact other (wS wd) (λg=>by simp[mvD]) (by cases wd <;> simp[wS,wds]) (by cases wd <;> simp[wS,wds]) hW (λv h=>h)
 obtain⟨v,g3,hv,w2,w3,hQ⟩:=key
 obtain⟨g4,e4,k4⟩:=fin v g3 hv w2 w3
 refine⟨some (.ref r),g4,?_,hv.k.trans k4⟩
 unfold YB
 exact Qk _ g2 a0 (hQ _ _ (iff' g4 (by simp[e4]) rfl))
theorem QeN{st st':Int}{b b':Bool}{L R L' R':List Tk}{mv:Mv}(hK:K<=11)(ht:tabOf N g t rows)(hT:Tbl rows n m)(h0:0<=st/\st<n)(hL:∀t∈L,TkK K m t)(hR:∀t∈R,TkK K m t)(zL:L.length<=140)(zR:R.length<=140)(hL':∀t∈L',TkK (K+1) m t)(hR':∀t∈R',TkK (K+1) m t)(zL':L'.length<=140)(zR':R'.length<=140)(hW:∀c,Wk rows c mv st b L R st' b' L' R'):
  ∃g',Qai [.ref t,shD st b (L.map tkD) (R.map tkD),mvD mv,shD st' b' (L'.map tkD) (R'.map tkD)] g=.ok (.bl true) g'/\Keeps [] g g':=by
 obtain⟨σ',g',e,y4,y5,i1,i2⟩:=Yt (t:=gSet 4) (body:=YB) (lo:=0) (n:=4) (σ:=[some (.ref t),some (shD st b (L.map tkD) (R.map tkD)),some (mvD mv),some (shD st' b' (L'.map tkD) (R'.map tkD)),none,none]) (g:=g)
  (λi σ g1=>∃y4 y5,σ=[some (.ref t),some (shD st b (L.map tkD) (R.map tkD)),some (mvD mv),some (shD st' b' (L'.map tkD) (R'.map tkD)),y4,y5]/\Keeps [] g g1) ⟨none,none,rfl,.refl⟩ (λi σ g1 hi hQ=>by
   obtain⟨y4,y5,i1,i2⟩:=hQ
   subst i1
   obtain⟨y,g2,e2,k2⟩:=Qi8 (c:=i) hK (by omega) (ht.mono i2 (by simp)) hT h0 hL hR zL zR hL' hR' zL' zR' (hW i) y5
   exact⟨[some (.ref t),some (shD st b (L.map tkD) (R.map tkD)),some (mvD mv),some (shD st' b' (L'.map tkD) (R'.map tkD)),some (.int i),y5],_,g2,by rw[RE];rfl,e2,_,_,rfl,i2.trans k2⟩)
 subst i1
 refine⟨g',ZD rfl ?_,i2⟩
 unfold Qc3
 exact Qk _ g' ((Y4 (ZQ (n:=4) rfl (Qa0 (by omega)))).trans e) rfl
end
theorem Jy{g:G}{l:Nat}{ds:List D}(h:g[l]?=some (.lst ds)):QK g (.ref l)=some (true,ds):=by unfold QK;dsimp only;rw[h]
theorem pick{α:Type}{xs:List α}{i:Int}(h0:0<=i)(h1:i<xs.length):∃d,xs[i.toNat]?=some d/\d∈xs:=⟨xs[i.toNat]'(by omega),by simp,UX _⟩
theorem Qfs{ds:List D}{g:G}(h:ds.length<=100000):newL ds g=.ok (.ref g.length) (g++[.lst ds]):=Ue (UY (JI h))
noncomputable def QeO(s:Bool)(i:Nat):List Mv:=[.many .join s i,.many .draw s i,.many .roll s i,.many .back s i]
noncomputable def first7:List Mv:=[.step,.over,.opn,.ends false false,.ends false true,.ends true false,.ends true true]
section
variable{g:G}
theorem QlZ{p:Nat}{mvs:List Mv}{s:Bool}{i:Nat}(hp:g[p]?=some (.lst (mvs.map mvD)))(hz:mvs.length<=1000)(x0 x3:Option D):∃p' g',Y3 [x0,some (.ref p),some (.str (fc s)),x3,some (.int i)] g=.nx [x0,some (.ref p'),some (.str (fc s)),x3,some (.int i)] g'/\Keeps [] g g'/\g'[p']?=some (.lst ((mvs++QeO s i).map mvD)):=by
 have k1:Keeps [] g (g++[.lst [.str "join",.str "draw",.str "roll",.str "back"]]):=.push _
 have p1:(g++[GO.lst [.str "join",.str "draw",.str "roll",.str "back"]])[g.length]?=_:=Qw _
 have n1:=Qfs (ds:=[.str "join",.str "draw",.str "roll",.str "back"]) (g:=g) (by simp)
 generalize g.length=w at p1 n1
 generalize g++[GO.lst [.str "join",.str "draw",.str "roll",.str "back"]]=g1 at k1 p1 n1
 obtain⟨src,s1,s2,s3⟩:=Qce (Jy p1)
 obtain⟨g2,c1,k2⟩:=QdH (e:=mOpA pTup (Qb (mVar 0) (Qb (mVar 1) (Qb (mVar 2) mNil)))) (no:=0) (σ:=[some (.str (fc s)),some (.int i)]) (g:=g1) (f:=λd=>.tup [d,.str (fc s),.int i]) s2 (λg1' j kk=>s3 _ _ (QG (Jy p1) kk)) (λd _ g' _=>⟨g',by simp,.refl⟩)
 have e2:Yf (QN (mOpA newL (Qb (mLit (.str "join")) (Qb (mLit (.str "draw")) (Qb (mLit (.str "roll")) (Qb (mLit (.str "back")) mNil)))))) 1 [2,4] (gSet 0) ZS (mOpA pTup (Qb (mVar 0) (Qb (mVar 1) (Qb (mVar 2) mNil)))) [x0,some (.ref p),some (.str (fc s)),x3,some (.int i)] g=_:=JW (by unfold QN;rw[show mOpA newL (Qb (mLit (.str "join")) (Qb (mLit (.str "draw")) (Qb (mLit (.str "roll")) (Qb (mLit (.str "back")) mNil)))) [x0,some (.ref p),some (.str (fc s)),x3,some (.int i)] g=.ok (.ref w) g1 by simp[n1],Res.bind_ok];exact s1) (by rw[s2];decide) rfl c1
 have hm:[D.str "join",.str "draw",.str "roll",.str "back"].map (λd=>D.tup [d,.str (fc s),.int i])=(QeO s i).map mvD:=rfl
 rw[hm]at e2
 have k3:Keeps [] g2 (g2++[.lst ((QeO s i).map mvD)]):=.push _
 have p3:(g2++[GO.lst ((QeO s i).map mvD)])[g2.length]?=_:=Qw _
 generalize g2.length=w2 at p3 e2
 generalize g2++[GO.lst ((QeO s i).map mvD)]=g3 at k3 p3 e2
 have kk:=k1.trans (k2.trans k3)
 have e3:=Qge (kk.at' _ _ (by simp) hp) p3 (by simp[QeO];omega)
 refine⟨g3.length,_,?_,kk.trans (.push _),(Qw _).trans (by rw[US])⟩
 unfold Y3
 exact Zx (i:=1) (Qx (x:=.ref p) (g1:=g) rfl e2 e3)
theorem Qi9{p:Nat}{mvs:List Mv}{s:Bool}{T X Y:D}{n:Nat}(hp:g[p]?=some (.lst (mvs.map mvD)))(hz:mvs.length<=500)(hn:n<=60)(hT:∀g,pLen T g=.ok (.int n) g)(hXY:T=if s then Y else X)(x3 x4:Option D){u v:D}:∃p' mvs' y3 y4 g',Yr [some (.tup [u,v,X,Y]),some (.ref p),some (.str (fc s)),x3,x4] g=.nx [some (.tup [u,v,X,Y]),some (.ref p'),some (.str (fc s)),y3,y4] g'/\Keeps [] g g'/\g'[p']?=some (.lst ((mvs++mvs').map mvD))/\mvs'.length<=244:=by
 have k1:Keeps [] g (g++[.lst [Y,X]]):=.push _
 have e1:mAsg (gSet 3) (mOp2 pIx (mOpA newL (Qb (mOp2 pIx (mVar 0) (mLit (.int 3))) (Qb (mOp2 pIx (mVar 0) (mLit (.int 2))) mNil))) (mOp1 pInt (mOp2 pEq (mVar 2) (mLit (.str "l"))))) [some (.tup [u,v,X,Y]),some (.ref p),some (.str (fc s)),x3,x4] g=.nx [some (.tup [u,v,X,Y]),some (.ref p),some (.str (fc s)),some T,x4] (g++[.lst [Y,X]]):=by
  subst hXY
  cases s <;> simp
 generalize g++[GO.lst [Y,X]]=g1 at k1 e1
 have e2:mOp2 pAdd (mOp1 pLen (mVar 3)) (mLit (.int 1)) [some (.tup [u,v,X,Y]),some (.ref p),some (.str (fc s)),some T,x4] g1=.ok (.int ((n+1:Nat):Int)) g1:=by simp[hT]
 obtain⟨σ',g',e3,p',⟨y4,i1⟩,i2,mvs',i3,i4⟩:=Yt (t:=gSet 4) (body:=Y3) (lo:=0) (n:=n+1) (σ:=[some (.tup [u,v,X,Y]),some (.ref p),some (.str (fc s)),some T,x4]) (g:=g1)
  (λi σ g2=>∃q:Nat,(∃y,σ=[some (.tup [u,v,X,Y]),some (.ref q),some (.str (fc s)),some T,y])/\Keeps [] g1 g2/\∃ms,g2[q]?=some (.lst ((mvs++ms).map mvD))/\ms.length=4*i) ⟨p,⟨x4,rfl⟩,.refl,[],by rw[UW];exact k1.at' _ _ (by simp) hp,rfl⟩ (λi σ g2 hi hQ=>by
   obtain⟨q,⟨y,i1⟩,i2,ms,i3,i4⟩:=hQ
   subst i1
   obtain⟨q',g3,e,k,h⟩:=QlZ (s:=s) (i:=i) i3 (by simp;omega) (some (.tup [u,v,X,Y])) (some T)
   refine⟨_,_,g3,rfl,(by rw[RE];exact e),q',⟨_,rfl⟩,i2.trans k,ms++QeO s i,by rw[<-UH];exact h,by simp[QeO];omega⟩)
 subst i1
 refine⟨p',mvs',some T,y4,g',?_,k1.trans i2,i3,by omega⟩
 unfold Yr
 exact Qk _ g1 e1 ((Y4 (ZQ e2 (Qa0 (by omega)))).trans e3)
theorem Qki{st:Int}{b:Bool}{tl tr:List Tk}(zl:tl.length<=60)(zr:tr.length<=60):∃p mvs g',QaY [shD st b (tl.map tkD) (tr.map tkD)] g=.ok (.ref p) g'/\Keeps [] g g'/\g'[p]?=some (.lst ((first7++mvs).map mvD))/\mvs.length<=488:=by
 have k1:Keeps [] g (g++[.lst (first7.map mvD)]):=.push _
 have p1:(g++[GO.lst (first7.map mvD)])[g.length]?=_:=Qw _
 have n1:=Qfs (ds:=first7.map mvD) (g:=g) (by simp[first7])
 generalize g.length=p0 at p1 n1
 generalize g++[GO.lst (first7.map mvD)]=g1 at k1 p1 n1
 have k2:Keeps [] g1 (g1++[.lst [.str (fc false),.str (fc true)]]):=.push _
 have p2:(g1++[GO.lst [.str (fc false),.str (fc true)]])[g1.length]?=_:=Qw _
 have n2:=Qfs (ds:=[.str (fc false),.str (fc true)]) (g:=g1) (by simp)
 generalize g1.length=p2' at p2 n2
 generalize g1++[GO.lst [.str (fc false),.str (fc true)]]=g2 at k2 p2 n2
 obtain⟨src,s1,s2,s3⟩:=Qce (Jy p2)
 obtain⟨q1,ms1,y3,y4,g3,e3,k3,h3,z3⟩:=Qi9 (s:=false) (T:=.tup (tl.map tkD)) (X:=.tup (tl.map tkD)) (Y:=.tup (tr.map tkD)) (n:=tl.length) (k2.at' _ _ (by simp) p1) (by simp[first7]) zl (λ_=>by simp) rfl none none (u:=.int st) (v:=.str (fc b))
 obtain⟨q2,ms2,z3',z4',g4,e4,k4,h4,z4⟩:=Qi9 (s:=true) (T:=.tup (tr.map tkD)) (X:=.tup (tl.map tkD)) (Y:=.tup (tr.map tkD)) (n:=tr.length) h3 (by simp[first7];omega) zr (λ_=>by simp) rfl y3 y4 (u:=.int st) (v:=.str (fc b))
 have a0:=s3 g2 0 (Jy p2)
 have a1:=s3 g3 1 (QG (Jy p2) k3)
 have a2:=s3 g4 2 (QG (Jy p2) (k3.trans k4))
 have hF:mFor (QN (mOpA newL (Qb (mLit (.str "l")) (Qb (mLit (.str "r")) mNil)))) (gSet 2) Yr [some (shD st b (tl.map tkD) (tr.map tkD)),some (.ref p0),none,none,none] g1=.nx [some (shD st b (tl.map tkD) (tr.map tkD)),some (.ref q2),some (.str (fc true)),z3',z4'] g4:=by
  refine(Y4 (src:=src) (g':=g2) ?_).trans ?_
  ·unfold QN
   rw[show mOpA newL (Qb (mLit (.str "l")) (Qb (mLit (.str "r")) mNil)) [some (shD st b (tl.map tkD) (tr.map tkD)),some (.ref p0),none,none,none] g1=.ok (.ref p2') g2 by simpa using n2,Res.bind_ok]
   exact s1
  ·rw[s2]
   show forL src (gSet 2) Yr 3 0 _ g2=_
   simp at a0 a1 a2
   simp[forL,a0,a1,a2,gSet,shD,e3,e4]
 refine⟨q2,ms1++ms2,g4,ZD rfl ?_,k1.trans (k2.trans (k3.trans k4)),by rw[<-UH];exact h4,by simp;omega⟩
 unfold QeA
 refine Qk [some (shD st b (tl.map tkD) (tr.map tkD)),some (.ref p0),none,none,none] g1 ?_ (Qk _ g4 hF rfl)
 simp[first7,mvD,eS]at n1
 simp[n1]
end
theorem QoJ{st:Int}{b:Bool}{L R:List D}(hL:∀x∈L,pq 3 x=true)(hR:∀x∈R,pq 3 x=true)(zL:L.length<=100000)(zR:R.length<=100000):pq 5 (shD st b L R)=true:=Qc9 (by simp) λx hx=>by
 rcases Uu.mp hx with rfl|hx
 ·rfl
 rcases Uu.mp hx with rfl|hx
 ·rfl
 rcases Uu.mp hx with rfl|hx
 ·exact Qc9 zL hL
 ·rw[Up.mp hx];exact Qc9 zR hR
theorem Qja:∀(f:Nat)(d:D),pq f d=true->pq (f+1) d=true
 |0,_,h=>absurd h Uf
 |f+1,d,h=>by
  cases d with
  |tup ds =>
   have h':(decide (ds.length<=100000) && ds.all (pq f))=true:=h
   rw[UD,TJ,UE]at h'
   exact Qc9 h'.1 λx hx=>Qja f x (h'.2 x hx)
  |_=>first|rfl|exact absurd h Uf
theorem QoK{g:G}{x:D}(h:pq 5 x=true):∃g2,Ym 6 [x,x] g=.ok (.bl true) g2/\Keeps [] g g2:=QiE (Qns g 6 x (Qja _ _ h)) g .refl
section
variable{rows:List (List D)}{n m K N t M cn:Nat}{st:Int}{b:Bool}{L R:List Tk}{g:G}
theorem Ql0(hK:K<=11)(ht:tabOf N g t rows)(hM:g[M]?=some (JL rows))(hT:Tbl rows n m)(h0:0<=st/\st<n)(hL:∀t∈L,TkK K m t)(hR:∀t∈R,TkK K m t)(zL:L.length<=119)(zR:R.length<=119){gB:G}(kB:Keeps [] gB g)(htB:tabOf N gB t rows)(hcB:gB.length<=cn){cs:List Mv}(hc:g[cn]?=some (.lst (cs.map mvD)))(zc:cs.length<=1000)(mv:Mv)(x0 x1 x2 x3 x4 x10 x11:Option D):
  ∃y10 g' cs',Z4 [x0,x1,x2,x3,x4,some (.ref t),some (.ref M),some (shD st b (L.map tkD) (R.map tkD)),some (.ref cn),some (mvD mv),x10,x11] g=.nx [x0,x1,x2,x3,x4,some (.ref t),some (.ref M),some (shD st b (L.map tkD) (R.map tkD)),some (.ref cn),some (mvD mv),y10,x11] g'/\Keeps [] gB g'/\Keeps [cn] g g'/\g'[cn]?=some (.lst (cs'.map mvD))/\(cs≠[]->cs'≠[])/\(mv=.ends true false->cs'≠[])/\cs'.length<=cs.length+1:=by
 obtain⟨o,o1,o2,o3⟩:=QeK (b:=b) hT h0.1 h0.2 hL hR (by omega) (by omega) mv
 obtain⟨g1,k1,e1⟩:=Qfq (by omega:K<=12) hM hT h0.1 h0.2 hL hR (by omega) (by omega) o1
 cases o with
 |none =>
  refine⟨some .non,g1,cs,?_,kB.trans k1,k1.all,k1.at' _ _ (by simp) hc,id,λh=>absurd rfl (o3 h),by omega⟩
  simp at e1
  simp[Z4,e1,isNon]
 |some d =>
  obtain⟨st',b',L',R',rfl,h0',hL',hR',zL',zR',hW⟩:=o2 d rfl
  have hc1:=k1.at' _ _ (by simp) hc
  have kB1:=kB.trans k1
  have kB2:Keeps [] gB (g1.set cn (.lst (cs.map mvD++[mvD mv]))):=kB1.new hcB
  have kc2:Keeps [cn] g (g1.set cn (.lst (cs.map mvD++[mvD mv]))):=k1.all.trans (.set _ _)
  have hc2:(g1.set cn (.lst (cs.map mvD++[mvD mv])))[cn]?=some (.lst ((cs++[mv]).map mvD)):=by rw[US];exact Q9 hc1
  have ap:∀σ:S3,σ[8]?=some (some (.ref cn))->σ[9]?=some (some (mvD mv))->Z7 (Yg (mVar 8) (mVar 9)) σ g1=.nx σ (g1.set cn (.lst (cs.map mvD++[mvD mv]))):=λσ s1 s2=>Qal (by simp[s1]) hc1 (by simp[s2]) (by simp;omega)
  generalize g1.set cn (.lst (cs.map mvD++[mvD mv]))=g2 at kB2 kc2 hc2 ap
  obtain⟨g3,e3,k3⟩:=QeN hK (htB.mono kB2 (by simp)) hT h0 hL hR (by omega) (by omega) hL' hR' (by omega) (by omega) hW
  refine⟨some (shD st' b' (L'.map tkD) (R'.map tkD)),g3,cs++[mv],?_,kB2.trans k3,kc2.trans k3.all,k3.at' _ _ (by simp) hc2,λ_=>by simp,λ_=>by simp,by simp⟩
  have hn:isNon (shD st' b' (L'.map tkD) (R'.map tkD))=false:=rfl
  simp only[T6]at e1
  unfold Z4
  refine Qk [x0,x1,x2,x3,x4,some (.ref t),some (.ref M),some (shD st b (L.map tkD) (R.map tkD)),some (.ref cn),some (mvD mv),some (shD st' b' (L'.map tkD) (R'.map tkD)),x11] g1 (by simp[e1]) (ift g1 (by simp[hn]) (Qk _ g2 (ap _ rfl rfl) (iff' g3 ?_ rfl)))
  simp[e3]
theorem Ql1(hK:K<=11)(hM:g[M]?=some (JL rows))(hT:Tbl rows n m)(h0:0<=st/\st<n)(hL:∀t∈L,TkK K m t)(hR:∀t∈R,TkK K m t)(zL:L.length<=60)(zR:R.length<=60)(ht:tabOf N g t rows)(x0 x1 x2 x3 x4 x11:Option D)(hcn:cn=g.length):
  ∃y9 y10 g' cs,mFor (QN (Ql QaY (Qb (mVar 7) mNil))) (gSet 9) Z4 [x0,x1,x2,x3,x4,some (.ref t),some (.ref M),some (shD st b (L.map tkD) (R.map tkD)),some (.ref cn),none,none,x11] (g++[.lst []])=.nx [x0,x1,x2,x3,x4,some (.ref t),some (.ref M),some (shD st b (L.map tkD) (R.map tkD)),some (.ref cn),y9,y10,x11] g'/\Keeps [] g g'/\g'[cn]?=some (.lst (cs.map mvD))/\cs≠[]/\cs.length<=500:=by
 have k0:Keeps [] g (g++[.lst []]):=.push _
 have c0:(g++[GO.lst []])[cn]?=some (.lst (([]:List Mv).map mvD)):=by rw[hcn];exact Qw _
 generalize g++[GO.lst []]=g0 at k0 c0
 obtain⟨p,mvs,g1,e1,k1,p1,z1⟩:=Qki (st:=st) (b:=b) (g:=g0) zL zR
 obtain⟨src,s1,s2,s3⟩:=Qce (Jy p1)
 rw[Uc]at s2
 have hl:(first7++mvs).length<=495:=by simp[first7];omega
 have h5:(first7++mvs)[5]?=some (.ends true false):=rfl
 have h5l:5<(first7++mvs).length:=(Ud.mp h5).1
 have hpc:p≠cn:=λz=>by
  have q:=k1.at' _ _ (by simp) c0
  rw[<-z,p1]at q
  have:=Rn (λo:Option GO=>match o with|some (.lst ds)=>ds.length|_=>0) q
  simp[first7]at this
 generalize first7++mvs=ms at *
 obtain⟨σ',g2,e2,⟨y9,y10,i1⟩,i2,cs,i3,i4,i5,i6⟩:=Qin (src:=src) (t:=gSet 9) (body:=Z4) (n:=ms.length) (σ:=[x0,x1,x2,x3,x4,some (.ref t),some (.ref M),some (shD st b (L.map tkD) (R.map tkD)),some (.ref cn),none,none,x11]) (g:=g1) s2
  (λi σ g2=>(∃y9 y10,σ=[x0,x1,x2,x3,x4,some (.ref t),some (.ref M),some (shD st b (L.map tkD) (R.map tkD)),some (.ref cn),y9,y10,x11])/\Keeps [] g g2/\∃cs,g2[cn]?=some (.lst (cs.map mvD))/\(5<i->cs≠[])/\cs.length<=i/\g2[p]?=some (.lst (ms.map mvD))) ⟨⟨none,none,rfl⟩,k0.trans k1,[],k1.at' _ _ (by simp) c0,λh=>by omega,Ui _,p1⟩ (λi σ g2 hi hQ=>by
   obtain⟨⟨y9,y10,i1⟩,i2,cs,i3,i4,i5,i6⟩:=hQ
   subst i1
   obtain⟨z10,g3,cs',e3,k3,k3',c3,n1,n2,z3⟩:=Ql0 (b:=b) hK (ht.mono i2 (by simp)) (i2.at' _ _ (by simp) hM) hT h0 hL hR (by omega) (by omega) i2 ht (by omega) i3 (by omega) ms[i] x0 x1 x2 x3 x4 y10 x11
   refine⟨mvD ms[i],_,_,g3,by rw[s3 g2 i (Jy i6)];simp[hi],rfl,e3,⟨_,_,rfl⟩,k3,cs',c3,λh=>?_,by omega,k3'.at' _ _ (by simpa using hpc) i6⟩
   by_cases h':5<i
   ·exact n1 (i4 h')
   ·have:i=5:=by omega
    subst this
    rw[Uq hi]at h5
    exact n2 (Option.some.inj h5)) (λσ g2 hQ=>by obtain⟨_,_,cs,_,_,_,i6⟩:=hQ;rw[s3 g2 _ (Jy i6)];simp)
 subst i1
 refine⟨y9,y10,g2,cs,(Y4 ?_).trans e2,i2,i3,i4 h5l,by omega⟩
 unfold QN
 rw[Zh (ds:=[shD st b (L.map tkD) (R.map tkD)]) (g':=g0) rfl,e1,Res.bind_ok]
 exact s1
end
@[simp] theorem Qph{g:G}{i j:Int}:pMod (.int i) (.int j) g=if 0<j then .ok (.int (i%j)) g else .stuck:=rfl
@[simp] theorem QoL{g:G}{i j:Int}:Q5 (.int i) (.int j) g=if 0<j/\j<1073741824 then .ok (.int (i/j)) g else .stuck:=rfl
section
variable{rows:List (List D)}{n m N t M cn a:Nat}{g:G}
theorem Ql2(ns:List Int){K:Nat}{st k:Int}{b:Bool}{L R:List Tk}(hK:K<=11)(ht:tabOf N g t rows)(haN:a<N)(hM:g[M]?=some (JL rows))(hMa:M≠a)(hca:cn≠a)(hT:Tbl rows n m)(h0:0<=st/\st<n)(hL:∀t∈L,TkK K m t)(hR:∀t∈R,TkK K m t)(zL:L.length<=119)(zR:R.length<=119)(ga:g[a]?=some (.lst [.int k]))(hk:0<=k)(hk2:k<500000000){cs:List Mv}(hc:g[cn]?=some (.lst (cs.map mvD)))(hcs:cs≠[])(x2 x3 x4 x9 x10 x11:Option D):
  ∃(st':Int)(b':Bool)(L' R':List Tk)(y9 y10:Option D)(g':G),Ys [some (.fl (ns.map .int)),some (.ref a),x2,x3,x4,some (.ref t),some (.ref M),some (shD st b (L.map tkD) (R.map tkD)),some (.ref cn),x9,x10,x11] g=.nx [some (.fl (ns.map .int)),some (.ref a),x2,x3,x4,some (.ref t),some (.ref M),some (shD st' b' (L'.map tkD) (R'.map tkD)),some (.ref cn),y9,y10,x11] g'/\Keeps [a] g g'/\g'[a]?=some (.lst [.int (k+1)])/\(0<=st'/\st'<n)/\(∀t∈L',TkK (K+1) m t)/\(∀t∈R',TkK (K+1) m t)/\L'.length<=L.length+21/\R'.length<=R.length+21:=by
 obtain⟨q,q0,q1,e1⟩:=QaH ns a k g ga hk (by omega)
 have k1:Keeps [a] g (g.set a (.lst [.int (k+1)])):=.set _ _
 have ga1:(g.set a (.lst [.int (k+1)]))[a]?=some (.lst [.int (k+1)]):=Q9 ga
 generalize g.set a (.lst [.int (k+1)])=g1 at e1 k1 ga1
 have ht1:=ht.mono k1 (by simpa using haN)
 have hM1:=k1.at' M _ (by simpa using hMa) hM
 have hc1:=k1.at' cn _ (by simpa using hca) hc
 have hl:0<cs.length:=U7.mpr hcs
 have hlen:=Qis hc1
 rw[Uc]at hlen
 obtain⟨d,d1,d2⟩:=pick (xs:=cs.map mvD) (i:=q%cs.length) (UT _ (by omega)) (by rw[Uc];exact UL _ (by omega))
 obtain⟨mv,_,rfl⟩:=Tn.mp d2
 have e2:=Qc6 hc1 (UT _ (by omega)) d1
 have e3:mAsg (gSet 9) (mOp2 pIx (mVar 8) (mOp2 pMod (Ql ZR (Qb (mVar 0) (Qb (mVar 1) mNil))) (mOp1 pLen (mVar 8)))) [some (.fl (ns.map .int)),some (.ref a),x2,x3,x4,some (.ref t),some (.ref M),some (shD st b (L.map tkD) (R.map tkD)),some (.ref cn),x9,x10,x11] g=.nx [some (.fl (ns.map .int)),some (.ref a),x2,x3,x4,some (.ref t),some (.ref M),some (shD st b (L.map tkD) (R.map tkD)),some (.ref cn),some (mvD mv),x10,x11] g1 :=
  Zx (Qx (x:=.ref cn) (y:=.int (q%cs.length)) (g1:=g) (g2:=g1) rfl (Qx (x:=.int q) (y:=.int cs.length) (g1:=g1) (g2:=g1) ((Zh (ds:=[.fl (ns.map .int),.ref a]) (g':=g) rfl).trans e1) (Yx (x:=.ref cn) (g1:=g1) rfl hlen) (modP (by omega))) e2)
 obtain⟨o,o1,o2,_⟩:=QeK (b:=b) hT h0.1 h0.2 hL hR (by omega) (by omega) mv
 obtain⟨g2,k2,e4⟩:=Qfq (by omega:K<=12) hM1 hT h0.1 h0.2 hL hR (by omega) (by omega) o1
 have k12:Keeps [a] g g2:=k1.trans k2.all
 have ga2:=k2.at' _ _ (by simp) ga1
 cases o with
 |none =>
  refine⟨st,b,L,R,some (mvD mv),some .non,g2,?_,k12,ga2,h0,λt h=>(hL t h).up,λt h=>(hR t h).up,by omega,by omega⟩
  simp at e4
  unfold Ys
  refine Qk _ g1 e3 (Qk [some (.fl (ns.map .int)),some (.ref a),x2,x3,x4,some (.ref t),some (.ref M),some (shD st b (L.map tkD) (R.map tkD)),some (.ref cn),some (mvD mv),some .non,x11] g2 (by simp[e4]) (iff' g2 (by simp[isNon]) rfl))
 |some d =>
  obtain⟨st',b',L',R',rfl,h0',hL',hR',zL',zR',hW⟩:=o2 d rfl
  obtain⟨g3,e5,k3⟩:=QeN hK (ht1.mono k2 (by simp)) hT h0 hL hR (by omega) (by omega) hL' hR' (by omega) (by omega) hW
  have k23:=k2.trans k3
  obtain⟨g4,k4,e6⟩:=Qfq (by omega:K<=12) (k23.at' _ _ (by simp) hM1) hT h0.1 h0.2 hL hR (by omega) (by omega) o1
  obtain⟨g5,e7,k5⟩:=QoK (g:=g4) (QoJ (st:=st') (b:=b') (QkS hL') (QkS hR') (by simp;omega) (by simp;omega))
  have k15:=k23.trans (k4.trans k5)
  simp only[T6]at e4 e6
  have hn:isNon (shD st' b' (L'.map tkD) (R'.map tkD))=false:=rfl
  refine⟨st',b',L',R',some (mvD mv),some (shD st' b' (L'.map tkD) (R'.map tkD)),g5,?_,k1.trans k15.all,k15.at' _ _ (by simp) ga1,h0',hL',hR',zL',zR'⟩
  unfold Ys
  generalize Ym 6=F at e7 ⊢
  refine Qk _ g1 e3 (Qk [some (.fl (ns.map .int)),some (.ref a),x2,x3,x4,some (.ref t),some (.ref M),some (shD st b (L.map tkD) (R.map tkD)),some (.ref cn),some (mvD mv),some (shD st' b' (L'.map tkD) (R'.map tkD)),x11] g2 (by simp[e4]) (ift g2 (by simp[hn]) (Qk _ g3 (iff' g3 (by simp[e5]) rfl) (Qk _ g5 (iff' g5 (by simp[e6,e7]) rfl) rfl))))
theorem Qjb(ns:List Int){k:Int}(ga:g[a]?=some (.lst [.int k]))(hk:0<=k)(hk2:k<400000000):
  ∃k' g',Qcd [.fl (ns.map .int),.ref a] g=.ok (.bl true) g'/\k<=k'/\k'<=k+50/\g'[a]?=some (.lst [.int k']):=by
 obtain⟨q,q0,q1,e1⟩:=QaH ns a k g ga hk (by omega)
 have ga1:(g.set a (.lst [.int (k+1)]))[a]?=some (.lst [.int (k+1)]):=Q9 ga
 generalize g.set a (.lst [.int (k+1)])=g1 at e1 ga1
 obtain⟨n,hn⟩:∃n:Nat,(n:Int)=1+q%4:=⟨(1+q%4).toNat,by omega⟩
 obtain⟨m,hm⟩:∃m:Nat,(m:Int)=1+q/4%4:=⟨(1+q/4%4).toNat,by omega⟩
 obtain⟨rows,g2,e2,k2,ga2,hT2,t1,t2,t3⟩:=Qj7 ns a (k+1) n m g1 (by omega) (by omega) (by omega) (by omega) ga1 (by omega) (by omega)
 have hT:Tbl rows n m:=⟨by omega,by omega,t1,t2,t3⟩
 have al1:=Zw ga1
 obtain⟨g3,k3,e3,hM3⟩:=QlJ (.ref g1.length) rows g2 hT2.rows (λr hr=>UY (JI (by rw[t2 r hr];omega))) (UY (JI (by omega))) (λr hr d hd=>(t3 r hr d hd).thing) (Qb (mVar 5) mNil) [some (.fl (ns.map .int)),some (.ref a),some (.int q),some (.int n),some (.int m),some (.ref g1.length),none,none,none,none,none,none] g2 rfl
 have hgood:=entOk.good (by omega) (by omega) t1 t2 t3
 rw[Ue hgood]at e3
 have hM3:=hM3 hgood
 have al2:=Zw ga2
 have hMa:g2.length≠a:=by omega
 have hta:=hT2.mono k3 (by simp)
 have hk3:(n:Int)*m<=16:=by
  have:n*m<=4*4:=Rl (by omega) (by omega)
  omega
 have hk0:0<=(n:Int)*m:=RQ (by omega) (by omega)
 generalize (n:Int)*m=nm at ga2 hk3 hk0
 generalize g2.length=M at e3 hM3 hMa al2
 obtain⟨st,f,l,r,tl,tr,k4,g4,e4,h0,hf,hl,hr,ol,or',zl,zr,b1,b2,kp4,ga4,l1,l2⟩:=QiC ns (states:=n) (sg:=m) (by omega) (by omega) (k3.at' _ _ (by simp) ga2) (by omega) (by omega)
 obtain⟨b,rfl⟩:=hf.fc
 have e5:QbK [.tup [.int st,.str (fc b),.ref l,.ref r]] g4=.ok (shD st b (tl.map tkD) (tr.map tkD)) g4:=Qkd hl hr
 have hM4:=kp4.at' M _ (by simpa using hMa) hM3
 have hT4:=hta.mono kp4 (by simpa using al1)
 have al4:=Zw ga4
 obtain⟨y9,y10,g5,cs,e6,k5,hc5,hcs,zc⟩:=Ql1 (cn:=g4.length) (b:=b) (by omega) hM4 hT h0 ol or' (by omega) (by omega) hT4 (some (.fl (ns.map .int))) (some (.ref a)) (some (.int q)) (some (.int n)) (some (.int m)) none rfl
 have hcn:mAsg (gSet 8) (mOpA newL mNil) [some (.fl (ns.map .int)),some (.ref a),some (.int q),some (.int n),some (.int m),some (.ref g1.length),some (.ref M),some (shD st b (tl.map tkD) (tr.map tkD)),none,none,none,none] g4=.nx [some (.fl (ns.map .int)),some (.ref a),some (.int q),some (.int n),some (.int m),some (.ref g1.length),some (.ref M),some (shD st b (tl.map tkD) (tr.map tkD)),some (.ref g4.length),none,none,none] (g4++[.lst []]):=rfl
 have hca:g4.length≠a:=by omega
 generalize g4++[GO.lst []]=g4' at hcn e6
 generalize g4.length=cn at *
 have hT5:=hT4.mono k5 (by simp)
 have hM5:=k5.at' _ _ (by simp) hM4
 have ga5:=k5.at' _ _ (by simp) ga4
 generalize hNt:g1.length=t at *
 obtain⟨c,hc⟩:∃c:Nat,(c:Int)=1+q/16%5:=⟨(1+q/16%5).toNat,by omega⟩
 obtain⟨σ',g6,e7,⟨st',b',L',R',z9,z10,z11,i1,i2,i3,i4,i5,i6⟩,i7,i8⟩:=Yt (t:=gSet 11) (body:=Ys) (lo:=0) (n:=c) (σ:=[some (.fl (ns.map .int)),some (.ref a),some (.int q),some (.int n),some (.int m),some (.ref t),some (.ref M),some (shD st b (tl.map tkD) (tr.map tkD)),some (.ref cn),y9,y10,none]) (g:=g5)
  (λi σ g'=>(∃(st':Int)(b':Bool)(L' R':List Tk)(y9 y10 y11:Option D),σ=[some (.fl (ns.map .int)),some (.ref a),some (.int q),some (.int n),some (.int m),some (.ref t),some (.ref M),some (shD st' b' (L'.map tkD) (R'.map tkD)),some (.ref cn),y9,y10,y11]/\(0<=st'/\st'<(n:Int))/\(∀t∈L',TkK (4+i) m t)/\(∀t∈R',TkK (4+i) m t)/\L'.length<=18+20*i+i/\R'.length<=18+20*i+i)/\Keeps [a] g5 g'/\g'[a]?=some (.lst [.int (k4+i)])) ⟨⟨st,b,tl,tr,y9,y10,none,rfl,h0,ol,or',by omega,by omega⟩,.refl,by rw[show k4+((0:Nat):Int)=k4 by omega];exact ga5⟩ (λi σ g' hi hQ=>by
   obtain⟨⟨st',b',L',R',z9,z10,z11,i1,i2,i3,i4,i5,i6⟩,i7,i8⟩:=hQ
   subst i1
   obtain⟨st2,b2,L2,R2,w9,w10,g7,e8,k8,ga8,j1,j2,j3,j4,j5⟩:=Ql2 ns (by omega:4+i<=11) (hT5.mono i7 (by simpa using al1)) al1 (i7.at' _ _ (by simpa using hMa) hM5) hMa hca hT i2 i3 i4 (by omega) (by omega) i8 (by omega) (by omega) (i7.at' _ _ (by simpa using hca) hc5) hcs (some (.int q)) (some (.int n)) (some (.int m)) z9 z10 (some (.int i))
   refine⟨[some (.fl (ns.map .int)),some (.ref a),some (.int q),some (.int n),some (.int m),some (.ref t),some (.ref M),some (shD st' b' (L'.map tkD) (R'.map tkD)),some (.ref cn),z9,z10,some (.int i)],_,g7,by rw[RE];rfl,e8,⟨st2,b2,L2,R2,_,_,_,rfl,j1,j2,j3,by omega,by omega⟩,i7.trans k8,?_⟩
   rw[ga8,show k4+((i+1:Nat):Int)=k4+i+1 by omega])
 subst i1
 refine⟨k4+c,g6,ZD rfl ?_,by omega,by omega,i8⟩
 unfold QeB
 refine Qk [some (.fl (ns.map .int)),some (.ref a),some (.int q),none,none,none,none,none,none,none,none,none] g1 (by simp[e1]) ?_
 refine Qk [some (.fl (ns.map .int)),some (.ref a),some (.int q),some (.int n),none,none,none,none,none,none,none,none] g1 (by simp[hn]) ?_
 refine Qk [some (.fl (ns.map .int)),some (.ref a),some (.int q),some (.int n),some (.int m),none,none,none,none,none,none,none] g1 (by simp[hm]) ?_
 refine Qk [some (.fl (ns.map .int)),some (.ref a),some (.int q),some (.int n),some (.int m),some (.ref t),none,none,none,none,none,none] g2 (Zx ((Zh (ds:=[.fl (ns.map .int),.ref a,.int n,.int m]) (g':=g1) rfl).trans e2)) ?_
 refine Qk [some (.fl (ns.map .int)),some (.ref a),some (.int q),some (.int n),some (.int m),some (.ref t),some (.ref M),none,none,none,none,none] g3 (Zx e3) ?_
 refine Qk [some (.fl (ns.map .int)),some (.ref a),some (.int q),some (.int n),some (.int m),some (.ref t),some (.ref M),some (shD st b (tl.map tkD) (tr.map tkD)),none,none,none,none] g4 (Zx ((Zh (ds:=[.tup [.int st,.str (fc b),.ref l,.ref r]]) (g':=g4) (QC ((Zh (ds:=[.fl (ns.map .int),.ref a,.int n,.int m]) (g':=g3) rfl).trans e4) rfl)).trans e5)) ?_
 refine Qk _ g4' hcn ?_
 refine Qk _ g5 e6 ?_
 refine Qk _ g6 ((Y4 (ZQ (n:=c) ?_ (Qa0 (by omega)))).trans e7) rfl
 rw[hc];simp
end
theorem law_true(ns:List Int)(hn:ns.length<=63):∃g',Qj3 [.fl (ns.map .int)] []=.ok (.bl true) g':=by
 have hc:(cutD (ns.map D.int) none (some 60)).length<=60:=by
  unfold cutD
  rw[Tv]
  show min (min (60:Int).toNat (ns.map D.int).length-0) _<=60
  have:(60:Int).toNat=60:=rfl
  omega
 generalize hm:(cutD (ns.map D.int) none (some 60)).length=m at hc
 have e1:mOp2 pAdd (mLit (.int 1)) (mOp2 Q5 (mOp1 pLen (QM (mVar 0) QB (Zp (mLit (.int 60))))) (mLit (.int 40))) [some (.fl (ns.map .int)),some (.ref 0),none] [.lst [.int 0]]=.ok (.int ((1+m/40:Nat):Int)) [.lst [.int 0],.lst (cutD (ns.map D.int) none (some 60))]:=by
  have el:mOp1 pLen (QM (mVar 0) QB (Zp (mLit (.int 60)))) [some (.fl (ns.map .int)),some (.ref 0),none] [.lst [.int 0]]=.ok (.int m) [.lst [.int 0],.lst (cutD (ns.map D.int) none (some 60))]:=by rw[<-hm];rfl
  refine Qx (x:=.int 1) (y:=.int ((m:Int) / 40)) (g1:=[.lst [.int 0]]) rfl (Qx el rfl (divP (by decide) (by decide))) ?_
  show Res.ok (D.int (1+(m:Int) / 40)) _=_
  rw[show(1+(m:Int) / 40)=((1+m/40:Nat):Int) by omega]
 obtain⟨σ',g',e2,⟨y,i1⟩,k',i2,i3,i4⟩:=Yt (t:=gSet 2) (body:=QdF) (lo:=0) (n:=1+m/40) (σ:=[some (.fl (ns.map .int)),some (.ref 0),none]) (g:=[.lst [.int 0],.lst (cutD (ns.map D.int) none (some 60))])
  (λi σ g=>(∃y,σ=[some (.fl (ns.map .int)),some (.ref 0),y])/\∃k:Int,g[0]?=some (.lst [.int k])/\0<=k/\k<=50*i) ⟨⟨none,rfl⟩,0,rfl,by omega,by omega⟩ (λi σ g hi hQ=>by
   obtain⟨⟨y,i1⟩,k,i2,i3,i4⟩:=hQ
   subst i1
   obtain⟨k',g',e,b1,b2,b3⟩:=Qjb ns i2 i3 (by omega)
   refine⟨[some (.fl (ns.map .int)),some (.ref 0),some (.int (0+i))],[some (.fl (ns.map .int)),some (.ref 0),some (.int (0+i))],g',rfl,?_,⟨_,rfl⟩,k',b3,by omega,by omega⟩
   unfold QdF
   exact iff' g' (Qir (Yj (by rw[Zh (ds:=[.fl (ns.map .int),.ref 0]) (g':=g) rfl];exact e))) rfl)
 subst i1
 refine⟨g',ZD rfl ?_⟩
 show QlF [some (.fl (ns.map .int)),none,none] []=_
 unfold QlF
 exact Qk [some (.fl (ns.map .int)),some (.ref 0),none] [.lst [.int 0]] rfl (Qk _ g' ((Y4 (ZQ e1 (Qa0 (by omega)))).trans e2) rfl)
end L3
namespace V
open PySem PySem.Spec PyProof.Rows L2 L3
theorem Q0{N P:List Str}{sc:Scope}(h1:sc.kind=.function:=by rfl)(h2:sc.isCoroutine=false:=by rfl)(h3:sc.isGenerator=false:=by rfl)(h4:N.Nodup:=by decide +kernel)(h5:N.take P.length=P:=by rfl)(h6:∀x∈P,sc.names.lookup x=some .local\/sc.names.lookup x=some .cell:=by decide +kernel)(h7:∀y∈sc.names,y.2≠.free:=by decide +kernel):FnScope N P sc:=⟨h1,h2,h3,h4,h5,h6,h7⟩
noncomputable def top(i:Nat):Stmt:=PySem.Challenge.pw_tapeproof_k42_moves_walked.main.body.getD i (.Pass ⟨0,0,0,0⟩)
noncomputable abbrev Qbk:Stmt:=top 6
abbrev QgX:List Str:=["value"]
theorem Qft:FnScope QgX ["value"] (Qh Qbk):=Q0
noncomputable abbrev Qbl:Stmt:=top 7
abbrev QgY:List Str:=["value", "many"]
theorem Qfu:FnScope QgY ["value", "many"] (Qh Qbl):=Q0
noncomputable abbrev Yv:Stmt:=top 8
abbrev QbB:List Str:=["value"]
theorem Qbm:FnScope QbB ["value"] (Qh Yv):=Q0
noncomputable abbrev Qbn:Stmt:=top 13
abbrev QgZ:List Str:=["thing", "states", "signs"]
theorem Qfv:FnScope QgZ ["thing", "states", "signs"] (Qh Qbn):=Q0
noncomputable abbrev Y6:Stmt:=top 14
abbrev Qbw:List Str:=["rows", "states", "signs", "row"]
theorem YD:FnScope Qbw ["rows"] (Qh Y6):=Q0
noncomputable abbrev Zi:Stmt:=Qlj (top 15) 0
abbrev QaA:List Str:=["self", "table", "rows"]
theorem JY:FnScope QaA ["self", "table"] (Qh Zi):=Q0
noncomputable abbrev QaJ:Stmt:=top 16
abbrev Qfw:List Str:=["machine"]
theorem QeP:FnScope Qfw ["machine"] (Qh QaJ):=Q0
noncomputable abbrev Qbo:Stmt:=top 17
abbrev Qg0:List Str:=["machine"]
theorem Qfx:FnScope Qg0 ["machine"] (Qh Qbo):=Q0
noncomputable abbrev Qa3:Stmt:=top 21
abbrev QeQ:List Str:=["thing"]
theorem Qg1:FnScope QeQ ["thing"] (Qh Qa3):=Q0
noncomputable abbrev Qbp:Stmt:=top 22
abbrev Qg2:List Str:=["thing"]
theorem Qfy:FnScope Qg2 ["thing"] (Qh Qbp):=Q0
noncomputable abbrev Yo:Stmt:=top 23
abbrev QaB:List Str:=["tokens"]
theorem Qcm:FnScope QaB ["tokens"] (Qh Yo):=Q0
noncomputable abbrev Jz:Stmt:=top 24
abbrev QdT:List Str:=["shape"]
theorem QcL:FnScope QdT ["shape"] (Qh Jz):=Q0
noncomputable abbrev Jb:Stmt:=top 25
abbrev QcM:List Str:=["token"]
theorem Qcn:FnScope QcM ["token"] (Qh Jb):=Q0
noncomputable abbrev Qbq:Stmt:=top 31
abbrev Qg3:List Str:=["token"]
theorem Qfz:FnScope Qg3 ["token"] (Qh Qbq):=Q0
noncomputable abbrev Yw:Stmt:=top 32
abbrev QbC:List Str:=["machine", "shape", "signs", "tokens", "token"]
theorem ZH:FnScope QbC ["machine", "shape"] (Qh Yw):=Q0
noncomputable abbrev JA:Stmt:=top 33
abbrev QdU:List Str:=["shape"]
theorem QcN:FnScope QdU ["shape"] (Qh JA):=Q0
noncomputable abbrev Qa4:Stmt:=top 34
abbrev QeR:List Str:=["word"]
theorem Qg4:FnScope QeR ["word"] (Qh Qa4):=Q0
noncomputable abbrev JB:Stmt:=top 35
abbrev QdV:List Str:=["shape", "tokens"]
theorem QaC:FnScope QdV ["shape"] (Qh JB):=Q0
noncomputable abbrev JZ:Stmt:=top 36
abbrev QeS:List Str:=["shape", "token"]
theorem Qa5:FnScope QeS ["shape"] (Qh JZ):=Q0
noncomputable abbrev ZV:Stmt:=top 37
abbrev QaK:List Str:=["shape", "tokens"]
theorem Qat:FnScope QaK ["shape", "tokens"] (Qh ZV):=Q0
noncomputable abbrev Qco:Stmt:=top 38
abbrev Qjc:List Str:=["shape", "state", "way", "token", "rest"]
theorem Qdc:FnScope Qjc ["shape", "state", "way", "token"] (Qh Qco):=Q0
noncomputable abbrev J0:Stmt:=top 39
abbrev QeT:List Str:=["machine", "shape", "token", "entry"]
theorem JC:FnScope QeT ["machine", "shape"] (Qh J0):=Q0
noncomputable abbrev JD:Stmt:=top 40
abbrev QdW:List Str:=["machine", "state", "facing", "word", "cells", "at", "current", "step", "entry"]
theorem Q2:FnScope QdW ["machine", "state", "facing", "word"] (Qh JD):=Q0
noncomputable abbrev J4:Stmt:=top 41
abbrev QeU:List Str:=["machine", "shape", "many", "word"]
theorem JE:FnScope QeU ["machine", "shape"] (Qh J4):=Q0
noncomputable abbrev J5:Stmt:=top 42
abbrev QeV:List Str:=["shape", "many", "rest", "ones"]
theorem YE:FnScope QeV ["shape"] (Qh J5):=Q0
noncomputable abbrev YQ:Stmt:=top 43
abbrev Qcp:List Str:=["tokens", "side", "at", "place"]
theorem JJ:FnScope Qcp ["tokens", "side", "at"] (Qh YQ):=Q0
noncomputable abbrev ZM:Stmt:=top 44
abbrev Qau:List Str:=["tokens", "place", "rightwards", "many", "first", "behind"]
theorem Zf:FnScope Qau ["tokens", "place", "rightwards"] (Qh ZM):=Q0
noncomputable abbrev Zt:Stmt:=top 45
abbrev JF:List Str:=["tokens", "place", "rightwards", "many", "word", "sign", "at", "turned"]
theorem Qu:FnScope JF ["tokens", "place", "rightwards"] (Qh Zt):=Q0
noncomputable abbrev Qbr:Stmt:=top 46
abbrev Qg5:List Str:=["tokens", "word", "side", "blank"]
theorem Qcq:FnScope Qg5 ["tokens", "word", "side"] (Qh Qbr):=Q0
noncomputable abbrev QaL:Stmt:=top 47
abbrev QfA:List Str:=["tokens", "word", "side", "at", "place"]
theorem Qbx:FnScope QfA ["tokens", "word", "side", "at"] (Qh QaL):=Q0
noncomputable abbrev ZN:Stmt:=top 48
abbrev Qav:List Str:=["shape", "move", "side", "tokens", "put"]
theorem QW:FnScope Qav ["shape", "move"] (Qh ZN):=Q0
noncomputable abbrev J6:Stmt:=top 49
abbrev QeW:List Str:=["machine", "shape", "move"]
theorem QdX:FnScope QeW ["machine", "shape", "move"] (Qh J6):=Q0
noncomputable abbrev QfB:Stmt:=top 50
abbrev Ql3:List Str:=["machine", "shape", "move"]
theorem Qkj:FnScope Ql3 ["machine", "shape", "move"] (Qh QfB):=Q0
noncomputable abbrev QdY:Stmt:=top 52
abbrev Qkk:List Str:=["_law_script", "_law_at", "_law_cell", "_law_m"]
theorem Qa6:FnScope Qkk ["_law_script", "_law_at"] (Qh QdY):=Q0
noncomputable abbrev Qa7:Stmt:=top 53
abbrev QdZ:List Str:=["_law_found", "_law_due"]
theorem Qjd:FnScope QdZ ["_law_found", "_law_due"] (Qh Qa7):=Q0
noncomputable abbrev Qcr:Stmt:=top 54
abbrev Qje:List Str:=["_law_script", "_law_at", "_law_states", "_law_signs", "_law_table_here", "_law_k", "_law_line", "_law_j", "_law_m", "_law_entry"]
theorem Z6:FnScope Qje ["_law_script", "_law_at", "_law_states", "_law_signs"] (Qh Qcr):=Q0
noncomputable abbrev QbQ:Stmt:=top 55
abbrev Qgr:List Str:=["_law_script", "_law_at", "_law_signs", "_law_m", "_law_many", "_law_turn"]
theorem J7:FnScope Qgr ["_law_script", "_law_at", "_law_signs"] (Qh QbQ):=Q0
noncomputable abbrev Qao:Stmt:=top 56
abbrev Qdd:List Str:=["_law_script", "_law_at", "_law_signs", "_law_most", "_law_tokens_here", "_law_m", "_law_word_here", "_law_ones"]
theorem YR:FnScope Qdd ["_law_script", "_law_at", "_law_signs", "_law_most"] (Qh Qao):=Q0
noncomputable abbrev Qcs:Stmt:=top 57
abbrev Qjf:List Str:=["_law_script", "_law_at", "_law_states", "_law_signs", "_law_m", "_law_left", "_law_right"]
theorem Qap:FnScope Qjf ["_law_script", "_law_at", "_law_states", "_law_signs"] (Qh Qcs):=Q0
noncomputable abbrev Qct:Stmt:=top 58
abbrev Qjg:List Str:=["_law_tokens_here", "_law_count", "_law_cells_here", "_law_token", "_law_k"]
theorem Jl:FnScope Qjg ["_law_tokens_here", "_law_count"] (Qh Qct):=Q0
noncomputable abbrev Qd0:Stmt:=top 59
abbrev Qkl:List Str:=["_law_shape_here", "_law_count", "_law_state", "_law_facing", "_law_left", "_law_right", "_law_ahead", "_law_row", "_law_cells_here", "_law_k"]
theorem Ye:FnScope Qkl ["_law_shape_here", "_law_count"] (Qh Qd0):=Q0
noncomputable abbrev Qd1:Stmt:=top 60
abbrev Qkm:List Str:=["_law_shape_here", "_law_state", "_law_facing", "_law_left", "_law_right"]
theorem J8:FnScope Qkm ["_law_shape_here"] (Qh Qd1):=Q0
noncomputable abbrev Qjh:Stmt:=top 61
abbrev QnA:List Str:=["_law_table_here", "_law_run", "_law_entry"]
theorem Qji:FnScope QnA ["_law_table_here", "_law_run"] (Qh Qjh):=Q0
noncomputable abbrev Qaq:Stmt:=top 62
abbrev Qde:List Str:=["_law_run", "_law_shape_here", "_law_count", "_law_state", "_law_place", "_law_cells_here", "_law_by"]
theorem YS:FnScope Qde ["_law_run", "_law_shape_here", "_law_count"] (Qh Qaq):=Q0
noncomputable abbrev Qa8:Stmt:=top 63
abbrev QeX:List Str:=["_law_shape_here", "_law_moves_here", "_law_side", "_law_tokens_here", "_law_number"]
theorem YH:FnScope QeX ["_law_shape_here"] (Qh Qa8):=Q0
noncomputable abbrev Qd2:Stmt:=top 64
abbrev Qkn:List Str:=["_law_machine", "_law_shape_here", "_law_move", "_law_made"]
theorem Qa9:FnScope Qkn ["_law_machine", "_law_shape_here", "_law_move"] (Qh Qd2):=Q0
noncomputable abbrev Qbs:Stmt:=top 65
abbrev Qg6:List Str:=["_law_table_here", "_law_run", "_law_shape_here", "_law_count", "_law_state", "_law_facing", "_law_left", "_law_right", "_law_token", "_law_wide", "_law_low", "_law_steps"]
theorem Zj:FnScope Qg6 ["_law_table_here", "_law_run", "_law_shape_here", "_law_count"] (Qh Qbs):=Q0
noncomputable abbrev Qbt:Stmt:=top 66
abbrev Qg7:List Str:=["_law_table_here", "_law_shape_here", "_law_move", "_law_made", "_law_count", "_law_run"]
theorem QaM:FnScope Qg7 ["_law_table_here", "_law_shape_here", "_law_move", "_law_made"] (Qh Qbt):=Q0
noncomputable abbrev Qcu:Stmt:=top 67
abbrev Qjj:List Str:=["_law_script", "_law_at", "_law_m", "_law_states", "_law_signs", "_law_table_here", "_law_machine", "_law_shape_here", "_law_can", "_law_move", "_law_made", "_law_k"]
theorem QX:FnScope Qjj ["_law_script", "_law_at"] (Qh Qcu):=Q0
noncomputable abbrev Qko:Stmt:=top 68
abbrev QoM:List Str:=["_law_script", "_law_at", "_law_k"]
theorem Qjk:FnScope QoM ["_law_script"] (Qh Qko):=Q0
def UF(K:Frag)(mg:Str->Option Value)(x:Str)(st:Stmt):Prop:=∃f fd,Fun K x x st f fd/\mg x=some (.ref f)
theorem _root_.L2.Room.m{j k:Nat}{A:Around}(h:Room k A)(e:j<=k:=by omega):Room j A:=h.mono e
theorem Za{P:Program}{w:World}{K:Frag}{mg:Str->Option Value}{base:Heap}{ca:Nat->Addr}{x:Str}{st:Stmt}{N ps:List Str}{k n j:Nat}{m:MS}(u:UF K mg x st)(S:FnScope N ps (Qh st))(h:∀(f:Addr) (cdv:Value) (A:Around) (outer:List Env) (s:Shared) (H:Hp) (E:XK),Room k (A.deeper (envOfC x (Qh st) s.heap.objs.size f cdv))->PSs3 ca (cxOf (CXW P w ca) P w K mg base N x (Qh st) f cdv A outer s H E) (YI st) m)(hj:ps.length=j:=by rfl)(hn:N.length-ps.length=n:=by rfl)(hb:∀(kV doc pm:Value) (an:Option Addr) (cdv ct:Value) (us:List Value),us.length=ps.length->bindArgs (fnOf x x (JN st) (YI st) (Qh st) .none kV doc pm an cdv ct) ⟨us,[]⟩=pure (ps.zip us):=by intro _ _ _ _ _ _ us hl;first|(obtain⟨_,rfl⟩:=L3.len1 hl;rfl)|(obtain⟨_,_,rfl⟩:=L3.len2 hl;rfl)|(obtain⟨_,_,_,rfl⟩:=L3.len3 hl;rfl)|(obtain⟨_,_,_,_,rfl⟩:=L3.len4 hl;rfl)):FnH P w K mg base ca x (k+1) j (mDef j n m):=by
 obtain⟨f,fd,F,hm⟩:=u
 exact⟨⟨f,fd,ps,QjG F S hj hn (h f),hm,F.kp,F.binds hb⟩,Qfb _ _ _⟩
structure Zk(K:Frag)(mg:Str->Option Value)(ca:Nat->Addr):Prop where
 z_all:mg "all" = none
 z_bool:mg "bool" = none
 z_dict:mg "dict" = none
 z_int:mg "int" = none
 z_isinstance:mg "isinstance" = none
 z_len:mg "len" = none
 z_list:mg "list" = none
 z_max:mg "max" = none
 z_min:mg "min" = none
 z_range:mg "range" = none
 z_str:mg "str" = none
 z_tuple:mg "tuple" = none
 z_zip:mg "zip" = none
 g_BLANK:∃k,mg "BLANK" = some (.int 0 k)
 g_LEFT:∃k,mg "LEFT" = some (.str "l" k)
 g_MANY:∃k,mg "MANY" = some (.str "many" k)
 g_MOST_STEPS_OVER:∃k,mg "MOST_STEPS_OVER" = some (.int 1000 k)
 g_ONE:∃k,mg "ONE" = some (.str "one" k)
 g_OPEN:∃u v,mg "OPEN" = some u/\L2.RelV v u/\∀μ H,Den K μ H v (.tup [(.str "open")])
 g_OVER:∃u v,mg "OVER" = some u/\L2.RelV v u/\∀μ H,Den K μ H v (.tup [(.str "over")])
 g_RIGHT:∃k,mg "RIGHT" = some (.str "r" k)
 g_STEP:∃u v,mg "STEP" = some u/\L2.RelV v u/\∀μ H,Den K μ H v (.tup [(.str "step")])
 t_NoMove:mg "NoMove" = some (.ref (ca 8))/\CatX K ca (ca 8) [8] [0,1,7]
 e_NoMachine:RaH K mg ca 1 "NoMachine"
 e_NoMove:RaH K mg ca 8 "NoMove"
 e_NoShape:RaH K mg ca 7 "NoShape"
 a_table:FldOk K ca [11] "table"
 u0:UF K mg "is_whole" Qbk
 u1:UF K mg "is_below" Qbl
 u2:UF K mg "is_from_nought" Yv
 u3:UF K mg "is_entry" Qbn
 u4:UF K mg "check_rows" Y6
 u5:∃f fd,Fun K "__init__" "Machine.__init__" Zi f fd/\Mk K (ca 11) f/\mg "Machine" = some (.ref (ca 11))
 u6:UF K mg "states_of" QaJ
 u7:UF K mg "signs_of" Qbo
 u8:UF K mg "is_word" Qa3
 u9:UF K mg "is_token" Qbp
 u10:UF K mg "check_tokens" Yo
 u11:UF K mg "check_shape" Jz
 u12:UF K mg "raised_token" Jb
 u13:UF K mg "signs_in" Qbq
 u14:UF K mg "check_shape_of" Yw
 u15:UF K mg "with_tuples" JA
 u16:UF K mg "ones_of" Qa4
 u17:UF K mg "token_ahead" JB
 u18:UF K mg "many_ahead" JZ
 u19:UF K mg "in_place_of_ahead" ZV
 u20:UF K mg "gone_on" Qco
 u21:UF K mg "after_step" J0
 u22:UF K mg "word_behind" JD
 u23:UF K mg "after_over" J4
 u24:UF K mg "after_open" J5
 u25:UF K mg "place_of_many" YQ
 u26:UF K mg "with_ones_taken_in" ZM
 u27:UF K mg "with_one_brought_over" Zt
 u28:UF K mg "with_end" Qbr
 u29:UF K mg "with_many" QaL
 u30:UF K mg "after_put_together" ZN
 u31:UF K mg "after_move" J6
 u32:UF K mg "moved" QfB
 u33:UF K mg "_law_next" QdY
 u34:UF K mg "_law_same" Qa7
 u35:UF K mg "_law_table" Qcr
 u36:UF K mg "_law_word" QbQ
 u37:UF K mg "_law_tokens" Qao
 u38:UF K mg "_law_shape" Qcs
 u39:UF K mg "_law_cells" Qct
 u40:UF K mg "_law_laid" Qd0
 u41:UF K mg "_law_kept" Qd1
 u42:UF K mg "_law_go" Qjh
 u43:UF K mg "_law_stands" Qaq
 u44:UF K mg "_law_moves" Qa8
 u45:UF K mg "_law_told" Qd2
 u46:UF K mg "_law_passed" Qbs
 u47:UF K mg "_law_walked" Qbt
 u48:UF K mg "_law_round" Qcu
 u49:UF K mg "law" Qko
section
seal PE3 PT3 PW3 PA3 PS3 PSs3 PG3 PI3
variable{P:Program}{w:World}{K:Frag}{mg:Str->Option Value}{base:Heap}{ca:Nat->Addr}
theorem Qcv(Z:Zk K mg ca):FnH P w K mg base ca "is_whole" 1 1 Jf:=Za Z.u0 Qft λ_ _ _ _ _ _ _ hr=>(Qg (Qy (Qas (Z9 .int Z.z_isinstance Z.z_int QkD (Qa 0)) (QbZ (QmO (Z9 .bool Z.z_isinstance Z.z_bool Qh8 (Qa 0)))))))
theorem YT(Z:Zk K mg ca):FnH P w K mg base ca "is_below" 2 2 QE:=Za Z.u1 Qfu λ_ _ _ _ _ _ _ hr=>(Qg (Qy (Qas (Qm (Qcv Z) hr.m (Qc (Qa 0) Qi)) (QbZ (Qm1 Qe (Qa 0) (Qa 1))))))
theorem ZI(Z:Zk K mg ca):FnH P w K mg base ca "is_from_nought" 2 1 Qs:=Za Z.u2 Qbm λ_ _ _ _ _ _ _ hr=>(Qg (Qy (Qas (Qm (Qcv Z) hr.m (Qc (Qa 0) Qi)) (QbZ (r_ge (Qa 0) Qe)))))
theorem QfC(Z:Zk K mg ca):FnH P w K mg base ca "is_entry" 3 3 YF:=Za Z.u3 Qfv λ_ _ _ _ _ _ _ hr=>(Qd (r_if (Qfc (Qa 0) JO) (Qg (Qy r_bl)) Qp)
 (Qd (r_if (r_w (Qbc (ZW (Zl (Z9 .tuple Z.z_isinstance Z.z_tuple YY (Qa 0)))) (JG (QaG hr (Zz Z.z_len (Qa 0)) Qe)))) (Qg (Qy r_bl)) Qp)
 (Qg (Qy (Qas (Qm (YT Z) hr.m (Qc (Qf (Qa 0) Qe) (Qc (Qa 2) Qi))) (Qas (r_in (Qf (Qa 0) Qe) (Q4 (Qc (QR Z.g_LEFT) (Qc (QR Z.g_RIGHT) Qi)))) (QbZ (Qm (YT Z) hr.m (Qc (Qf (Qa 0) Qe) (Qc (Qa 1) Qi))))))))))
theorem Qd3(Z:Zk K mg ca):FnH P w K mg base ca "check_rows" 4 1 ZY:=Za Z.u4 YD λ_ _ _ _ _ _ _ hr=>(Qd (r_if (ZO hr (Zz Z.z_len (Qa 0)) Qe) (Qg (Q6 Z.e_NoMachine hr.hd (Qc QL Qi))) Qp)
 (Qd (Qq 1 YD.nd (Zz Z.z_len (Qa 0)))
 (Qd (Qq 2 YD.nd (Zz Z.z_len (Qf (Qa 0) Qe)))
 (Qd (r_if (ZO hr (Qa 2) Qe) (Qg (Q6 Z.e_NoMachine hr.hd (Qc QL Qi))) Qp)
 (Qg (QaF rfl (Z8 (Qa 0)) (QJ 3 YD.nd) (Qd (r_if (QaG hr (Zz Z.z_len (Qa 3)) (Qa 2)) (Qg (Q6 Z.e_NoMachine hr.hd (Qc QL Qi))) Qp)
 (Qg (r_if (ZW (Zl (QgL rfl Z.z_all (Qaw (ZA (Nb:=["thing", "states", "signs"]) (no:=1) (cap:=[1,2]) (N:=Qbw) (sc:=Qh Y6) rfl rfl (by decide +kernel)) rfl (Z8 (Qa 3)) (λcl C s3 H3 ex=>⟨(QJ 0 (show List.Nodup (["thing", "states", "signs"]:List Str) by decide +kernel)),QcF,(Qm (QfC Z) hr.m (Qc (Qa 0) (Qc (Qa 1) (Qc (Qa 2) Qi))))⟩))))) (Qg (Q6 Z.e_NoMachine hr.hd (Qc QL Qi))) Qp)))))))))
theorem Qcw(Z:Zk K mg ca):MkH P w K mg base ca 11 "Machine" 5 2 ZP:=by
 obtain⟨f,fd,F,hm⟩:=Z.u5
 exact⟨⟨f,fd,["self", "table"],QjG F JY rfl rfl (λcdv A outer s H E hr=>(Qd (Qq 2 JY.nd (Jq Z.z_tuple (Qaw (ZA (Nb:=["row"]) (no:=1) (cap:=[]) (N:=QaA) (sc:=Qh Zi) rfl rfl (by decide +kernel)) rfl (Z8 (Qa 1)) (λcl C s3 H3 ex=>⟨(QJ 0 (show List.Nodup (["row"]:List Str) by decide +kernel)),QcF,(Jq Z.z_tuple (Qa 0))⟩))))
 (Qd (YV (Qm (Qd3 Z) hr.m (Qc (Qa 2) Qi)))
 (Qg (QhL (Qa 0) (Qa 2) Z.a_table))))),hm.1,hm.2,F.binds (ps:=["self", "table"]) (λ_ _ _ _ _ _ us hl=>by obtain⟨_,_,rfl⟩:=L3.len2 hl;rfl)⟩,Qfb _ _ _⟩
theorem QeY(Z:Zk K mg ca):FnH P w K mg base ca "states_of" 1 1 Jr:=Za Z.u6 QeP λ_ _ _ _ _ _ _ hr=>(Qg (Qy (Zz Z.z_len (QfY (Qa 0) Z.a_table))))
theorem QfD(Z:Zk K mg ca):FnH P w K mg base ca "signs_of" 1 1 Qae:=Za Z.u7 Qfx λ_ _ _ _ _ _ _ hr=>(Qg (Qy (Zz Z.z_len (Qf (QfY (Qa 0) Z.a_table) Qe))))
theorem Qg8(Z:Zk K mg ca):FnH P w K mg base ca "is_word" 3 1 Jg:=Za Z.u8 Qg1 λ_ _ _ _ _ _ _ hr=>(Qg (Qy (Qas (Z9 .tuple Z.z_isinstance Z.z_tuple YY (Qa 0)) (Qas (r_gt (Zz Z.z_len (Qa 0)) Qe) (QbZ (QgL rfl Z.z_all (Qaw (ZA (Nb:=["sign"]) (no:=1) (cap:=[]) (N:=QeQ) (sc:=Qh Qa3) rfl rfl (by decide +kernel)) rfl (Z8 (Qa 0)) (λcl C s3 H3 ex=>⟨(QJ 0 (show List.Nodup (["sign"]:List Str) by decide +kernel)),QcF,(Qm (ZI Z) hr.m (Qc (Qa 0) Qi))⟩))))))))
theorem QfE(Z:Zk K mg ca):FnH P w K mg base ca "is_token" 4 1 Yi:=Za Z.u9 Qfy λ_ _ _ _ _ _ _ hr=>(Qd (r_if (ZW (Zl (Z9 .tuple Z.z_isinstance Z.z_tuple YY (Qa 0)))) (Qg (Qy r_bl)) Qp)
 (Qd (r_if (ZO hr (Zz Z.z_len (Qa 0)) Qe) (Qg (Qy (Qas (r_eq hr (Qf (Qa 0) Qe) (QR Z.g_ONE)) (QbZ (Qm (ZI Z) hr.m (Qc (Qf (Qa 0) Qe) Qi)))))) Qp)
 (Qg (Qy (Qas (r_eq hr (Zz Z.z_len (Qa 0)) Qe) (Qas (r_eq hr (Qf (Qa 0) Qe) (QR Z.g_MANY)) (Qas (Qm (Qg8 Z) hr.m (Qc (Qf (Qa 0) Qe) Qi)) (QbZ (Qm (ZI Z) hr.m (Qc (Qf (Qa 0) Qe) Qi))))))))))
theorem J9(Z:Zk K mg ca):FnH P w K mg base ca "check_tokens" 5 1 QH:=Za Z.u10 Qcm λ_ _ _ _ _ _ _ hr=>(Qg (r_if (r_w (Qbc (ZW (Zl (QlC Z.z_isinstance Z.z_list Z.z_tuple (Qa 0)))) (JG (ZW (Zl (QgL rfl Z.z_all (Qaw (ZA (Nb:=["thing"]) (no:=1) (cap:=[]) (N:=QaB) (sc:=Qh Yo) rfl rfl (by decide +kernel)) rfl (Z8 (Qa 0)) (λcl C s3 H3 ex=>⟨(QJ 0 (show List.Nodup (["thing"]:List Str) by decide +kernel)),QcF,(Qm (QfE Z) hr.m (Qc (Qa 0) Qi))⟩)))))))) (Qg (Q6 Z.e_NoShape hr.hd (Qc QL Qi))) Qp))
theorem QcO(Z:Zk K mg ca):FnH P w K mg base ca "check_shape" 6 1 Ya:=Za Z.u11 QcL λ_ _ _ _ _ _ _ hr=>(Qd (r_if (r_w (Qbc (ZW (Zl (Z9 .tuple Z.z_isinstance Z.z_tuple YY (Qa 0)))) (JG (QaG hr (Zz Z.z_len (Qa 0)) Qe)))) (Qg (Q6 Z.e_NoShape hr.hd (Qc QL Qi))) Qp)
 (Qd (r_if (ZW (Zl (Qm (ZI Z) hr.m (Qc (Qf (Qa 0) Qe) Qi)))) (Qg (Q6 Z.e_NoShape hr.hd (Qc QL Qi))) Qp)
 (Qd (r_if (Qdx (Qf (Qa 0) Qe) (Q4 (Qc (QR Z.g_LEFT) (Qc (QR Z.g_RIGHT) Qi)))) (Qg (Q6 Z.e_NoShape hr.hd (Qc QL Qi))) Qp)
 (Qd (YV (Qm (J9 Z) hr.m (Qc (Qf (Qa 0) Qe) Qi)))
 (Qg (YV (Qm (J9 Z) hr.m (Qc (Qf (Qa 0) Qe) Qi))))))))
theorem Qcx(Z:Zk K mg ca):FnH P w K mg base ca "raised_token" 1 1 Yl:=Za Z.u12 Qcn λ_ _ _ _ _ _ _ hr=>(Qg (Qy (JP (ZO hr (Qf (Qa 0) Qe) (QR Z.g_ONE)) (Qa 0) (Q4 (Qc (QR Z.g_MANY) (Qc (Qf (Qa 0) Qe) (Qc (Zd (Qf (Qa 0) Qe) Qe) Qi)))))))
theorem QfF(Z:Zk K mg ca):FnH P w K mg base ca "signs_in" 1 1 YG:=Za Z.u13 Qfz λ_ _ _ _ _ _ _ hr=>(Qg (Qy (JP (ZO hr (Qf (Qa 0) Qe) (QR Z.g_ONE)) (Q4 (Qc (Qf (Qa 0) Qe) Qi)) (Qf (Qa 0) Qe))))
theorem Qbu(Z:Zk K mg ca):FnH P w K mg base ca "check_shape_of" 7 2 QY:=Za Z.u14 ZH λ_ _ _ _ _ _ _ hr=>(Qd (YV (Qm (QcO Z) hr.m (Qc (Qa 1) Qi)))
 (Qd (r_if (QmW (Qf (Qa 1) Qe) (Qm (QeY Z) hr.m (Qc (Qa 0) Qi))) (Qg (Q6 Z.e_NoShape hr.hd (Qc QL Qi))) Qp)
 (Qd (Qq 2 ZH.nd (Qm (QfD Z) hr.m (Qc (Qa 0) Qi)))
 (Qg (QaF rfl (Z8 (QU (Qa 1) (Zn Qe) QI)) (QJ 3 ZH.nd) (Qg (QaF rfl (Z8 (Qa 3)) (QJ 4 ZH.nd) (Qg (r_if (QmW (Qna rfl Z.z_max (Qm (QfF Z) hr.m (Qc (Qa 4) Qi))) (Qa 2)) (Qg (Q6 Z.e_NoShape hr.hd (Qc QL Qi))) Qp)))))))))
theorem QcP(Z:Zk K mg ca):FnH P w K mg base ca "with_tuples" 1 1 Yz:=Za Z.u15 QcN λ_ _ _ _ _ _ _ hr=>(Qg (Qy (Q4 (Qc (Qf (Qa 0) Qe) (Qc (Qf (Qa 0) Qe) (Qc (Jq Z.z_tuple (Qf (Qa 0) Qe)) (Qc (Jq Z.z_tuple (Qf (Qa 0) Qe)) Qi)))))))
theorem Qdf(Z:Zk K mg ca):FnH P w K mg base ca "ones_of" 1 1 QaU:=Za Z.u16 Qg4 λ_ _ _ _ _ _ _ hr=>(Qg (Qy (Jq Z.z_tuple (Qaw (ZA (Nb:=["sign"]) (no:=1) (cap:=[]) (N:=QeR) (sc:=Qh Qa4) rfl rfl (by decide +kernel)) rfl (Z8 (Qa 0)) (λcl C s3 H3 ex=>⟨(QJ 0 (show List.Nodup (["sign"]:List Str) by decide +kernel)),QcF,(Q4 (Qc (QR Z.g_ONE) (Qc (Qa 0) Qi)))⟩)))))
theorem QaD(Z:Zk K mg ca):FnH P w K mg base ca "token_ahead" 1 1 ZF:=Za Z.u17 QaC λ_ _ _ _ _ _ _ hr=>(Qd (Qq 1 QaC.nd (JP (ZO hr (Qf (Qa 0) Qe) (QR Z.g_RIGHT)) (QU (Qf (Qa 0) Qe) QI (Zn Qe)) (QU (Qf (Qa 0) Qe) (Zn (Qbz Qe)) QI)))
 (Qg (Qy (JP (QjM (Zz Z.z_len (Qa 1)) Qe) (Qf (Qa 1) Qe) JO))))
theorem Qba(Z:Zk K mg ca):FnH P w K mg base ca "many_ahead" 2 1 ZZ:=Za Z.u18 Qa5 λ_ _ _ _ _ _ _ hr=>(Qd (Qq 1 Qa5.nd (Qm (QaD Z) hr.m (Qc (Qa 0) Qi)))
 (Qd (r_if (r_w (Qbc (Qfc (Qa 1) JO) (JG (QaG hr (Qf (Qa 1) Qe) (QR Z.g_MANY))))) (Qg (Q6 Z.e_NoMove hr.hd (Qc QL Qi))) Qp)
 (Qg (Qy (Qa 1)))))
theorem Yy(Z:Zk K mg ca):FnH P w K mg base ca "in_place_of_ahead" 1 2 QT:=Za Z.u19 Qat λ_ _ _ _ _ _ _ hr=>(Qd (r_if (ZO hr (Qf (Qa 0) Qe) (QR Z.g_RIGHT)) (Qg (Qy (Q4 (Qc (Qf (Qa 0) Qe) (Qc (QR Z.g_RIGHT) (Qc (Qf (Qa 0) Qe) (Qc (Zd (Qa 1) (QU (Qf (Qa 0) Qe) (Zn Qe) QI)) Qi))))))) Qp)
 (Qg (Qy (Q4 (Qc (Qf (Qa 0) Qe) (Qc (QR Z.g_LEFT) (Qc (Zd (QU (Qf (Qa 0) Qe) QI (Zn (Qbz Qe))) (Qa 1)) (Qc (Qf (Qa 0) Qe) Qi))))))))
theorem Qdg(Z:Zk K mg ca):FnH P w K mg base ca "gone_on" 2 4 JU:=Za Z.u20 Qdc λ_ _ _ _ _ _ _ hr=>(Qd (Qq 4 Qdc.nd (Qm (Yy Z) hr.m (Qc (Qa 0) (Qc (Q4 Qi) Qi))))
 (Qd (r_if (ZO hr (Qa 2) (QR Z.g_RIGHT)) (Qg (Qy (Q4 (Qc (Qa 1) (Qc (Qa 2) (Qc (Zd (Qf (Qa 4) Qe) (Q4 (Qc (Qa 3) Qi))) (Qc (Qf (Qa 4) Qe) Qi))))))) Qp)
 (Qg (Qy (Q4 (Qc (Qa 1) (Qc (Qa 2) (Qc (Qf (Qa 4) Qe) (Qc (Zd (Q4 (Qc (Qa 3) Qi)) (Qf (Qa 4) Qe)) Qi)))))))))
theorem Qd4(Z:Zk K mg ca):FnH P w K mg base ca "after_step" 3 2 Z0:=Za Z.u21 JC λ_ _ _ _ _ _ _ hr=>(Qd (Qq 2 JC.nd (Qm (QaD Z) hr.m (Qc (Qa 1) Qi)))
 (Qd (r_if (r_w (QcW (Qds (Qa 2) JO) (Qbb (ZO hr (Qf (Qa 2) Qe) (QR Z.g_MANY))))) (Qg (Q6 Z.e_NoMove hr.hd (Qc QL Qi))) Qp)
 (Qd (Qq 3 JC.nd (Qf (Qf (QfY (Qa 0) Z.a_table) (Qf (Qa 1) Qe)) (JP (Qfc (Qa 2) JO) (Qh7 Z.g_BLANK) (Qf (Qa 2) Qe))))
 (Qd (r_if (Qfc (Qa 3) JO) (Qg (Q6 Z.e_NoMove hr.hd (Qc QL Qi))) Qp)
 (Qg (Qy (Qm (Qdg Z) hr.m (Qc (Qa 1) (Qc (Qf (Qa 3) Qe) (Qc (Qf (Qa 3) Qe) (Qc (Q4 (Qc (QR Z.g_ONE) (Qc (Qf (Qa 3) Qe) Qi))) Qi)))))))))))
theorem QcQ(Z:Zk K mg ca):FnH P w K mg base ca "word_behind" 3 4 Ju:=Za Z.u22 Q2 λ_ _ _ _ _ _ _ hr=>(Qd (Qq 4 Q2.nd (QhX Z.z_list (Qa 3)))
 (Qd (Qq 5 Q2.nd (JP (ZO hr (Qa 2) (QR Z.g_RIGHT)) Qe (Qdp (Zz Z.z_len (Qa 4)) Qe)))
 (Qd (Qq 6 Q2.nd (Qa 1))
 (Qd (QaF rfl (Yk Z.z_range (Qh7 Z.g_MOST_STEPS_OVER)) (QJ 7 Q2.nd) (Qd (Qq 8 Q2.nd (Qf (Qf (QfY (Qa 0) Z.a_table) (Qa 6)) (Qf (Qa 4) (Qa 5))))
 (Qd (r_if (Qfc (Qa 8) JO) (Qg (Qy JO)) Qp)
 (Qd (Qdn (Qa 4) (Qa 5) (Qf (Qa 8) Qe))
 (Qd (Qq 5 Q2.nd (JP (ZO hr (Qf (Qa 8) Qe) (QR Z.g_RIGHT)) (Zd (Qa 5) Qe) (Qdp (Qa 5) Qe)))
 (Qd (Qq 6 Q2.nd (Qf (Qa 8) Qe))
 (Qg (r_if (ZW (Zl (Qm (YT Z) hr.m (Qc (Qa 5) (Qc (Zz Z.z_len (Qa 4)) Qi))))) (Qg (Qy (JP (r_w (QcW (ZO hr (Qf (Qa 8) Qe) (Qa 2)) (Qbb (ZO hr (Qa 6) (Qa 1))))) (Jq Z.z_tuple (Qa 4)) JO))) Qp))))))))
 (Qg (Qy JO))))))
theorem Qd5(Z:Zk K mg ca):FnH P w K mg base ca "after_over" 4 2 Z1:=Za Z.u23 JE λ_ _ _ _ _ _ _ hr=>(Qd (Qq 2 JE.nd (Qm (Qba Z) hr.m (Qc (Qa 1) Qi)))
 (Qd (Qq 3 JE.nd (Qm (QcQ Z) hr.m (Qc (Qa 0) (Qc (Qf (Qa 1) Qe) (Qc (Qf (Qa 1) Qe) (Qc (Qf (Qa 2) Qe) Qi))))))
 (Qd (r_if (Qfc (Qa 3) JO) (Qg (Q6 Z.e_NoMove hr.hd (Qc QL Qi))) Qp)
 (Qg (Qy (Qm (Qdg Z) hr.m (Qc (Qa 1) (Qc (Qf (Qa 1) Qe) (Qc (Qf (Qa 1) Qe) (Qc (Q4 (Qc (QR Z.g_MANY) (Qc (Qa 3) (Qc (Qf (Qa 2) Qe) Qi)))) Qi))))))))))
theorem Qd6(Z:Zk K mg ca):FnH P w K mg base ca "after_open" 3 1 Zr:=Za Z.u24 YE λ_ _ _ _ _ _ _ hr=>(Qd (Qq 1 YE.nd (Qm (Qba Z) hr.m (Qc (Qa 0) Qi)))
 (Qd (r_if (QgH (Qf (Qa 1) Qe) Qe) (Qg (Q6 Z.e_NoMove hr.hd (Qc QL Qi))) Qp)
 (Qd (Qq 2 YE.nd (Q4 (Qc (Q4 (Qc (QR Z.g_MANY) (Qc (Qf (Qa 1) Qe) (Qc (Qdp (Qf (Qa 1) Qe) Qe) Qi)))) Qi)))
 (Qd (Qq 3 YE.nd (Qm (Qdf Z) hr.m (Qc (Qf (Qa 1) Qe) Qi)))
 (Qg (Qy (Qm (Yy Z) hr.m (Qc (Qa 0) (Qc (JP (ZO hr (Qf (Qa 0) Qe) (QR Z.g_RIGHT)) (Zd (Qa 3) (Qa 2)) (Zd (Qa 2) (Qa 3))) Qi)))))))))
theorem QbD(Z:Zk K mg ca):FnH P w K mg base ca "place_of_many" 3 3 QP:=Za Z.u25 JJ λ_ _ _ _ _ _ _ hr=>(Qd (r_if (ZW (Zl (Qm (YT Z) hr.m (Qc (Qa 2) (Qc (Zz Z.z_len (Qa 0)) Qi))))) (Qg (Q6 Z.e_NoMove hr.hd (Qc QL Qi))) Qp)
 (Qd (Qq 3 JJ.nd (JP (ZO hr (Qa 1) (QR Z.g_LEFT)) (Qa 2) (Qdp (Qdp (Zz Z.z_len (Qa 0)) Qe) (Qa 2))))
 (Qd (r_if (QaG hr (Qf (Qf (Qa 0) (Qa 3)) Qe) (QR Z.g_MANY)) (Qg (Q6 Z.e_NoMove hr.hd (Qc QL Qi))) Qp)
 (Qg (Qy (Qa 3))))))
theorem Qaa(Z:Zk K mg ca):FnH P w K mg base ca "with_ones_taken_in" 2 3 Qz:=Za Z.u26 Zf λ_ _ _ _ _ _ _ hr=>(Qd (Qq 3 Zf.nd (Qf (Qa 0) (Qa 1)))
 (Qd (Qq 4 Zf.nd (JP (Zl (Qa 2)) (Zd (Qa 1) Qe) (Qdp (Qa 1) (Zz Z.z_len (Qf (Qa 3) Qe)))))
 (Qd (Qq 5 Zf.nd (Zd (Qa 4) (Zz Z.z_len (Qf (Qa 3) Qe))))
 (Qd (r_if (r_w (Qbc (QgH (Qa 4) Qe) (JG (QaG hr (QU (Qa 0) (Zn (Qa 4)) (Zn (Qa 5))) (Qm (Qdf Z) hr.m (Qc (Qf (Qa 3) Qe) Qi)))))) (Qg (Q6 Z.e_NoMove hr.hd (Qc QL Qi))) Qp)
 (Qg (Qy (Zd (Zd (QU (Qa 0) QI (Zn (Qnf rfl Z.z_min (Qa 4) (Qa 1)))) (Q4 (Qc (Qm (Qcx Z) hr.m (Qc (Qa 3) Qi)) Qi))) (QU (Qa 0) (Zn (Qng rfl Z.z_max (Qa 5) (Zd (Qa 1) Qe))) QI))))))))
theorem Jm(Z:Zk K mg ca):FnH P w K mg base ca "with_one_brought_over" 3 3 Qo:=Za Z.u27 Qu λ_ _ _ _ _ _ _ hr=>(Qd (Qq 3 Qu.nd (Qf (Qa 0) (Qa 1)))
 (Qd (Qq 4 Qu.nd (Qf (Qa 3) Qe))
 (Qd (Qq 5 Qu.nd (JP (Zl (Qa 2)) (Qf (Qa 4) (Qbz Qe)) (Qf (Qa 4) Qe)))
 (Qd (Qq 6 Qu.nd (JP (Zl (Qa 2)) (Qdp (Qa 1) Qe) (Zd (Qa 1) Qe)))
 (Qd (r_if (r_w (Qbc (ZW (Zl (Qm (YT Z) hr.m (Qc (Qa 6) (Qc (Zz Z.z_len (Qa 0)) Qi))))) (JG (QaG hr (Qf (Qa 0) (Qa 6)) (Q4 (Qc (QR Z.g_ONE) (Qc (Qa 5) Qi))))))) (Qg (Q6 Z.e_NoMove hr.hd (Qc QL Qi))) Qp)
 (Qd (r_if (Zl (Qa 2)) (Qd (Qq 7 Qu.nd (Q4 (Qc (QR Z.g_MANY) (Qc (Zd (Q4 (Qc (Qa 5) Qi)) (QU (Qa 4) QI (Zn (Qbz Qe)))) (Qc (Qf (Qa 3) Qe) Qi)))))
 (Qg (Qy (Zd (Zd (QU (Qa 0) QI (Zn (Qa 6))) (Q4 (Qc (Qa 7) (Qc (Qf (Qa 0) (Qa 6)) Qi)))) (QU (Qa 0) (Zn (Zd (Qa 1) Qe)) QI))))) Qp)
 (Qd (Qq 7 Qu.nd (Q4 (Qc (QR Z.g_MANY) (Qc (Zd (QU (Qa 4) (Zn Qe) QI) (Q4 (Qc (Qa 5) Qi))) (Qc (Qf (Qa 3) Qe) Qi)))))
 (Qg (Qy (Zd (Zd (QU (Qa 0) QI (Zn (Qa 1))) (Q4 (Qc (Qf (Qa 0) (Qa 6)) (Qc (Qa 7) Qi)))) (QU (Qa 0) (Zn (Zd (Qa 6) Qe)) QI)))))))))))
theorem QfG(Z:Zk K mg ca):FnH P w K mg base ca "with_end" 1 3 ZG:=Za Z.u28 Qcq λ_ _ _ _ _ _ _ hr=>(Qd (Qq 3 Qcq.nd (Q4 (Qc (Q4 (Qc (QR Z.g_ONE) (Qc (Qh7 Z.g_BLANK) Qi))) Qi)))
 (Qd (r_if (ZO hr (Qa 1) QL) (Qg (Qy (JP (ZO hr (Qa 2) (QR Z.g_LEFT)) (Zd (Qa 3) (Qa 0)) (Zd (Qa 0) (Qa 3))))) Qp)
 (Qd (r_if (QaG hr (Qa 1) QL) (Qg (Q6 Z.e_NoMove hr.hd (Qc QL Qi))) Qp)
 (Qd (r_if (QaG hr (JP (ZO hr (Qa 2) (QR Z.g_LEFT)) (QU (Qa 0) QI (Zn Qe)) (QU (Qa 0) (Zn (Qbz Qe)) QI)) (Qa 3)) (Qg (Q6 Z.e_NoMove hr.hd (Qc QL Qi))) Qp)
 (Qg (Qy (JP (ZO hr (Qa 2) (QR Z.g_LEFT)) (QU (Qa 0) (Zn Qe) QI) (QU (Qa 0) QI (Zn (Qbz Qe))))))))))
theorem QeZ(Z:Zk K mg ca):FnH P w K mg base ca "with_many" 4 4 ZB:=Za Z.u29 Qbx λ_ _ _ _ _ _ _ hr=>(Qd (Qq 4 Qbx.nd (Qm (QbD Z) hr.m (Qc (Qa 0) (Qc (Qa 2) (Qc (Qa 3) Qi)))))
 (Qd (r_if (Qm3 (Qa 1) (Q4 (Qc QL (Qc QL Qi)))) (Qg (Qy (Qm (Qaa Z) hr.m (Qc (Qa 0) (Qc (Qa 4) (Qc (r_eq hr (r_eq hr (Qa 1) QL) (r_eq hr (Qa 2) (QR Z.g_LEFT))) Qi)))))) Qp)
 (Qd (r_if (Qm3 (Qa 1) (Q4 (Qc QL (Qc QL Qi)))) (Qg (Qy (Qm (Jm Z) hr.m (Qc (Qa 0) (Qc (Qa 4) (Qc (r_eq hr (r_eq hr (Qa 1) QL) (r_eq hr (Qa 2) (QR Z.g_LEFT))) Qi)))))) Qp)
 (Qg (Q6 Z.e_NoMove hr.hd (Qc QL Qi))))))
theorem Qab(Z:Zk K mg ca):FnH P w K mg base ca "after_put_together" 5 2 Zm:=Za Z.u30 QW λ_ _ _ _ _ _ _ hr=>(Qd (r_if (r_w (Qbc (ZW (Zl (Z9 .tuple Z.z_isinstance Z.z_tuple YY (Qa 1)))) (Qbc (Qdx (Zz Z.z_len (Qa 1)) (Q4 (Qc Qe (Qc Qe Qi)))) (JG (Qdx (Qf (Qa 1) Qe) (Q4 (Qc (QR Z.g_LEFT) (Qc (QR Z.g_RIGHT) Qi)))))))) (Qg (Q6 Z.e_NoMove hr.hd (Qc QL Qi))) Qp)
 (Qd (Qq 2 QW.nd (Qf (Qa 1) Qe))
 (Qd (Qq 3 QW.nd (JP (ZO hr (Qa 2) (QR Z.g_LEFT)) (Qf (Qa 0) Qe) (Qf (Qa 0) Qe)))
 (Qd (r_if (ZO hr (Zz Z.z_len (Qa 1)) Qe) (Qg (Qq 4 QW.nd (Qm (QfG Z) hr.m (Qc (Qa 3) (Qc (Qf (Qa 1) Qe) (Qc (Qa 2) Qi)))))) (Qg (Qq 4 QW.nd (Qm (QeZ Z) hr.m (Qc (Qa 3) (Qc (Qf (Qa 1) Qe) (Qc (Qa 2) (Qc (Qf (Qa 1) Qe) Qi))))))))
 (Qd (r_if (ZO hr (Qa 2) (QR Z.g_LEFT)) (Qg (Qy (Q4 (Qc (Qf (Qa 0) Qe) (Qc (Qf (Qa 0) Qe) (Qc (Qa 4) (Qc (Qf (Qa 0) Qe) Qi))))))) Qp)
 (Qg (Qy (Q4 (Qc (Qf (Qa 0) Qe) (Qc (Qf (Qa 0) Qe) (Qc (Qf (Qa 0) Qe) (Qc (Qa 4) Qi))))))))))))
theorem Qd7(Z:Zk K mg ca):FnH P w K mg base ca "after_move" 6 3 QV:=Za Z.u31 QdX λ_ _ _ _ _ _ _ hr=>(Qd (r_if (ZO hr (Qa 2) (Qfi Z.g_STEP)) (Qg (Qy (Qm (Qd4 Z) hr.m (Qc (Qa 0) (Qc (Qa 1) Qi))))) Qp)
 (Qd (r_if (ZO hr (Qa 2) (Qfi Z.g_OVER)) (Qg (Qy (Qm (Qd5 Z) hr.m (Qc (Qa 0) (Qc (Qa 1) Qi))))) Qp)
 (Qd (r_if (ZO hr (Qa 2) (Qfi Z.g_OPEN)) (Qg (Qy (Qm (Qd6 Z) hr.m (Qc (Qa 1) Qi)))) Qp)
 (Qg (Qy (Qm (Qab Z) hr.m (Qc (Qa 1) (Qc (Qa 2) Qi))))))))
theorem Qkp(Z:Zk K mg ca):FnH P w K mg base ca "moved" 8 3 Qdz:=Za Z.u32 Qkj λ_ _ _ _ _ _ _ hr=>(Qd (YV (Qm (Qbu Z) hr.m (Qc (Qa 0) (Qc (Qa 1) Qi))))
 (Qg (Qy (Qm (Qd7 Z) hr.m (Qc (Qa 0) (Qc (Qm (QcP Z) hr.m (Qc (Qa 1) Qi)) (Qc (Qa 2) Qi)))))))
theorem YU(Z:Zk K mg ca):FnH P w K mg base ca "_law_next" 1 2 ZR:=Za Z.u33 Qa6 λ_ _ _ _ _ _ _ hr=>(Qd (Qdn (Qa 1) Qe (Zd (Qf (Qa 1) Qe) Qe))
 (Qd (Qq 2 Qa6.nd Qe)
 (Qd (r_if (QjM (Zz Z.z_len (Qa 0)) Qe) (Qg (Qq 2 Qa6.nd (Qf (Qa 0) (Yh (Qf (Qa 1) Qe) (Zz Z.z_len (Qa 0)))))) Qp)
 (Qd (Qq 3 Qa6.nd (Yh (QcG (Zd (Zd (Yh (Qa 2) Qe) (QcG (QcG (Qf (Qa 1) Qe) (Qf (Qa 1) Qe)) Qe)) Qe) Qe) Qe))
 (Qg (Qy (Yh (QcG (Qa 3) (Qa 3)) Qe)))))))
theorem Qe0(Z:Zk K mg ca):∀n:Nat,FnH P w K mg base ca "_law_same" (1+n) 2 (Ym n)
 |0=>by
  obtain⟨f,fd,F,hm⟩:=Z.u34
  exact⟨⟨f,fd,["_law_found", "_law_due"],Qlw rfl,hm,F.kp,F.binds (ps:=["_law_found", "_law_due"]) (λ_ _ _ _ _ _ us hl=>by obtain⟨_,_,rfl⟩:=L3.len2 hl;rfl)⟩,λ_ _ _=>rfl⟩
 |n+1=>by
  have ih:=Qe0 Z n
  obtain⟨f,fd,F,hm⟩:=Z.u34
  exact⟨⟨f,fd,["_law_found", "_law_due"],QjG F Qjd rfl rfl (λcdv A outer s H E hr=>(Qd (r_if (Zl (Z9 .dict Z.z_isinstance Z.z_dict Qh9 (Qa 1))) (Qd (r_if (r_w (Qbc (ZW (Zl (Z9 .dict Z.z_isinstance Z.z_dict Qh9 (Qa 0)))) (JG (QaG hr (Zz Z.z_len (Qa 0)) (Zz Z.z_len (Qa 1)))))) (Qg (Qy r_bl)) Qp)
 (Qg (Qy (QgL rfl Z.z_all (Qaw (ZA (Nb:=["_law_name", "_law_found", "_law_due"]) (no:=1) (cap:=[0,1]) (N:=QdZ) (sc:=Qh Qa7) rfl rfl (by decide +kernel)) rfl (Z8 (Qa 1)) (λcl C s3 H3 ex=>⟨(QJ 0 (show List.Nodup (["_law_name", "_law_found", "_law_due"]:List Str) by decide +kernel)),QcF,(Qas (r_in (Qa 0) (Qa 1)) (QbZ (Qm ih hr (Qc (Qf (Qa 1) (Qa 0)) (Qc (Qf (Qa 2) (Qa 0)) Qi)))))⟩)))))) Qp)
 (Qd (r_if (r_w (Qbc (Zl (Z9 .list Z.z_isinstance Z.z_list Qfe (Qa 1))) (JG (Zl (Z9 .tuple Z.z_isinstance Z.z_tuple YY (Qa 1)))))) (Qd (r_if (r_w (Qbc (QaG hr (Z9 .list Z.z_isinstance Z.z_list Qfe (Qa 0)) (Z9 .list Z.z_isinstance Z.z_list Qfe (Qa 1))) (JG (QaG hr (Z9 .tuple Z.z_isinstance Z.z_tuple YY (Qa 0)) (Z9 .tuple Z.z_isinstance Z.z_tuple YY (Qa 1)))))) (Qg (Qy r_bl)) Qp)
 (Qg (Qy (Qas (r_eq hr (Zz Z.z_len (Qa 0)) (Zz Z.z_len (Qa 1))) (QbZ (QgL rfl Z.z_all (Qaw (ZA (Nb:=["_law_one", "_law_other"]) (no:=2) (cap:=[]) (N:=QdZ) (sc:=Qh Qa7) rfl rfl (by decide +kernel)) rfl (Qn4 Z.z_zip (Qa 0) (Qa 1)) (λcl C s3 H3 ex=>⟨(Qer rfl (Zy (QJ 0 (show List.Nodup (["_law_one", "_law_other"]:List Str) by decide +kernel)) (Zy (QJ 1 (show List.Nodup (["_law_one", "_law_other"]:List Str) by decide +kernel)) Qep))),QcF,(Qm ih hr (Qc (Qa 0) (Qc (Qa 1) Qi)))⟩)))))))) Qp)
 (Qd (r_if (Zl (Z9 .str Z.z_isinstance Z.z_str QkE (Qa 1))) (Qg (Qy (Qas (Z9 .str Z.z_isinstance Z.z_str QkE (Qa 0)) (QbZ (r_eq hr (Qa 0) (Qa 1)))))) Qp)
 (Qg (Qy (Qas (Z9 .int Z.z_isinstance Z.z_int QkD (Qa 0)) (Qas (QmO (Z9 .bool Z.z_isinstance Z.z_bool Qh8 (Qa 0))) (QbZ (r_eq hr (Qa 0) (Qa 1))))))))))),hm,F.kp,F.binds (ps:=["_law_found", "_law_due"]) (λ_ _ _ _ _ _ us hl=>by obtain⟨_,_,rfl⟩:=L3.len2 hl;rfl)⟩,Qfb _ _ _⟩
theorem Qg9(Z:Zk K mg ca):FnH P w K mg base ca "_law_table" 2 4 Qb8:=Za Z.u35 Z6 λ_ _ _ _ _ _ _ hr=>(Qd (Qq 4 Z6.nd (Jp Qi))
 (Qd (QaF rfl (Yk Z.z_range (Qa 2)) (QJ 5 Z6.nd) (Qd (Qq 6 Z6.nd (Jp Qi))
 (Qd (QaF rfl (Yk Z.z_range (Qa 3)) (QJ 7 Z6.nd) (Qd (Qq 8 Z6.nd (Qm (YU Z) hr.m (Qc (Qa 0) (Qc (Qa 1) Qi))))
 (Qd (Qq 9 Z6.nd (Q4 (Qc (Yh (Yp (Qa 8) Qe) (Qa 3)) (Qc (Qf QL (Yh (Yp (Qa 8) Qe) Qe)) (Qc (Yh (Yp (Qa 8) Qe) (Qa 2)) Qi)))))
 (Qd (r_if (ZO hr (Yh (Qa 8) Qe) Qe) (Qg (Qq 9 Z6.nd JO)) Qp)
 (Qg (YV (Qad (Qa 6) (Qa 9))))))))
 (Qg (YV (Qad (Qa 4) (Qa 6)))))))
 (Qg (Qy (Qa 4)))))
theorem Qjl(Z:Zk K mg ca):FnH P w K mg base ca "_law_word" 2 3 QdC:=Za Z.u36 J7 λ_ _ _ _ _ _ _ hr=>(Qd (Qq 3 J7.nd (Qm (YU Z) hr.m (Qc (Qa 0) (Qc (Qa 1) Qi))))
 (Qd (Qq 4 J7.nd (Qf (Jp (Qc Qe (Qc Qe (Qc Qe (Qc Qe (Qc Qe (Qc Qe (Qc (Zd Qe (Yh (Yp (Qa 3) Qe) Qe)) (Qc Qe Qi))))))))) (Yh (Qa 3) Qe)))
 (Qd (r_if (r_w (QcW (ZO hr (Qa 4) Qe) (Qbb (QjM (Yh (Yp (Qa 3) Qe) Qe) Qe)))) (Qg (Qq 4 J7.nd Qe)) Qp)
 (Qd (Qq 5 J7.nd (Qm (YU Z) hr.m (Qc (Qa 0) (Qc (Qa 1) Qi))))
 (Qg (Qy (Jq Z.z_tuple (Qaw (ZA (Nb:=["_law_k", "_law_signs", "_law_turn", "_law_m"]) (no:=1) (cap:=[2,5,3]) (N:=Qgr) (sc:=Qh QbQ) rfl rfl (by decide +kernel)) rfl (Yk Z.z_range (Qa 4)) (λcl C s3 H3 ex=>⟨(QJ 0 (show List.Nodup (["_law_k", "_law_signs", "_law_turn", "_law_m"]:List Str) by decide +kernel)),QcF,(Yh (Zd (Yp (Qa 2) (Zd (QcG (QcG (Qa 0) (Qa 0)) (Qa 0)) Qe)) (QcG (Qa 0) (Yh (Yp (Qa 3) Qe) Qe))) (Qa 1))⟩)))))))))
theorem Qcy(Z:Zk K mg ca):FnH P w K mg base ca "_law_tokens" 3 4 Qag:=Za Z.u37 YR λ_ _ _ _ _ _ _ hr=>(Qd (Qq 4 YR.nd (Jp Qi))
 (Qd (QhM (QgH (Zz Z.z_len (Qa 4)) (Qa 3)) (Qd (Qq 5 YR.nd (Qm (YU Z) hr.m (Qc (Qa 0) (Qc (Qa 1) Qi))))
 (Qd (r_if (ZO hr (Yh (Qa 5) Qe) Qe) (Qg (Qy (Qa 4))) Qp)
 (Qg (r_if (QgH (Yh (Qa 5) Qe) Qe) (Qg (YV (Qad (Qa 4) (Q4 (Qc QL (Qc (Yh (Yp (Qa 5) Qe) (Qa 2)) Qi)))))) (Qd (Qq 6 YR.nd (Qm (Qjl Z) hr.m (Qc (Qa 0) (Qc (Qa 1) (Qc (Qa 2) Qi)))))
 (Qd (QhQ 7 YR.nd (ZA (Nb:=["_law_sign", "_law_word_here"]) (no:=1) (cap:=[6]) (N:=Qdd) (sc:=Qh Qao) rfl rfl (by decide +kernel)) rfl (Z8 (QU (Qa 6) QI (Zn Qe))) (λcl C s3 H3 ex=>⟨(QJ 0 (show List.Nodup (["_law_sign", "_law_word_here"]:List Str) by decide +kernel)),(Qn1 (QgH (Zz Z.z_len (Qa 1)) Qe)),(Q4 (Qc QL (Qc (Qa 0) Qi)))⟩))
 (Qd (YV (Qf6 (Qa 4) (Qf (Jp (Qc (Jp Qi) (Qc (Qa 7) (Qc (QU (Qa 7) (Zn (Qbz Qe)) QI) (Qc (QU (Qa 7) QI (Zn Qe)) (Qc (Qa 7) (Qc (Jp Qi) Qi))))))) (Yh (Yp (Qa 5) Qe) Qe))))
 (Qd (YV (Qad (Qa 4) (Q4 (Qc QL (Qc (Qa 6) (Qc (Yh (Yp (Qa 5) Qe) Qe) Qi))))))
 (Qg (YV (Qf6 (Qa 4) (Qf (Jp (Qc (Jp Qi) (Qc (Qa 7) (Qc (QU (Qa 7) QI (Zn Qe)) (Qc (QU (Qa 7) (Zn (Qbz Qe)) QI) (Qc (Jp Qi) (Qc (Qa 7) Qi))))))) (Yh (Yp (Qa 5) Qe) Qe))))))))))))))
 (Qg (Qy (Qa 4)))))
theorem Qha(Z:Zk K mg ca):FnH P w K mg base ca "_law_shape" 4 4 Qca:=Za Z.u38 Qap λ_ _ _ _ _ _ _ hr=>(Qd (Qq 4 Qap.nd (Qm (YU Z) hr.m (Qc (Qa 0) (Qc (Qa 1) Qi))))
 (Qd (Qq 5 Qap.nd (Qm (Qcy Z) hr.m (Qc (Qa 0) (Qc (Qa 1) (Qc (Qa 3) (Qc (Yh (Yp (Qa 4) Qe) Qe) Qi))))))
 (Qd (Qq 6 Qap.nd (Qm (Qcy Z) hr.m (Qc (Qa 0) (Qc (Qa 1) (Qc (Qa 3) (Qc (Yh (Yp (Qa 4) Qe) Qe) Qi))))))
 (Qg (Qy (Q4 (Qc (Yh (Yp (Qa 4) Qe) (Qa 2)) (Qc (Qf QL (Yh (Qa 4) Qe)) (Qc (Qa 5) (Qc (Qa 6) Qi))))))))))
theorem Qdh(Z:Zk K mg ca):FnH P w K mg base ca "_law_cells" 1 2 QaW:=Za Z.u39 Jl λ_ _ _ _ _ _ _ hr=>(Qd (Qq 2 Jl.nd (Jp Qi))
 (Qd (QaF rfl (Z8 (Qa 0)) (QJ 3 Jl.nd) (Qg (r_if (ZO hr (Qf (Qa 3) Qe) QL) (Qg (YV (Qad (Qa 2) (Qf (Qa 3) Qe)))) (Qg (QaF rfl (Yk Z.z_range (Zd (Qa 1) (Qf (Qa 3) Qe))) (QJ 4 Jl.nd) (Qg (Qq 2 Jl.nd (Zd (Qa 2) (QhX Z.z_list (Qf (Qa 3) Qe))))))))))
 (Qg (Qy (Qa 2)))))
theorem Qe1(Z:Zk K mg ca):FnH P w K mg base ca "_law_laid" 2 2 QaX:=Za Z.u40 Ye λ_ _ _ _ _ _ _ hr=>(Qd (QjF (Qa 0) (Qer rfl (Zy (QJ 2 Ye.nd) (Zy (QJ 3 Ye.nd) (Zy (QJ 4 Ye.nd) (Zy (QJ 5 Ye.nd) Qep))))))
 (Qd (Qq 6 Ye.nd (Qm (Qdh Z) hr.m (Qc (Qa 4) (Qc (Qa 1) Qi))))
 (Qd (Qq 7 Ye.nd (Zd (Qa 6) (Qm (Qdh Z) hr.m (Qc (Qa 5) (Qc (Qa 1) Qi)))))
 (Qd (Qq 8 Ye.nd Qnd)
 (Qd (QaF rfl (Yk Z.z_range (Zz Z.z_len (Qa 7))) (QJ 9 Ye.nd) (Qg (r_if (QaG hr (Qf (Qa 7) (Qa 9)) Qe) (Qg (QkI (Qa 8) (Qdp (Qa 9) (Zz Z.z_len (Qa 6))) (Qf (Qa 7) (Qa 9)))) Qp)))
 (Qg (Qy (Q4 (Qc (Qa 2) (Qc (Qbz (Qb1 Z.z_int (r_eq hr (Qa 3) QL))) (Qc (Qa 8) Qi)))))))))))
theorem Qjm(Z:Zk K mg ca):FnH P w K mg base ca "_law_kept" 1 1 QbK:=Za Z.u41 J8 λ_ _ _ _ _ _ _ hr=>(Qd (QjF (Qa 0) (Qer rfl (Zy (QJ 1 J8.nd) (Zy (QJ 2 J8.nd) (Zy (QJ 3 J8.nd) (Zy (QJ 4 J8.nd) Qep))))))
 (Qg (Qy (Q4 (Qc (Qa 1) (Qc (Qa 2) (Qc (Jq Z.z_tuple (Qa 3)) (Qc (Jq Z.z_tuple (Qa 4)) Qi))))))))
theorem Qjn(Z:Zk K mg ca):FnH P w K mg base ca "_law_go" 1 2 Qcc:=Za Z.u42 Qji λ_ _ _ _ _ _ _ hr=>(Qd (Qq 2 Qji.nd (Qf (Qf (Qa 0) (Qf (Qa 1) Qe)) (Qie (Qf (Qa 1) Qe) (Qf (Qa 1) Qe) Qe)))
 (Qd (r_if (Qfc (Qa 2) JO) (Qg (Qy r_bl)) Qp)
 (Qd (QkI (Qf (Qa 1) Qe) (Qf (Qa 1) Qe) (Qf (Qa 2) Qe))
 (Qd (r_if (ZO hr (Qf (Qa 2) Qe) Qe) (Qg (YV (Qne (Qf (Qa 1) Qe) (Qf (Qa 1) Qe)))) Qp)
 (Qd (Qdn (Qa 1) Qe (Qf (Qa 2) Qe))
 (Qd (Qdn (Qa 1) Qe (Zd (Qf (Qa 1) Qe) (Qf (Jp (Qc (Qbz Qe) (Qc Qe Qi))) (Qb1 Z.z_int (r_eq hr (Qf (Qa 2) Qe) QL)))))
 (Qg (Qy r_bl))))))))
theorem QfH(Z:Zk K mg ca):FnH P w K mg base ca "_law_stands" 3 3 Qah:=Za Z.u43 YS λ_ _ _ _ _ _ _ hr=>(Qd (QjF (Qm (Qe1 Z) hr.m (Qc (Qa 1) (Qc (Qa 2) Qi))) (Qer rfl (Zy (QJ 3 YS.nd) (Zy (QJ 4 YS.nd) (Zy (QJ 5 YS.nd) Qep)))))
 (Qd (Qq 6 YS.nd (Qdp (Qf (Qa 0) Qe) (Qa 4)))
 (Qd (r_if (r_w (Qbc (QaG hr (Qf (Qa 0) Qe) (Qa 3)) (JG (QaG hr (QkL Z.z_len (Qf (Qa 0) Qe)) (QkL Z.z_len (Qa 5)))))) (Qg (Qy r_bl)) Qp)
 (Qg (Qy (QgL rfl Z.z_all (Qaw (ZA (Nb:=["_law_spot", "_law_cells_here", "_law_by", "_law_run"]) (no:=1) (cap:=[5,6,0]) (N:=Qde) (sc:=Qh Qaq) rfl rfl (by decide +kernel)) rfl (Qj2 (Qa 5)) (λcl C s3 H3 ex=>⟨(QJ 0 (show List.Nodup (["_law_spot", "_law_cells_here", "_law_by", "_law_run"]:List Str) by decide +kernel)),QcF,(r_eq hr (Qie (Qf (Qa 3) Qe) (Zd (Qa 0) (Qa 2)) Qe) (Qni (Qa 1) (Qa 0)))⟩))))))))
theorem Qhb(Z:Zk K mg ca):FnH P w K mg base ca "_law_moves" 1 1 QaY:=Za Z.u44 YH λ_ _ _ _ _ _ _ hr=>(Qd (Qq 1 YH.nd (Jp (Qc (Q4 (Qc QL Qi)) (Qc (Q4 (Qc QL Qi)) (Qc (Q4 (Qc QL Qi)) (Qc (Q4 (Qc QL (Qc QL Qi))) (Qc (Q4 (Qc QL (Qc QL Qi))) (Qc (Q4 (Qc QL (Qc QL Qi))) (Qc (Q4 (Qc QL (Qc QL Qi))) Qi)))))))))
 (Qd (QaF rfl (Z8 (Jp (Qc QL (Qc QL Qi)))) (QJ 2 YH.nd) (Qd (Qq 3 YH.nd (Qf (Jp (Qc (Qf (Qa 0) Qe) (Qc (Qf (Qa 0) Qe) Qi))) (Qb1 Z.z_int (r_eq hr (Qa 2) QL))))
 (Qg (QaF rfl (Yk Z.z_range (Zd (Zz Z.z_len (Qa 3)) Qe)) (QJ 4 YH.nd) (Qg (Qq 1 YH.nd (Zd (Qa 1) (Qaw (ZA (Nb:=["_law_word_here", "_law_side", "_law_number"]) (no:=1) (cap:=[2,4]) (N:=QeX) (sc:=Qh Qa8) rfl rfl (by decide +kernel)) rfl (Z8 (Jp (Qc QL (Qc QL (Qc QL (Qc QL Qi)))))) (λcl C s3 H3 ex=>⟨(QJ 0 (show List.Nodup (["_law_word_here", "_law_side", "_law_number"]:List Str) by decide +kernel)),QcF,(Q4 (Qc (Qa 0) (Qc (Qa 1) (Qc (Qa 2) Qi))))⟩)))))))))
 (Qg (Qy (Qa 1)))))
theorem Qcz(Z:Zk K mg ca):FnH P w K mg base ca "_law_told" 9 3 Jx:=Za Z.u45 Qa9 λ_ _ _ _ _ _ _ hr=>(Qd (Qq 3 Qa9.nd JO)
 (Qd (Qm5 Z.t_NoMove (Qg (Qq 3 Qa9.nd (Qm (Qkp Z) hr.m (Qc (Qa 0) (Qc (Qa 1) (Qc (Qa 2) Qi)))))) (λa=>(Qg (Qq 3 Qa9.nd JO))))
 (Qg (Qy (Qa 3)))))
theorem QfI(Z:Zk K mg ca):FnH P w K mg base ca "_law_passed" 2 4 Ji:=Za Z.u46 Zj λ_ _ _ _ _ _ _ hr=>(Qd (QjF (Qa 2) (Qer rfl (Zy (QJ 4 Zj.nd) (Zy (QJ 5 Zj.nd) (Zy (QJ 6 Zj.nd) (Zy (QJ 7 Zj.nd) Qep))))))
 (Qd (Qq 8 Zj.nd (Qf (Qf (Jp (Qc (QU (Qa 6) (Zn (Qbz Qe)) QI) (Qc (QU (Qa 7) QI (Zn Qe)) Qi))) (Qb1 Z.z_int (r_eq hr (Qa 5) QL))) Qe))
 (Qd (Qq 9 Zj.nd (QcG (Zz Z.z_len (Qf (Qa 8) Qe)) (Zd (Qa 3) (Qf (Qa 8) Qe))))
 (Qd (Qq 10 Zj.nd (QcG (Qbz (Qa 9)) (Qb1 Z.z_int (r_eq hr (Qa 5) QL))))
 (Qd (Qq 11 Zj.nd Qe)
 (Qd (QhM (r_w (QcW (Qn2 (Qa 10) (Qf (Qa 1) Qe)) (Qbb (QgH (Qf (Qa 1) Qe) (Zd (Qa 10) (Qa 9)))))) (Qd (Qq 11 Zj.nd (Zd (Qa 11) Qe))
 (Qg (r_if (r_w (Qbc (QjM (Qa 11) (QcG Qe (Zd (Qa 3) (Qf (Qa 8) Qe)))) (JG (ZW (Zl (Qm (Qjn Z) hr.m (Qc (Qa 0) (Qc (Qa 1) Qi)))))))) (Qg (Qy r_bl)) Qp))))
 (Qg (Qy r_bl))))))))
theorem QcA(Z:Zk K mg ca):FnH P w K mg base ca "_law_walked" 4 4 Qai:=Za Z.u47 QaM λ_ _ _ _ _ _ _ hr=>(Qd (QaF rfl (Yk Z.z_range Qe) (QJ 4 QaM.nd) (Qd (Qq 5 QaM.nd (QhX Z.z_list (Qm (Qe1 Z) hr.m (Qc (Qa 1) (Qc (Qa 4) Qi)))))
 (Qd (r_if (r_w (QcW (ZO hr (Qf (Qa 2) Qe) QL) (Qbb (ZW (Zl (Qm (Qjn Z) hr.m (Qc (Qa 0) (Qc (Qa 5) Qi)))))))) (Qg (Qy r_bl)) Qp)
 (Qd (r_if (r_w (QcW (ZO hr (Qf (Qa 2) Qe) QL) (Qbb (ZW (Zl (Qm (QfI Z) hr.m (Qc (Qa 0) (Qc (Qa 5) (Qc (Qa 1) (Qc (Qa 4) Qi)))))))))) (Qg (Qy r_bl)) Qp)
 (Qg (r_if (ZW (Zl (Qm (QfH Z) hr.m (Qc (Qa 5) (Qc (Qa 3) (Qc (Qa 4) Qi)))))) (Qg (Qy r_bl)) Qp))))))
 (Qg (Qy r_bl)))
theorem Qhc(Z:Zk K mg ca):FnH P w K mg base ca "_law_round" 10 2 Qcd:=Za Z.u48 QX λ_ _ _ _ _ _ _ hr=>(Qd (Qq 2 QX.nd (Qm (YU Z) hr.m (Qc (Qa 0) (Qc (Qa 1) Qi))))
 (Qd (Qq 3 QX.nd (Zd Qe (Yh (Qa 2) Qe)))
 (Qd (Qq 4 QX.nd (Zd Qe (Yh (Yp (Qa 2) Qe) Qe)))
 (Qd (Qq 5 QX.nd (Qm (Qg9 Z) hr.m (Qc (Qa 0) (Qc (Qa 1) (Qc (Qa 3) (Qc (Qa 4) Qi))))))
 (Qd (Qq 6 QX.nd (QmS (Qcw Z) hr.m (Qc (Qa 5) Qi)))
 (Qd (Qq 7 QX.nd (Qm (Qjm Z) hr.m (Qc (Qm (Qha Z) hr.m (Qc (Qa 0) (Qc (Qa 1) (Qc (Qa 3) (Qc (Qa 4) Qi))))) Qi)))
 (Qd (Qq 8 QX.nd (Jp Qi))
 (Qd (QaF rfl (Z8 (Qm (Qhb Z) hr.m (Qc (Qa 7) Qi))) (QJ 9 QX.nd) (Qd (Qq 10 QX.nd (Qm (Qcz Z) hr.m (Qc (Qa 6) (Qc (Qa 7) (Qc (Qa 9) Qi)))))
 (Qg (r_if (Qds (Qa 10) JO) (Qd (YV (Qad (Qa 8) (Qa 9)))
 (Qg (r_if (ZW (Zl (Qm (QcA Z) hr.m (Qc (Qa 5) (Qc (Qa 7) (Qc (Qa 9) (Qc (Qa 10) Qi))))))) (Qg (Qy r_bl)) Qp))) Qp))))
 (Qd (QaF rfl (Yk Z.z_range (Zd Qe (Yh (Yp (Qa 2) Qe) Qe))) (QJ 11 QX.nd) (Qd (Qq 9 QX.nd (Qf (Qa 8) (Yh (Qm (YU Z) hr.m (Qc (Qa 0) (Qc (Qa 1) Qi))) (Zz Z.z_len (Qa 8)))))
 (Qd (Qq 10 QX.nd (Qm (Qcz Z) hr.m (Qc (Qa 6) (Qc (Qa 7) (Qc (Qa 9) Qi)))))
 (Qg (r_if (Qds (Qa 10) JO) (Qd (r_if (ZW (Zl (Qm (QcA Z) hr.m (Qc (Qa 5) (Qc (Qa 7) (Qc (Qa 9) (Qc (Qa 10) Qi))))))) (Qg (Qy r_bl)) Qp)
 (Qd (r_if (ZW (Zl (Qm (Qe0 Z 6) hr.m (Qc (Qm (Qcz Z) hr.m (Qc (Qa 6) (Qc (Qa 7) (Qc (Qa 9) Qi)))) (Qc (Qa 10) Qi))))) (Qg (Qy r_bl)) Qp)
 (Qg (Qq 7 QX.nd (Qa 10))))) Qp)))))
 (Qg (Qy r_bl)))))))))))
theorem QnB(Z:Zk K mg ca){f:Addr}{fd:FuncData}(F:Fun K "law" "law" Qko f fd):FnOk P w K mg base (CXW P w ca) 11 f fd ["_law_script"] (spM K ca 1 Qj3) :=
 QjG F Qjk rfl rfl (λcdv A outer s H E hr=>(Qd (Qq 1 Qjk.nd (Jp (Qc Qe Qi)))
 (Qd (QaF rfl (Yk Z.z_range (Zd Qe (Yp (Zz Z.z_len (QU (Qa 0) QI (Zn Qe))) Qe))) (QJ 2 Qjk.nd) (Qg (r_if (ZW (Zl (Qm (Qhc Z) hr.m (Qc (Qa 0) (Qc (Qa 1) Qi))))) (Qg (Qy r_bl)) Qp)))
 (Qg (Qy r_bl)))))
end
noncomputable def caOf(l:List Nat)(n:Nat):Addr:=l.getD n 0
def FA(K:Frag)(x:Str)(st:Stmt):Prop:=∃(f:Addr)(oc kV dc pm cd ct:Value)(od an:Option Addr)(sl:Array (Option Value)),nsIn K mainGlobals x=some (some (.ref f))/\K.lookup f=some ⟨oc,od,.func (fnOf x x (JN st) (YI st) (Qh st) .none kV dc pm an cd ct),sl⟩/\codeIn K cd x=true/\keepIn K (.ref f)=true
theorem fa_mk{K:Frag}{x:Str}{st:Stmt}{f:Addr}{oc kV dc pm cd ct:Value}{od an:Option Addr}{sl:Array (Option Value)}(a:nsIn K mainGlobals x=some (some (.ref f)))(l:K.lookup f=some ⟨oc,od,.func (fnOf x x (JN st) (YI st) (Qh st) .none kV dc pm an cd ct),sl⟩)(d:codeIn K cd x=true)(k:keepIn K (.ref f)=true):FA K x st:=⟨f,oc,kV,dc,pm,cd,ct,od,an,sl,a,l,d,k⟩
theorem FA.u{K:Frag}{h:Heap}{mg:Str->Option Value}{x:Str}{st:Stmt}(a:FA K x st)(X:K.In h)(G:h.Ns mainGlobals mg):UF K mg x st:=by
 obtain⟨f,oc,kV,dc,pm,cd,ct,od,an,sl,a,l,d,k⟩:=a
 exact⟨f,_,Qkv l d k,UZ X G a⟩
theorem z_mk{K:Frag}{h:Heap}{mg:Str->Option Value}(X:K.In h)(G:h.Ns mainGlobals mg){C0 C1 C7 C8 C11:Addr}{oc50 kV50 dc50 pm50 cd50 ct50:Value}{od50 an50:Option Addr}{sl50:Array (Option Value)}{f50:Addr}{og_BLANK:_}{og_LEFT:_}{og_MANY:_}{og_MOST_STEPS_OVER:_}{og_ONE:_}{og_OPEN:Addr}{og_OVER:Addr}{og_RIGHT:_}{og_STEP:Addr}(c0:nsIn K mainGlobals "TapeError" = some (some (.ref C0)))(c1:nsIn K mainGlobals "NoMachine" = some (some (.ref C1)))(c7:nsIn K mainGlobals "NoShape" = some (some (.ref C7)))(c8:nsIn K mainGlobals "NoMove" = some (some (.ref C8)))(c11:nsIn K mainGlobals "Machine" = some (some (.ref C11)))(a1:FA K "is_whole" Qbk)(a2:FA K "is_below" Qbl)(a3:FA K "is_from_nought" Yv)(a4:FA K "is_entry" Qbn)(a5:FA K "check_rows" Y6)(a6:FA K "states_of" QaJ)(a7:FA K "signs_of" Qbo)(a8:FA K "is_word" Qa3)(a9:FA K "is_token" Qbp)(a10:FA K "check_tokens" Yo)(a11:FA K "check_shape" Jz)(a12:FA K "raised_token" Jb)(a13:FA K "signs_in" Qbq)(a14:FA K "check_shape_of" Yw)(a15:FA K "with_tuples" JA)(a16:FA K "ones_of" Qa4)(a17:FA K "token_ahead" JB)(a18:FA K "many_ahead" JZ)(a19:FA K "in_place_of_ahead" ZV)(a20:FA K "gone_on" Qco)(a21:FA K "after_step" J0)(a22:FA K "word_behind" JD)(a23:FA K "after_over" J4)(a24:FA K "after_open" J5)(a25:FA K "place_of_many" YQ)(a26:FA K "with_ones_taken_in" ZM)(a27:FA K "with_one_brought_over" Zt)(a28:FA K "with_end" Qbr)(a29:FA K "with_many" QaL)(a30:FA K "after_put_together" ZN)(a31:FA K "after_move" J6)(a32:FA K "moved" QfB)(a33:FA K "_law_next" QdY)(a34:FA K "_law_same" Qa7)(a35:FA K "_law_table" Qcr)(a36:FA K "_law_word" QbQ)(a37:FA K "_law_tokens" Qao)(a38:FA K "_law_shape" Qcs)(a39:FA K "_law_cells" Qct)(a40:FA K "_law_laid" Qd0)(a41:FA K "_law_kept" Qd1)(a42:FA K "_law_go" Qjh)(a43:FA K "_law_stands" Qaq)(a44:FA K "_law_moves" Qa8)(a45:FA K "_law_told" Qd2)(a46:FA K "_law_passed" Qbs)(a47:FA K "_law_walked" Qbt)(a48:FA K "_law_round" Qcu)(a49:FA K "law" Qko)(a50:findIn K (.ref C11) "__init__" = some (some (.ref f50)))(l50:K.lookup f50=some ⟨oc50,od50,.func (fnOf "__init__" "Machine.__init__" (JN Zi) (YI Zi) (Qh Zi) .none kV50 dc50 pm50 an50 cd50 ct50),sl50⟩)(d50:codeIn K cd50 "Machine.__init__" = true)(k50:keepIn K (.ref f50)=true)(i50:isFn K (.ref f50)=true)(m50:makesIn K C11=true)(q50:keepIn K (.ref C11)=true)(nz_all:nsIn K mainGlobals "all" = some none)(nz_bool:nsIn K mainGlobals "bool" = some none)(nz_dict:nsIn K mainGlobals "dict" = some none)(nz_int:nsIn K mainGlobals "int" = some none)(nz_isinstance:nsIn K mainGlobals "isinstance" = some none)(nz_len:nsIn K mainGlobals "len" = some none)(nz_list:nsIn K mainGlobals "list" = some none)(nz_max:nsIn K mainGlobals "max" = some none)(nz_min:nsIn K mainGlobals "min" = some none)(nz_range:nsIn K mainGlobals "range" = some none)(nz_str:nsIn K mainGlobals "str" = some none)(nz_tuple:nsIn K mainGlobals "tuple" = some none)(nz_zip:nsIn K mainGlobals "zip" = some none)(ng_BLANK:nsIn K mainGlobals "BLANK" = some (some (.int 0 og_BLANK)))(ng_LEFT:nsIn K mainGlobals "LEFT" = some (some (.str "l" og_LEFT)))(ng_MANY:nsIn K mainGlobals "MANY" = some (some (.str "many" og_MANY)))(ng_MOST_STEPS_OVER:nsIn K mainGlobals "MOST_STEPS_OVER" = some (some (.int 1000 og_MOST_STEPS_OVER)))(ng_ONE:nsIn K mainGlobals "ONE" = some (some (.str "one" og_ONE)))(ng_OPEN:nsIn K mainGlobals "OPEN" = some (some (.ref og_OPEN)))(mg_OPEN:datB K 9 (.ref og_OPEN) (.tup [(.str "open")])=true)(ng_OVER:nsIn K mainGlobals "OVER" = some (some (.ref og_OVER)))(mg_OVER:datB K 9 (.ref og_OVER) (.tup [(.str "over")])=true)(ng_RIGHT:nsIn K mainGlobals "RIGHT" = some (some (.str "r" og_RIGHT)))(ng_STEP:nsIn K mainGlobals "STEP" = some (some (.ref og_STEP)))(mg_STEP:datB K 9 (.ref og_STEP) (.tup [(.str "step")])=true)(nt_NoMove:catB K (caOf [C0,C1,0,0,0,0,0,C7,C8,0,0,C11]) C8 [8] [0,1,7]=true)(ne_NoMachine:excIn K C1 bmV "ValueError.__new__" = true)(ne_NoMove:excIn K C8 bmV "ValueError.__new__" = true)(ne_NoShape:excIn K C7 bmV "ValueError.__new__" = true)(na_table:fldB K (caOf [C0,C1,0,0,0,0,0,C7,C8,0,0,C11]) [11] "table" = true):Zk K mg (caOf [C0,C1,0,0,0,0,0,C7,C8,0,0,C11]) :=
  ⟨UM X G nz_all,
   UM X G nz_bool,
   UM X G nz_dict,
   UM X G nz_int,
   UM X G nz_isinstance,
   UM X G nz_len,
   UM X G nz_list,
   UM X G nz_max,
   UM X G nz_min,
   UM X G nz_range,
   UM X G nz_str,
   UM X G nz_tuple,
   UM X G nz_zip,
   ⟨_,UZ X G ng_BLANK⟩,
   ⟨_,UZ X G ng_LEFT⟩,
   ⟨_,UZ X G ng_MANY⟩,
   ⟨_,UZ X G ng_MOST_STEPS_OVER⟩,
   ⟨_,UZ X G ng_ONE⟩,
   (Qf7 9 _ _ mg_OPEN).elim λv h=>⟨_,v,UZ X G ng_OPEN,h.1,h.2⟩,
   (Qf7 9 _ _ mg_OVER).elim λv h=>⟨_,v,UZ X G ng_OVER,h.1,h.2⟩,
   ⟨_,UZ X G ng_RIGHT⟩,
   (Qf7 9 _ _ mg_STEP).elim λv h=>⟨_,v,UZ X G ng_STEP,h.1,h.2⟩,
   ⟨UZ X G c8,Qm6 nt_NoMove⟩,
   ⟨UZ X G c1,ne_NoMachine⟩,
   ⟨UZ X G c8,ne_NoMove⟩,
   ⟨UZ X G c7,ne_NoShape⟩,
   Qm8 na_table,
   a1.u X G,
   a2.u X G,
   a3.u X G,
   a4.u X G,
   a5.u X G,
   ⟨f50,_,Qkv (st:=Zi) l50 d50 k50,⟨m50,a50,i50,q50⟩,UZ X G c11⟩,
   a6.u X G,
   a7.u X G,
   a8.u X G,
   a9.u X G,
   a10.u X G,
   a11.u X G,
   a12.u X G,
   a13.u X G,
   a14.u X G,
   a15.u X G,
   a16.u X G,
   a17.u X G,
   a18.u X G,
   a19.u X G,
   a20.u X G,
   a21.u X G,
   a22.u X G,
   a23.u X G,
   a24.u X G,
   a25.u X G,
   a26.u X G,
   a27.u X G,
   a28.u X G,
   a29.u X G,
   a30.u X G,
   a31.u X G,
   a32.u X G,
   a33.u X G,
   a34.u X G,
   a35.u X G,
   a36.u X G,
   a37.u X G,
   a38.u X G,
   a39.u X G,
   a40.u X G,
   a41.u X G,
   a42.u X G,
   a43.u X G,
   a44.u X G,
   a45.u X G,
   a46.u X G,
   a47.u X G,
   a48.u X G,
   a49.u X G⟩
theorem walk{l:PySem.W.OpenLaw}{p:Program}{loose:List Str}{XP:(Str->Option Value)->Heap->Prop}{YP:World->Heap->Prop}{d:DefRec}{K:Params->Frag}(C:List Nat)(hn:l.most=some 63)(hdf:d.params.defaults=[])(hd:d.name = "law")(hY:∀(w:World) (h:Heap),YP w h->(K w.params).In h)(F:∀(w:World) (mg:Str->Option Value) (h:Heap),(K w.params).In h->h.Ns mainGlobals mg->Zk (K w.params) mg (caOf C))(M:∀ns:List Int,ns.length<=63->∃g',Qj3 [.fl (ns.map D.int)] []=.ok (.bl true) g'):PySem.W.WalkO p loose XP YP l.row.toRowW d [] (λf vs=>PySem.call f vs):=by
 refine L2.walk_of (n:=63) (k:=11) (x:="_law_script") (CX:=λw=>CXW l.prog w (caOf C)) (sp:=λw=>spM (K w.params) (caOf C) 1 Qj3) hn (by decide) hdf ⟨rfl,by decide,by decide⟩ hY (λw mg fa h KX G hmg=>?_) (λw H a ns hl hO hS=>Qm9 hO hS (M ns hl)) (λw H s e s' z=>?_)
 ·have Z:=F w mg h KX G
  obtain⟨f,fd,Fu,hm⟩:=Z.u49
  rw[hd]at hmg
  have e:=hmg.symm.trans hm
  cases e
  refine⟨fd,λs u=>?_,λbase _ _=>QnB Z Fu⟩
  obtain⟨oc,od,kV,doc,pm,an,cdv,ct,osl,rfl,lk,hcd⟩:=Fu.ex
  exact .of_eq rfl
 ·obtain⟨_,_,_,_,_,_,_,_,_,_,z⟩:=z
  exact z
end V
namespace V
open PySem PySem.W PySem.W.X PySem.Spec PyProof.Rows
theorem walkX_of{as:List Addr}{K:Params->Frag}{n t:Nat}{q:Program}{loose:List Str}{XP:(Str->Option Value)->Heap->Prop}{r:RowW}{d:DefRec}{kwd:List (Str×PySem.Expr)}{run:Value->List Value->Sem Value}(e:∀P,as=(K P).map (·.1))(h:WalkO q loose XP (InK K) r d kwd run):WalkX q loose XP (obsZ as) (valZ K n t) r d kwd run :=
 λw s₀ s₁ mg mb G y a o pm cd doc dV kV h1 h2 h3 h4 h5 h6 args vals as' L p1 p2 p3 p4 p5 =>
  h w s₀ s₁ mg mb G (InK.keeps w _ _ (z_facts e y).2.1 L.keeps) a o pm cd doc dV kV h1 h2 h3 h4 h5 h6 args vals as' p1 p2 p3 p4 p5
end V
noncomputable def PySem.W.Fast.tw2903229450179678701 : PySem.Program := PySem.Challenge.pw_tapeproof_k42_moves_walked
theorem PySem.W.Fast.te2903229450179678701 : PySem.Challenge.pw_tapeproof_k42_moves_walked = PySem.W.Fast.tw2903229450179678701 := rfl
def PySem.W.Fast.tw16706561140191179317 : Unit := ()
def PySem.W.Fast.tw2873083191426812302 : Unit := ()
def PySem.W.Fast.tw7280866028965619206 : Unit := ()
def PySem.W.Fast.tw4343848241396484146 : Unit := ()
def PySem.W.Fast.tw15051635418251815070 : Unit := ()
def PySem.W.Fast.tw17834745105834062053 : Unit := ()
def PySem.W.Fast.tw8569342843698711228 : Unit := ()
def PySem.W.Fast.tw13542238429024692166 : Unit := ()
def PySem.W.Fast.tw8013003498882528569 : Unit := ()
def PySem.W.Fast.tw12004302015392554350 : Unit := ()
def PySem.W.Fast.tw296325919211749896 : Unit := ()
def PySem.W.Fast.tw8022194198987328402 : Unit := ()
def PySem.W.Fast.tw16890176758929940157 : Unit := ()
def PySem.W.Fast.tw12966374414989887475 : Unit := ()
def PySem.W.Fast.tw2144859056683145868 : Unit := ()
def PySem.W.Fast.tw5824704808173687185 : Unit := ()
def PySem.W.Fast.tw34599984145025394 : Unit := ()
def PySem.W.Fast.tw3250342479032839402 : Unit := ()
def PySem.W.Fast.tw10231339370471554533 : Unit := ()
def PySem.W.Fast.tw111244405310613910 : Unit := ()
def PySem.W.Fast.tw7407448792321345726 : Unit := ()
def PySem.W.Fast.tw6693943629818795628 : Unit := ()
def PySem.W.Fast.tw11876837291676830463 : Unit := ()
def PySem.W.Fast.tw13877894758845255550 : Unit := ()
def PySem.W.Fast.tw9215872943767919562 : Unit := ()
def PySem.W.Fast.tw5900749020459971755 : Unit := ()
def PySem.W.Fast.tw16986685770621676058 : Unit := ()
def PySem.W.Fast.tw3432063845488992436 : Unit := ()
def PySem.W.Fast.tw16635582579457031610 : Unit := ()
def PySem.W.Fast.tw6637922879577772740 : Unit := ()
def PySem.W.Fast.tw11341767554062633743 : Unit := ()
def PySem.W.Fast.tw6605912336667667538 : Unit := ()
def PySem.W.Fast.tw2646296036662717919 : Unit := ()
def PySem.W.Fast.tw110477551085482359 : Unit := ()
def PySem.W.Fast.tw1056930492367474211 : Unit := ()
def PySem.W.Fast.tw12949514760000832072 : Unit := ()
def PySem.W.Fast.tw16780235625512766417 : Unit := ()
def PySem.W.Fast.tw8523855524474351450 : Unit := ()
def PySem.W.Fast.tw17707374139712004269 : Unit := ()
def PySem.W.Fast.tw2494484046879323935 : Unit := ()
def PySem.W.Fast.tw16457035399064507891 : Unit := ()
def PySem.W.Fast.tw5038576502181211460 : Unit := ()
def PySem.W.Fast.tw13859041887919043841 : Unit := ()
def PySem.W.Fast.tw16031661964215387080 : Unit := ()
def PySem.W.Fast.tw6663556746485222167 : Unit := ()
def PySem.W.Fast.tw8631042471456010936 : Unit := ()
def PySem.W.Fast.tw4980131474900458947 : Unit := ()
def PySem.W.Fast.tw9745235396092572352 : Unit := ()
def PySem.W.Fast.tw4515264333598304631 : Unit := ()
def PySem.W.Fast.tw17506270048664620549 : Unit := ()
def PySem.W.Fast.tw8120275909129006508 : Unit := ()
def PySem.W.Fast.tw4153181651545211279 : Unit := ()
def PySem.W.Fast.tw2415937628932221977 : Unit := ()
def PySem.W.Fast.tw3441901808342127205 : Unit := ()
def PySem.W.Fast.tw7542568200261715391 : Unit := ()
def PySem.W.Fast.tw14115463552999295719 : Unit := ()
def PySem.W.Fast.tw4409722531474875562 : Unit := ()
def PySem.W.Fast.tw16410097743549679786 : Unit := ()
def PySem.W.Fast.tw10829414656874299174 : Unit := ()
def PySem.W.Fast.tw14323813133965293172 : Unit := ()
def PySem.W.Fast.tw4547173714041993273 : Unit := ()
def PySem.W.Fast.tw14953962937057632818 : Unit := ()
def PySem.W.Fast.tw2787146977429805980 : Unit := ()
def PySem.W.Fast.tw11107599094904299401 : Unit := ()
def PySem.W.Fast.tw17034573488397403130 : Unit := ()
def PySem.W.Fast.tw10621238282295580411 : Unit := ()
def PySem.W.Fast.tw1384583447075664461 : Unit := ()
def PySem.W.Fast.tw4171635391013112721 : Unit := ()
def PySem.W.Fast.tw13064357496093027481 : Unit := ()
def PySem.W.Fast.tw2651679989609646004 : Unit := ()
def PySem.W.Fast.tw752791780452490850 : Unit := ()
def PySem.W.Fast.tw2020580557850303224 : Unit := ()
def PySem.W.Fast.tw6141720793016117706 : Unit := ()
def PySem.W.Fast.tw1496378927832942107 : Unit := ()
def PySem.W.Fast.tw17646507791887223636 : Unit := ()
def PySem.W.Fast.tw64208196066486471 : Unit := ()
def PySem.W.Fast.tw4690256590048792870 : Unit := ()
def PySem.W.Fast.tw6024273700988324252 : Unit := ()
def PySem.W.Fast.tw6012140266391056654 : Unit := ()
def PySem.W.Fast.tw8453607445526542199 : Unit := ()
def PySem.W.Fast.tw4797226421313163693 : Unit := ()
def PySem.W.Fast.tw11116655609704012774 : Unit := ()
def PySem.W.Fast.tw17877795398116140238 : Unit := ()
def PySem.W.Fast.tw251510638505973222 : Unit := ()
def PySem.W.Fast.tw9592395690497070267 : Unit := ()
def PySem.W.Fast.tw6019050191998412766 : Unit := ()
def PySem.W.Fast.tw6593224634612858559 : Unit := ()
def PySem.W.Fast.tw17339467155276900243 : Unit := ()
def PySem.W.Fast.tw16437763936389474909 : Unit := ()
def PySem.W.Fast.tw5584938035321713694 : Unit := ()
def PySem.W.Fast.tw4163560296374655820 : Unit := ()
def PySem.W.Fast.tw9129702525117668852 : Unit := ()
def PySem.W.Fast.tw1951377226073063225 : Unit := ()
def PySem.W.Fast.tw12539933389915743291 : Unit := ()
def PySem.W.Fast.tw13002196876447984015 : Unit := ()
def PySem.W.Fast.tw7598058576013786748 : Unit := ()
def PySem.W.Fast.tw16379957529800684263 : Unit := ()
def PySem.W.Fast.tw9082435956700768807 : Unit := ()
def PySem.W.Fast.tw4625157077450841615 : Unit := ()
def PySem.W.Fast.tw6123705451385409771 : Unit := ()
def PySem.W.Fast.tw4364199151107747099 : Unit := ()
def PySem.W.Fast.tw15391259861542532183 : Unit := ()
def PySem.W.Fast.tw14478478902696317384 : Unit := ()
def PySem.W.Fast.tw9543067926082689251 : Unit := ()
def PySem.W.Fast.tw14116934418116216643 : Unit := ()
def PySem.W.Fast.tw10974229332601332047 : Unit := ()
def PySem.W.Fast.tw15368770020550949664 : Unit := ()
def PySem.W.Fast.tw3088845662448175434 : Unit := ()
def PySem.W.Fast.tw7785819036718409923 : Unit := ()
def PySem.W.Fast.tw12866650702082059953 : Unit := ()
def PySem.W.Fast.tw13580858812630980377 : Unit := ()
def PySem.W.Fast.tw12551191490456018664 : Unit := ()
def PySem.W.Fast.tw16798534502988750062 : Unit := ()
def PySem.W.Fast.tw18364476485240232958 : Unit := ()
def PySem.W.Fast.tw3698358503885770981 : Unit := ()
def PySem.W.Fast.tw2028079704625080355 : Unit := ()
def PySem.W.Fast.tw17411713713330097246 : Unit := ()
def PySem.W.Fast.tw8320200258337165621 : Unit := ()
def PySem.W.Fast.tw7711100506542431181 : Unit := ()
def PySem.W.Fast.tw4546355484590246361 : Unit := ()
def PySem.W.Fast.tw5889807642703747551 : Unit := ()
def PySem.W.Fast.tw9314631259117923416 : Unit := ()
def PySem.W.Fast.tw14580901186660135765 : Unit := ()
def PySem.W.Fast.tw11195626407475038688 : Unit := ()
def PySem.W.Fast.tw9814947688476102248 : Unit := ()
def PySem.W.Fast.tw13478411389546880973 : Unit := ()
def PySem.W.Fast.tw17656107614202861637 : Unit := ()
def PySem.W.Fast.tw4645390412936712627 : Unit := ()
def PySem.W.Fast.tw4904658163537322383 : Unit := ()
def PySem.W.Fast.tw9138505195040494681 : Unit := ()
def PySem.W.Fast.tw4067270979826458889 : Unit := ()
def PySem.W.Fast.tw10374411645261909190 : Unit := ()
def PySem.W.Fast.tw5013322342744220156 : Unit := ()
def PySem.W.Fast.tw959483872993528261 : Unit := ()
def PySem.W.Fast.tw8549545865854654464 : Unit := ()
def PySem.W.Fast.tw6952067607657194318 : Unit := ()
def PySem.W.Fast.tw14946851984846734199 : Unit := ()
open PySem PySem.W PyProof.Rows
set_option maxRecDepth 100000 in
set_option maxHeartbeats 0 in
theorem PySem.Challenge.cw_tapeproof_k42_moves_walked_holds : PySem.Challenge.rw_tapeproof_k42_moves_walked.Holds := by
  w_on; o_law; z_head; (case hw=>w_witness2)
  k_fill
  refine V.walkX_of (fun P=>?E) (V.walk (l:=PySem.Challenge.rw_tapeproof_k42_moves_walked) [24,37,0,0,0,0,0,49,61,0,0,111] rfl rfl rfl (fun w h Y=>Y) ?F L3.law_true)
  case E=>kernel_rfl
  case F =>
    intro w mg h KX G
    refine' V.z_mk KX G ?_ ?_ ?_ ?_ ?_ ?_ ?_ ?_ ?_ ?_ ?_ ?_ ?_ ?_ ?_ ?_ ?_ ?_ ?_ ?_ ?_ ?_ ?_ ?_ ?_ ?_ ?_ ?_ ?_ ?_ ?_ ?_ ?_ ?_ ?_ ?_ ?_ ?_ ?_ ?_ ?_ ?_ ?_ ?_ ?_ ?_ ?_ ?_ ?_ ?_ ?_ ?_ ?_ ?_ ?_ ?_ ?_ ?_ ?_ ?_ ?_ ?_ ?_ ?_ ?_ ?_ ?_ ?_ ?_ ?_ ?_ ?_ ?_ ?_ ?_ ?_ ?_ ?_ ?_ ?_ ?_ ?_ ?_ ?_ ?_ ?_ ?_ ?_ ?_ ?_ ?_
    rotate_right 91
    iterate 5 (focus k_is)
    iterate 49 (focus (refine' V.fa_mk ?_ ?_ ?_ ?_; rotate_right 4; iterate 4 focus k_is))
    iterate 26 (focus k_is)
    iterate 1 (focus kernel_rfl)
    iterate 1 (focus k_is)
    iterate 1 (focus kernel_rfl)
    iterate 2 (focus k_is)
    iterate 2 (focus kernel_rfl)
    iterate 3 (focus k_exc)
    iterate 1 (focus kernel_rfl)
