import PyProof.Rows.All
import Wide.All
import OpenK.AllK
import Wide.FinOn
import Lean
import PyProof.EqAt
import PyProof.EqKinds
import PyProof.TupleCall
import PySem.Challenge.RW_tapeproof_k91_whole_fast
local macro_rules | `(tactic| omega) => `(tactic| lia)
set_option Elab.async false
set_option linter.all false
set_option maxRecDepth 100000
abbrev Ua:=@PySem.wpAny_bind
abbrev Ub:=@PySem.Heap.get?_push_of_some
abbrev Uc:=@Nat.le_refl
abbrev Ud:=@if_pos
abbrev Ue:=@if_neg
abbrev Uf:=@List.size_toArray
abbrev Ug:=@Bool.false_ne_true
abbrev Uh:=@PySem.wpAny_pure
abbrev Ui:=@PySem.Heap.lt_size
abbrev Uj:=@PyProof.Rows.wpS_bind
abbrev Uk:=@List.getElem?_set_ne
abbrev Ul:=@List.getElem?_eq_some_iff
abbrev Um:=@PyProof.Rows.wpS_pure
abbrev Uo:=@Array.length_toList
abbrev Up:=@PySem.Heap.get?_push_size
abbrev Uq:=@Nat.lt_of_lt_of_le
abbrev Ur:=@List.length_map
abbrev Us:=@List.length_append
abbrev Ut:=@Nat.le_trans
abbrev Uu:=@List.mem_cons_self
abbrev Uv:=@List.mem_cons_of_mem
abbrev Uw:=@List.mem_singleton
abbrev Ux:=@List.getElem?_append_right
abbrev Uy:=@List.getElem?_map
abbrev Uz:=@List.mem_append_right
abbrev UA:=@List.getElem?_append_left
abbrev UB:=@decide_eq_false
abbrev UC:=@decide_eq_true
abbrev UD:=@Nat.ne_of_lt
abbrev UE:=@List.mem_cons
abbrev UG:=@List.append_assoc
abbrev UH:=@PySem.W.mg_none_of
abbrev UI:=@List.map_cons
abbrev UJ:=@of_decide_eq_true
abbrev UK:=@List.getElem_mem
abbrev UL:=@List.getElem?_eq_getElem
abbrev UM:=@List.append_nil
abbrev UN:=@List.take_succ_eq_append_getElem
abbrev UO:=@List.find?_cons
abbrev UP:=@Int.le_trans
abbrev UQ:=@Array.toList_append
abbrev UR:=@PyProof.Rows.callWith_type1
abbrev US:=@List.length_cons
abbrev UT:=@Bool.and_eq_true
abbrev UU:=@Array.getElem_mem
abbrev UV:=@PySem.wpAny_field
abbrev UW:=@List.getElem?_eq_none_iff
abbrev UX:=@List.mem_append
abbrev UY:=@PyProof.Rows.slot_tuple_getitem
abbrev UZ:=@Int.le_refl
abbrev U0:=@List.replicate_succ
abbrev U1:=@List.getElem_of_mem
abbrev U2:=@PySem.W.kia_one
abbrev U3:=@Nat.le_of_lt
abbrev U4:=@PySem.wpAny_newObj_type
abbrev U5:=@List.pairwise_append
abbrev U6:=@PySem.Heap.get?_update_other
abbrev U7:=@PyProof.Rows.wpS_forRange
abbrev U8:=@PySem.wpAny_mono
abbrev U9:=@List.length_replicate
abbrev Ta:=@List.getElem?_eq_none
abbrev Tc:=@Nat.zero_le
abbrev Td:=@Array.mem_toList_iff
abbrev Te:=@Nat.lt_irrefl
abbrev Tf:=@List.getElem?_set_self
abbrev Tg:=@Nat.le_of_add_right_le
abbrev Th:=@List.length_take
abbrev Ti:=@PySem.wpAny_truthy_bool
abbrev Tj:=@List.take_append_drop
abbrev Tk:=@Int.emod_lt_of_pos
abbrev Tm:=@Int.le_of_lt
abbrev Tn:=@PySem.wpAny_callSpecial?_slot
abbrev To:=@Array.getElem_toList
abbrev Tp:=@List.all_eq_true
abbrev Tq:=@Array.getElem?_eq_some_iff
abbrev Tr:=@Nat.lt_of_succ_lt
abbrev Ts:=@beq_eq_false_iff_ne
abbrev Tt:=@Nat.add_le_add_left
abbrev Tu:=@List.mem_range
abbrev Tv:=@PySem.Heap.size_push
abbrev Tw:=@Int.emod_nonneg
abbrev Tx:=@List.getElem?_toArray
abbrev Tz:=@PyProof.Rows.wpS_mono
abbrev TB:=@List.pairwise_cons
abbrev TC:=@Nat.lt_succ_self
abbrev TD:=@List.length_drop
abbrev TF:=@List.mem_append_left
abbrev TH:=@PySem.wpAny_seqItems
abbrev TJ:=@List.getElem?_cons_zero
abbrev TK:=@PySem.W.kia_tup
abbrev TL:=@List.filterMap_cons
abbrev TM:=@PySem.mem_of_lookup
abbrev TN:=@Int.toNat_of_nonneg
abbrev TQ:=@beq_iff_eq
abbrev TR:=@PySem.wpAny_holding
abbrev TU:=@PySem.wpAny_call_entry
abbrev TV:=@List.any_cons
abbrev TW:=@List.filter_cons
abbrev TX:=@PySem.W.mg_of
abbrev TY:=@PySem.F.slot_tuple_iterator_next
abbrev TZ:=@PySem.wpAny_setField_rec
abbrev T0:=@of_decide_eq_false
abbrev T4:=@Array.getElem?_toList
abbrev T5:=@Decidable.byContradiction
abbrev T6:=@List.extract_eq_take_drop
abbrev T7:=@List.pairwise_iff_getElem
abbrev T8:=@PySem.wpAny_passesOwn
abbrev T9:=@List.length_set
abbrev Ra:=@List.reverse_cons
abbrev Rb:=@List.flatten_cons
abbrev Rc:=@PySem.wpAny_rule
abbrev Re:=@List.length_reverse
abbrev Rf:=@List.getElem?_replicate
abbrev Rg:=@List.getElem?_cons_succ
abbrev Rh:=@Nat.le_add_right
abbrev Ri:=@List.take_length
abbrev Rj:=@Option.map_eq_some_iff
abbrev Rk:=@PySem.wpAny_Call_Name_kw
abbrev Rl:=@Bool.false_eq_true
abbrev Rm:=@Bool.eq_iff_iff
abbrev Rn:=@PySem.Heap.get?_update_self
abbrev Ro:=@PySem.W.kitx_list
abbrev Rq:=@Array.toList_push
abbrev Rr:=@Nat.pred_lt_of_lt
abbrev Rs:=@Array.perm_iff_toList_perm
abbrev Rt:=@List.mem_of_getElem?
abbrev Ru:=@Array.toList_extract
abbrev Rv:=@Array.toList_reverse
abbrev Rw:=@List.drop_eq_getElem_cons
abbrev Rx:=@Nat.zero_add
abbrev Ry:=@List.mem_map
abbrev Rz:=@congrArg
abbrev RA:=@List.reverse_append
abbrev RB:=@PySem.F.args_tuple_add_2
abbrev RC:=@List.mem_filter
abbrev RD:=@List.nil_append
abbrev RE:=@Array.append_assoc
abbrev RG:=@PySem.Obj.data_mapFields
abbrev RH:=@PySem.W.callWith_K
abbrev RI:=@PySem.F.entry_tuple_add
abbrev RJ:=@PySem.F.plainAttrs_list
abbrev RK:=@Nat.add_sub_cancel_left
abbrev RL:=@Int.not_lt
abbrev RM:=@PySem.F.slot_tuple_add
abbrev RN:=@List.take_of_length_le
abbrev RO:=@List.Perm.append_right
abbrev RP:=@Array.getElem?_eq_none
abbrev RQ:=@PySem.wpAny_pyIter_list
abbrev RS:=@Nat.le_pred_of_lt
abbrev RT:=@List.pairwise_map
abbrev RU:=@PySem.wpAny_setField
abbrev RV:=@PyProof.Rows.K_mirror_equal
abbrev RW:=@Nat.ne_of_gt
abbrev RX:=@Nat.le_of_eq
abbrev RY:=@PySem.wpAny_typeOf
abbrev RZ:=@List.set_set
abbrev R0:=@List.Perm.append_left
abbrev Wa:=@List.perm_append_comm
abbrev Wb:=@List.length_filter_le
abbrev Wc:=@Nat.le_of_not_lt
abbrev Wd:=@beq_self_eq_true
abbrev We:=@Nat.succ_le_succ
abbrev Wf:=@List.cons_append
abbrev Wg:=@List.all_cons
abbrev Wh:=@PySem.wpAny_updateSeq_pair
abbrev Wi:=@PySem.Around.under_plainId
abbrev Wj:=@PySem.sizeLine_eq
abbrev Wk:=@Nat.le_succ
abbrev Wl:=@PySem.F.args_tuple_iterator_next_1
abbrev Wm:=@PySem.wpAny_execs_nil
abbrev Wn:=@List.nodup_cons
abbrev Wo:=@List.forIn_cons
abbrev Wp:=@PySem.F.slot_zip_next
abbrev Wq:=@Array.size_push
abbrev Wr:=@PySem.wpAny_specialOf
abbrev Ws:=@List.map_append
abbrev Wt:=@PySem.W.plainGet_of
abbrev Wu:=@if_true
abbrev Wv:=@Bool.or_eq_true_iff
abbrev Ww:=@Nat.add_sub_cancel'
abbrev Wx:=@PySem.F.entry_tuple_iterator_next
abbrev Wy:=@PySem.codeAny_mono
abbrev Wz:=@PySem.Calls.Name_function_global
abbrev WA:=@PySem.F.excBase_ValueError
abbrev WB:=@Array.toList_setIfInBounds
abbrev WC:=@PyProof.Rows.assignInOrder_cons
abbrev WD:=@List.mem_filterMap
abbrev WE:=@PySem.W.kitx_tuple
abbrev WF:=@PySem.Calls.spliced_cons
abbrev WG:=@PySem.SeqAt.EqAt.int_int
abbrev WH:=@Nat.lt_of_le_of_ne
abbrev WI:=@Nat.pos_of_ne_zero
abbrev WJ:=@Nat.lt_of_le_of_lt
abbrev WK:=@List.forIn_nil
abbrev WL:=@List.drop_drop
abbrev WM:=@List.take_zero
abbrev WN:=@PySem.call_meets
abbrev WO:=@PyProof.Rows.wpS_get
abbrev WP:=@PyProof.Rows.wpS_modify
abbrev WQ:=@Array.getElem?_eq_getElem
abbrev WR:=@if_false
abbrev WS:=@PySem.W.kitx_dict
abbrev WT:=@PySem.Calls.spliced_nil
abbrev WU:=@Int.toNat_natCast
abbrev WV:=@Array.size_append
abbrev WW:=@Option.isSome_iff_exists
abbrev WX:=@List.getElem?_take_of_lt
abbrev WZ:=@PySem.wpAny_standAt
abbrev W0:=@PySem.wpAny_onRaise
abbrev W1:=@PySem.plainId_quiet
abbrev W4:=@List.eraseIdx_cons_succ
abbrev W5:=@Nat.succ_pred_eq_of_pos
abbrev W6:=@PySem.F.plainAttrs_dict
abbrev W7:=@PySem.noFill_tuple_add
abbrev W8:=@PySem.wpAny_isInstance
abbrev W9:=@PySem.Heap.size_update
abbrev Ba:=@PySem.W.cellsFrom_some
abbrev Bd:=@List.drop_eq_nil_of_le
abbrev Be:=@List.reverse_singleton
abbrev Bf:=@PyProof.Rows.wpS_lift
abbrev Bg:=@Nat.add_zero
abbrev Bh:=@List.of_mem_zip
abbrev Bi:=@PySem.codeAny_builtin
abbrev Bj:=@Int.natCast_add
abbrev Bk:=@List.length_singleton
abbrev Bm:=@PySem.W.methodCall_KW
abbrev Bn:=@List.dropLast_eq_take
abbrev Bo:=@Nat.add_lt_of_lt_sub'
abbrev Bp:=@Nat.le_sub_of_add_le'
abbrev Bq:=@List.set_append_right
abbrev Bs:=@List.getElem?_reverse
abbrev Bt:=@PySem.F.slot_dict_pop
abbrev Bu:=@PySem.F.slot_dict_get
abbrev By:=@Bool.and_eq_true_iff
abbrev Bz:=@Nat.sub_lt_sub_right
abbrev BA:=@List.reverse_reverse
abbrev BC:=@List.dropLast_concat
abbrev BD:=@PySem.wpAny_letGo
open PySem.W (Frag InitBack Looks any_some bind_fn callWith_K callWith_K0 cellsFrom_some clsIn codeIn codeRec_of emptyDict eq_bytes excIn findIn findObj_own fnOf get_value handedIn hasDictIn hideAll hideAll_get hideAll_none hideAll_size instObj isFn isNs_of_in kdl_call kdl_dict keepIn ki_setAt ki_setBack kia_one kia_tup kitAny kitOne kitx_bool kitx_dict kitx_float kitx_int kitx_list kitx_none kitx_own kitx_str kitx_tuple lookIn looks_clsIn looks_findIn looks_subIn looks_typeIn make_core makesIn makes_of methodCall_KW methodObj method_fn mg_none_of mg_of mroIn ne_bytes nsIn nsMap_none_of_in of_hideAll osa_open plainGet plainGet_of plainOver set_plain specialIn subIn tail_of_in takerIn takesIn typeIn)
namespace L2
open PySem PySem.Spec PyProof.Rows
section
noncomputable abbrev Key:=Sum Int Str
noncomputable def Qfh:Key->Value->Bool
 |.inl k,v=>Value.isInt k v
 |.inr x,v=>Value.isStrOf x v
noncomputable def keyH(w:World):Key->Int
 |.inl k=>hashInt k
 |.inr x=>hashStr w x
theorem QY:∀{k:Key}{v:Value},Qfh k v=true->(∃i t,k=Sum.inl i/\v=Value.int i t)\/(∃x t,k=Sum.inr x/\v=Value.str x t)
 |.inl i,v,h=>by
  obtain⟨t,e⟩:=Value.isInt_shape (k:=i) (v:=v) h
  exact .inl ⟨i,t,rfl,e⟩
 |.inr x,v,h=>by
  obtain⟨t,e⟩:=Value.isStrOf_shape (x:=x) (v:=v) h
  exact .inr ⟨x,t,rfl,e⟩
theorem QhF(i:Int)(t:Tok):Qfh (.inl i) (.int i t)=true:=by simp[Qfh,Value.isInt]
theorem QhG(x:Str)(t:Tok):Qfh (.inr x) (.str x t)=true:=by simp[Qfh,Value.isStrOf]
theorem Qmz(a b:Int):decide ((Sum.inl a:Key)=Sum.inl b)=(a == b):=by
 by_cases e:a=b
 ·subst e;simp
 ·have h:¬(Sum.inl a:Key)=Sum.inl b:=λq=>e (Sum.inl.inj q)
  rw[UB h]
  exact(Ts.mpr e).symm
theorem QmA(a b:Str):decide ((Sum.inr a:Key)=Sum.inr b)=decide (a=b):=by
 by_cases e:a=b
 ·subst e;simp
 ·have h:¬(Sum.inr a:Key)=Sum.inr b:=λq=>e (Sum.inr.inj q)
  rw[UB h,UB e]
theorem QmB(a:Int)(b:Str):decide ((Sum.inl a:Key)=Sum.inr b)=false:=UB (λq=>nomatch q)
theorem QmC(a:Str)(b:Int):decide ((Sum.inr a:Key)=Sum.inl b)=false:=UB (λq=>nomatch q)
noncomputable def Yt(prog:Program)(w:World):PySem.KeyKind prog w Key where
 is:=Qfh
 hash:=keyH w
 inj:=λv a b ha hb=>by
  rcases QY ha with⟨i,t,rfl,rfl⟩|⟨x,t,rfl,rfl⟩
  ·rcases QY hb with⟨j,u,rfl,e⟩|⟨y,u,rfl,e⟩
   ·injection e with e1 _;rw[e1]
   ·exact nomatch e
  ·rcases QY hb with⟨j,u,rfl,e⟩|⟨y,u,rfl,e⟩
   ·exact nomatch e
   ·injection e with e1 _;rw[e1]
 byValue:=λk v h=>by
  rcases QY h with⟨i,t,rfl,rfl⟩|⟨x,t,rfl,rfl⟩ <;> rfl
 pyHash:=λhv h=>by
  rcases QY hv with⟨i,t,rfl,rfl⟩|⟨x,t,rfl,rfl⟩
  ·exact wpAny_pyHash_int h
  ·exact wpAny_pyHash_str h
 eqBool:=λhu hv h=>by
  rcases QY hu with⟨i,t,rfl,rfl⟩|⟨x,t,rfl,rfl⟩
  ·rcases QY hv with⟨j,u,rfl,rfl⟩|⟨y,u,rfl,rfl⟩
   ·rw[Qmz]at h;exact wpAny_eqBool_int h
   ·rw[QmB]at h;exact SeqAt.EqAt.int_str i t y u _ _ _ _ h
  ·rcases QY hv with⟨j,u,rfl,rfl⟩|⟨y,u,rfl,rfl⟩
   ·rw[QmC]at h;exact SeqAt.EqAt.str_int x t j u _ _ _ _ h
   ·rw[QmA]at h;exact wpAny_eqBool_str h
 «strs»:=λk x t v h=>by
  rcases QY h with⟨i,u,rfl,e⟩|⟨y,u,rfl,e⟩
  ·exact nomatch e
  ·injection e with e1 _
   subst e1
   cases v <;> rfl
theorem Qfi(prog:Program)(w:World)(i:Int)(t:Tok):(Yt prog w).is (.inl i) (.int i t)=true:=QhF i t
theorem Qfj(prog:Program)(w:World)(x:Str)(t:Tok):(Yt prog w).is (.inr x) (.str x t)=true:=QhG x t
end
section
inductive V where
 |non|bl (b:Bool)|int (i:Int)|str (x:Str)|byt (b:Array UInt8)|flt (b:UInt64)|ref (a:Addr)|ty (n:String)
 deriving DecidableEq
noncomputable def RelV:V->Value->Prop
 |.non,u=>u=Value.none
 |.bl b,u=>u=Value.bool b
 |.int i,u=>∃t,u=Value.int i t
 |.str x,u=>∃t,u=Value.str x t
 |.byt b,u=>∃t,u=Value.bytes b t
 |.flt b,u=>∃t,u=Value.float b t
 |.ref a,u=>u=Value.ref a
 |.ty n,u=>u=Value.type n
noncomputable abbrev Vals:List V->List Value->Prop:=Paired RelV
theorem Vals.length{xs:List V}{us:List Value}(r:Vals xs us):xs.length=us.length:=Paired.length r
theorem Vals.get:∀{xs:List V}{us:List Value}{i:Nat}{x:V},Vals xs us->xs[i]?=some x->∃u,us[i]?=some u/\RelV x u
 |_,_,_,_,.nil,e=>by simp at e
 |_,_,0,_,.cons r _,e=>by simp at e;subst e;exact⟨_,rfl,r⟩
 |_,_,i+1,x,.cons _ t,e=>by
  obtain⟨u,h1,h2⟩:=Vals.get (i:=i) (x:=x) t (by simpa using e)
  exact⟨u,by simpa using h1,h2⟩
theorem Vals.set{x:V}{u:Value}(r:RelV x u):∀{xs:List V}{us:List Value}(i:Nat),Vals xs us->Vals (xs.set i x) (us.set i u)
 |_,_,_,.nil=>.nil
 |_,_,0,.cons _ t=>.cons r t
 |_,_,i+1,.cons q t=>.cons q (Vals.set r i t)
theorem Vals.append:∀{xs ys:List V}{us ws:List Value},Vals xs us->Vals ys ws->Vals (xs++ys) (us++ws)
 |_,_,_,_,.nil,s=>s
 |_,_,_,_,.cons r t,s=>.cons r (Vals.append t s)
theorem Vals.take:∀{xs:List V}{us:List Value}(n:Nat),Vals xs us->Vals (xs.take n) (us.take n)
 |_,_,0,_=>.nil
 |_,_,_+1,.nil=>.nil
 |_,_,n+1,.cons r t=>.cons r (Vals.take n t)
theorem Vals.drop:∀{xs:List V}{us:List Value}(n:Nat),Vals xs us->Vals (xs.drop n) (us.drop n)
 |_,_,0,r=>r
 |_,_,_+1,.nil=>.nil
 |_,_,n+1,.cons _ t=>Vals.drop n t
theorem Vals.none_of:∀{xs:List V}{us:List Value}{i:Nat},Vals xs us->xs[i]?=none->us[i]?=none:=λ{xs us i} r e=>by
 have h1:=r.length
 have h2:xs.length<=i:=UW.mp e
 exact UW.mpr (by omega)
noncomputable def RelO:Option V->Option Value->Prop
 |some v,some u=>RelV v u
 |none,none=>True
 |_,_=>False
noncomputable def KV{κ:Type}:List (κ×V)->List (κ×Value)->Prop:=Paired λ(p:κ×V)(q:κ×Value)=>p.1=q.1/\RelV p.2 q.2
noncomputable def kV:Key->V
 |.inl i=>.int i
 |.inr x=>.str x
inductive HO where
 /-- a list -/
 |lst (xs:List V)
 /-- a tuple (never changes) -/
 |tup (xs:List V)
 /-- a dict whose keys are ints and texts;one whose keys are tuples of ints and texts (the empty one is both) -/
 |dK (kvs:List (Key×V))|dT (kvs:List (List Key×V))
 /-- a set of ints: its members,its size -/
 |set (S:Int->Bool) (n:Nat)
 /-- an instance of the class at C,its dict at dx,its attributes -/
 |ins (C dx:Addr) (fs:List (Str×V))
 /-- the dict of the instance at x -/
 |own (x:Addr)
 /-- the dict of an exception -/
 |xd (fs:List (Str×V))
 /-- a bound method,f of x -/
 |met (f x:Addr)
 /-- a range object lo,lo+1,.. below hi -/
 |rng (lo hi:Int)
 /-- a thing that is known to the object (the script;a dict while a loop walks it): read,never written while it is so -/
 |frz (o:Obj) (u:HO)
 /-- a code object's table -/
 |tbl (ps:Array Value)
 /-- any other thing,by what is true of its one object (a def of one's own: SetO a S n:=HO.ext λh=>..) -/
 |ext (φ:Heap->Prop)
noncomputable abbrev Hp:=Addr->Option HO
noncomputable def upd(H:Hp)(a:Addr)(o:HO):Hp:=λb=>if b=a then some o else H b
theorem Ql{H:Hp}{a:Addr}{o:HO}:upd H a o a=some o:=by unfold upd;rw[Ud rfl]
theorem Qp{H:Hp}{a b:Addr}{o:HO}(h:b≠a):upd H a o b=H b:=by unfold upd;rw[Ue h]
theorem Qk6{H:Hp}{a b:Addr}{o u:HO}(h:H a=some o)(h':H b=some u)(d:o≠u):a≠b:=by
 intro e;subst e;rw[h]at h';exact d (Option.some.inj h')
theorem QF{H:Hp}{a b:Addr}{o:HO}(h:H a=some o)(h':H b=none):a≠b:=by
 intro e;subst e;rw[h]at h';cases h'
section
variable(P:Program)(w:World)
noncomputable def ObjOk(H:Hp)(h:Heap)(a:Addr):HO->Prop
 |.lst xs=>xs.length<=sizeLine/\∃(its:List Value)(n:Nat),Vals xs its/\h.get? a=some {cls:=.type "list",data:=.seq its.toArray n}
 |.tup xs=>xs.length<=sizeLine/\∃its:List Value,Vals xs its/\IsTup h a its.toArray
 |.dK kvs=>kvs.length<=sizeLine/\(a == sysModules)=false/\∃vs,KV kvs vs/\h.DictOf (Yt P w) a vs
 |.dT kvs=>kvs.length<=sizeLine/\(a == sysModules)=false/\∃xs:List (List Key×Addr×Value),
   Paired (λ(p:List Key×V)(q:List Key×Addr×Value)=>p.1=q.1/\H q.2.1=some (.tup (p.1.map kV))/\RelV p.2 q.2.2) kvs xs /\
   ∃o es ep,h.get? a=some o/\o.ExactDict/\o.data=.dict es ep/\es.toList=xs.map (entryOfKey (tupleKind (Yt P w)))/\(xs.map (·.1)).Nodup
 |.set S n=>h.SetOf (intKind P w) a S n
 |.ins C dx fs=>H dx=some (.own a)/\fs.length<=1000/\dx≠a/\h.get? a=some (instObj C dx) /\
   ∃mA,h.Ns1 dx mA/\(∀f,RelO (fs.lookup f) (mA f))/\PySem.Within mA (fs.map (·.1))
 |.own _=>∃o,h.get? a=some o
 |.xd fs=>∃mA,h.Ns1 a mA/\∀f,RelO (fs.lookup f) (mA f)
 |.rng lo hi=>∃t u v,h.get? a=some {cls:=.type "range",data:=.fields #[.int lo t,.int hi u,.int 1 v]}
 |.frz o u=>h.get? a=some o/\ObjOk H h a u
 |.tbl ps=>h.get? a=some {cls:=.none,data:=.fields ps}
 |.met f x=>h.get? a=some (methodObj (.ref f) (.ref x))
 |.ext φ=>φ h/\(∃o,h.get? a=some o)/\∀h1 h2:Heap,φ h1->(∀o,h1.get? a=some o->h2.get? a=some o)->φ h2
def HOk(H:Hp)(h:Heap):Prop:=∀a o,H a=some o->ObjOk P w H h a o
end
section
variable{P:Program}{w:World}{H H':Hp}{h h':Heap}{a:Addr}{o:HO}
theorem ObjOk.lt(x:ObjOk P w H h a o):a<h.objs.size:=by
 cases o with
 |lst xs=>obtain⟨_,_,_,_,e⟩:=x;exact Ui e
 |tup xs=>obtain⟨_,_,_,p⟩:=x;exact p.lt
 |dK kvs=>obtain⟨_,_,_,_,o,_,_,e,_⟩:=x;exact Ui e
 |dT kvs=>obtain⟨_,_,_,_,o,_,_,e,_⟩:=x;exact Ui e
 |set S n=>obtain⟨o,_,_,_,e,_⟩:=x;exact Ui e
 |ins C dx fs=>obtain⟨_,_,_,e,_⟩:=x;exact Ui e
 |own y=>obtain⟨_,e⟩:=x;exact Ui e
 |xd fs=>obtain⟨_,⟨_,_,_,e,_⟩,_⟩:=x;exact Ui e
 |rng lo hi=>obtain⟨_,_,_,e⟩:=x;exact Ui e
 |frz ob u=>obtain⟨e,_⟩:=x;exact Ui e
 |tbl ps=>exact Ui (show h.get? a=some _ from x)
 |met f y=>exact Ui (show h.get? a=some _ from x)
 |ext φ=>obtain⟨_,⟨_,e⟩,_⟩:=x;exact Ui e
theorem Paired.mapP{α β:Type}{F G:α->β->Prop}:∀{l₁:List α}{l₂:List β},Paired F l₁ l₂->(∀a b,F a b->G a b)->Paired G l₁ l₂
 |_,_,.nil,_=>.nil
 |_,_,.cons r t,f=>.cons (f _ _ r) (Paired.mapP t f)
theorem Paired.imp'{α β:Type}{F G:α->β->Prop}(f:∀a b,F a b->G a b){l₁:List α}{l₂:List β}(r:Paired F l₁ l₂):Paired G l₁ l₂:=Paired.mapP r f
theorem ObjOk.stay(x:ObjOk P w H h a o)(k:∀b u,(b=a\/H b=some (.own a))->h.get? b=some u->h'.get? b=some u)(ho:∀b,H b=some (.own a)->H' b=some (.own a))(ht:∀b xs,H b=some (.tup xs)->H' b=some (.tup xs)):ObjOk P w H' h' a o:=by
 induction o with
 |lst xs=>obtain⟨z,its,n,r,e⟩:=x;exact⟨z,its,n,r,k _ _ (.inl rfl) e⟩
 |tup xs=>obtain⟨z,its,r,ob,e,c⟩:=x;exact⟨z,its,r,ob,k _ _ (.inl rfl) e,c⟩
 |dK kvs=>obtain⟨z,y,vs,r,ob,es,ep,e,c⟩:=x;exact⟨z,y,vs,r,ob,es,ep,k _ _ (.inl rfl) e,c⟩
 |dT kvs =>
  obtain⟨z,y,xs,r,ob,es,ep,e,c⟩:=x
  exact⟨z,y,xs,Paired.mapP r λp q z=>⟨z.1,ht _ _ z.2.1,z.2.2⟩,ob,es,ep,k _ _ (.inl rfl) e,c⟩
 |set S n=>obtain⟨ob,es,ep,t,e,c⟩:=x;exact⟨ob,es,ep,t,k _ _ (.inl rfl) e,c⟩
 |ins C dx fs =>
  obtain⟨d,z,ne,e,mA,⟨od,es,ep,e2,c⟩,r⟩:=x
  exact⟨ho _ d,z,ne,k _ _ (.inl rfl) e,mA,⟨od,es,ep,k _ _ (.inr d) e2,c⟩,r⟩
 |own y=>obtain⟨ob,e⟩:=x;exact⟨ob,k _ _ (.inl rfl) e⟩
 |xd fs=>obtain⟨mA,⟨od,es,ep,e,c⟩,r⟩:=x;exact⟨mA,⟨od,es,ep,k _ _ (.inl rfl) e,c⟩,r⟩
 |rng lo hi=>obtain⟨t,u,v,e⟩:=x;exact⟨t,u,v,k _ _ (.inl rfl) e⟩
 |frz ob u ih=>obtain⟨e,q⟩:=x;exact⟨k _ _ (.inl rfl) e,ih q⟩
 |tbl ps =>
  have e:h.get? a=some {cls:=.none,data:=.fields ps}:=x
  show h'.get? a=some {cls:=.none,data:=.fields ps}
  exact k a _ (.inl rfl) e
 |met f y =>
  have e:h.get? a=some (methodObj (.ref f) (.ref y)):=x
  show h'.get? a=some (methodObj (.ref f) (.ref y))
  exact k a _ (.inl rfl) e
 |ext φ=>obtain⟨p,⟨o,e⟩,st⟩:=x;exact⟨st _ _ p λo q=>k _ _ (.inl rfl) q,⟨o,k _ _ (.inl rfl) e⟩,st⟩
theorem HOk.lt(x:HOk P w H h)(e:H a=some o):a<h.objs.size:=(x a o e).lt
theorem HOk.fresh(x:HOk P w H h)(e:h.objs.size<=a):H a=none:=by
 cases q:H a with
 |none=>rfl
 |some u=>exact absurd (Uq (x.lt q) e) (Te _)
theorem HOk.kept(x:HOk P w H h)(k:∀b u,h.get? b=some u->h'.get? b=some u):HOk P w H h':=λa o e =>
 (x a o e).stay (λb u _ q=>k b u q) (λ_ q=>q) λ_ _ q=>q
theorem HOk.laid(x:HOk P w H h)(k:∀b u,h.get? b=some u->h'.get? b=some u)(hp:h.objs.size<=a)(new:ObjOk P w (upd H a o) h' a o):HOk P w (upd H a o) h':=λb u e=>by
 have hn:=x.fresh hp
 by_cases hb:b=a
 ·subst hb;rw[Ql]at e;cases e;exact new
 ·rw[Qp hb]at e
  exact(x b u e).stay (λc v _ q=>k c v q) (λc q=>by rw[Qp (QF q hn)];exact q) λc xs q=>by rw[Qp (QF q hn)];exact q
end
def Rd(H:Hp)(a:Addr)(u:HO):Prop:=H a=some u\/∃o,H a=some (.frz o u)
theorem Rd.of{H:Hp}{a:Addr}{u:HO}(h:H a=some u):Rd H a u:=.inl h
theorem Rd.ok{P:Program}{w:World}{H:Hp}{h:Heap}{a:Addr}{u:HO}(r:Rd H a u)(x:HOk P w H h):ObjOk P w H h a u:=by
 rcases r with r|⟨o,r⟩
 ·exact x a u r
 ·obtain⟨_,q⟩:=x a _ r
  exact q
noncomputable def Mut:Option HO->Prop
 |some (.lst _)=>True
 |some (.dK _)=>True
 |some (.dT _)=>True
 |some (.set _ _)=>True
 |some (.ins _ _ _)=>True
 |some (.ext _)=>True
 |_=>False
section
variable{P:Program}{w:World}{H:Hp}{h h':Heap}{x e:Addr}{o':HO}
theorem HOk.write(ok:HOk P w H h)(mu:Mut (H x))(he:e=x\/H e=some (.own x))(k:∀b u,b≠e->h.get? b=some u->h'.get? b=some u)(heo:∃u,h'.get? e=some u)(new:ObjOk P w (upd H x o') h' x o'):HOk P w (upd H x o') h':=λb u q=>by
 have nown:∀c y,H c=some (.own y)->c≠x:=λc y r z=>by subst z;rw[r]at mu;exact mu
 have ntup:∀c xs,H c=some (.tup xs)->c≠x:=λc xs r z=>by subst z;rw[r]at mu;exact mu
 by_cases hb:b=x
 ·subst hb;rw[Ql]at q;cases q;exact new
 ·rw[Qp hb]at q
  by_cases hbe:b=e
  ·have q':H b=some (.own x):=by
    rcases he with z|z
    ·exact absurd (hbe.trans z) hb
    ·rw[hbe];exact z
   rw[q]at q';cases q'
   obtain⟨v,hv⟩:=heo
   exact⟨v,by rw[hbe];exact hv⟩
  ·refine(ok b u q).stay (λc v hc r=>k c v ?_ r) (λc r=>by rw[Qp (nown c b r)];exact r) λc xs r=>by rw[Qp (ntup c xs r)];exact r
   rcases hc with rfl|hc
   ·exact hbe
   ·rintro rfl
    rcases he with z|z
    ·exact nown c b hc z
    ·rw[hc]at z;cases z;exact hb rfl
end
structure Un(fs ex:List Addr)(H H':Hp)(h h':Heap):Prop where
 keep:∀b o,h.get? b=some o->H b=none->b∉fs->b∉ex->h'.get? b=some o
 slot:∀b o,h.get? b=some o->H b=none->b∈fs->b∉ex->∃sl,h'.get? b=some {o with slots:=sl}
 free:∀b o,h.get? b=some o->H b=none->b∉ex->H' b=none
 there:∀b o,h.get? b=some o->b∉ex->∃o',h'.get? b=some o'
 tups:∀b xs,H b=some (.tup xs)->H' b=some (.tup xs)
 frzs:∀b o u,H b=some (.frz o u)->H' b=some (.frz o u)
 tbls:∀b ps,H b=some (.tbl ps)->∃more,H' b=some (.tbl (ps++more))
section
variable{fs fs' ex ex':List Addr}{H H1 H2:Hp}{h h1 h2 h':Heap}{a x e:Addr}{o:HO}
theorem Un.any(u:Un fs ex H H1 h h1){b:Addr}{ob:Obj}(q:h.get? b=some ob)(n:H b=none)(hx:b∉ex):∃sl,h1.get? b=some {ob with slots:=sl}:=by
 by_cases hb:b∈fs
 ·exact u.slot b ob q n hb hx
 ·exact⟨ob.slots,u.keep b ob q n hb hx⟩
theorem Un.trans(a:Un fs ex H H1 h h1)(b:Un fs ex H1 H2 h1 h2):Un fs ex H H2 h h2 where
 keep:=λc ob q n hc hx=>b.keep c ob (a.keep c ob q n hc hx) (a.free c ob q n hx) hc hx
 slot:=λc ob q n hc hx=>by
  obtain⟨sl,e1⟩:=a.slot c ob q n hc hx
  obtain⟨sl',e2⟩:=b.slot c _ e1 (a.free c ob q n hx) hc hx
  exact⟨sl',e2⟩
 free:=λc ob q n hx=>by
  obtain⟨o',e1⟩:=a.there c ob q hx
  exact b.free c o' e1 (a.free c ob q n hx) hx
 there:=λc ob q hx=>by
  obtain⟨o',e1⟩:=a.there c ob q hx
  exact b.there c o' e1 hx
 tups:=λc xs q=>b.tups c xs (a.tups c xs q)
 frzs:=λc ob xs q=>b.frzs c ob xs (a.frzs c ob xs q)
 tbls:=λc ps q=>by
  obtain⟨m1,e1⟩:=a.tbls c ps q
  obtain⟨m2,e2⟩:=b.tbls c _ e1
  exact⟨m1++m2,by rw[e2,RE]⟩
theorem Un.kept(k:∀b u,h.get? b=some u->h'.get? b=some u):Un fs ex H H h h' :=
 ⟨λb ob q _ _ _=>k b ob q,λb ob q _ _ _=>⟨ob.slots,k b ob q⟩,λ_ _ _ n _=>n,λb ob q _=>⟨ob,k b ob q⟩,λ_ _ q=>q,λ_ _ _ q=>q,λ_ ps q=>⟨#[],by rw[q];simp⟩⟩
theorem Un.refl:Un fs ex H H h h:=Un.kept λ_ _ q=>q
theorem Un.laid(k:∀b u,h.get? b=some u->h'.get? b=some u)(hp:h.objs.size<=a)(hn:H a=none):Un fs ex H (upd H a o) h h' where
 keep:=λb u q _ _ _=>k b u q
 slot:=λb u q _ _ _=>⟨u.slots,k b u q⟩
 free:=λb u q n _=>by rw[Qp (UD (Uq (Ui q) hp))];exact n
 there:=λb u q _=>⟨u,k b u q⟩
 tups:=λb xs q=>by rw[Qp (QF q hn)];exact q
 frzs:=λb u xs q=>by rw[Qp (QF q hn)];exact q
 tbls:=λb ps q=>⟨#[],by rw[Qp (QF q hn),q];simp⟩
theorem Un.write(mu:Mut (H x))(he:e=x\/H e=some (.own x))(k:∀b u,b≠e->h.get? b=some u->h'.get? b=some u)(heo:∃u,h'.get? e=some u):Un fs ex H (upd H x o) h h':=by
 have hx:∀b,H b=none->b≠x:=λb n z=>by subst z;rw[n]at mu;exact mu
 have hb:∀b,H b=none->b≠e:=λb n z=>by
  subst z
  rcases he with r|r
  ·exact hx b n r
  ·rw[n]at r;cases r
 have hm:∀b u,H b=some u->¬Mut (some u)->b≠x:=λb u q nm z=>by subst z;rw[q]at mu;exact nm mu
 refine⟨λb u q n _ _=>k b u (hb b n) q,λb u q n _ _=>⟨u.slots,k b u (hb b n) q⟩,λb u q n _=>by rw[Qp (hx b n)];exact n,λb u q _=>?_,
  λb xs q=>by rw[Qp (hm b _ q λz=>z)];exact q,λb u xs q=>by rw[Qp (hm b _ q λz=>z)];exact q,λb ps q=>⟨#[],by rw[Qp (hm b _ q λz=>z),q];simp⟩⟩
 by_cases hbe:b=e
 ·subst hbe;exact heo
 ·exact⟨u,k b u hbe q⟩
theorem Un.mono(u:Un fs ex H H1 h h1)(hs:∀b∈fs,b∈fs')(hx:∀b∈ex,b∈ex'):Un fs' ex' H H1 h h1 :=
 ⟨λb ob q n hb he=>u.keep b ob q n (λz=>hb (hs b z)) λz=>he (hx b z),λ_ _ q n _ he=>u.any q n λz=>he (hx _ z),λb ob q n he=>u.free b ob q n λz=>he (hx b z),λb ob q he=>u.there b ob q λz=>he (hx b z),u.tups,u.frzs,u.tbls⟩
end
noncomputable def trk(h:Heap)(H:Hp):List Addr:=(List.range h.objs.size).filter λa=>(H a).isSome
noncomputable def hidT(h:Heap)(H:Hp):Heap:=hideAll h (trk h H)
theorem QhH(h:Heap)(H:Hp):(hidT h H).objs.size=h.objs.size:=hideAll_size _ _
theorem Qjt{h:Heap}{H:Hp}{b:Addr}{o:Obj}(e:h.get? b=some o)(n:H b=none):(hidT h H).get? b=some o :=
 hideAll_get _ e λhm=>by
  have q:(H b).isSome=true:=(RC.mp hm).2
  rw[n]at q;simp at q
theorem Qk7{h:Heap}{H:Hp}{b:Addr}{o:Obj}(e:(hidT h H).get? b=some o):h.get? b=some o/\H b=none:=by
 have e':h.get? b=some o:=of_hideAll (trk h H) e
 refine⟨e',?_⟩
 cases q:H b with
 |none=>rfl
 |some x =>
  have hm:b∈trk h H:=RC.mpr ⟨Tu.mpr (Ui e'),by simp[q]⟩
  have z:(hidT h H).get? b=none:=hideAll_none (trk h H) hm
  rw[z]at e;cases e
noncomputable def Qk8(g h:Heap)(L:Addr):List (Addr×Obj):=(List.range h.objs.size).filterMap λa=>if a=L\/(g.get? a).isSome=true then none else (h.get? a).map λo=>(a,o)
noncomputable def rest(g h:Heap)(L d:Addr):List (Addr×Obj):=(Qk8 g h L).filter λp=>decide (p.1≠d)
end
section
structure Mod(K:Frag)(mg:Str->Option Value)(base:Heap):Prop where
 kin:K.In base
 glob:base.Ns mainGlobals mg
 blt:∃mb,base.Ns builtinsNs mb/\∀x:Str,x ≠ "__name__" -> mb x=bootBuiltins x
 nolimit:base.NoLimit
/-- the context: a def's body (or a comprehension's block) running. base: fixed through the whole law;s₀,H₀: the entry;outer: the frames whose slots others may change (a def's callers);stack: all frames that run;
   ex: iterators that were made ahead of the entry and are walked here (a comprehension's);fn: the names whose cells were made at the entry (a def: all;a comprehension's block: its own);calm: not within an except suite;pn: pins that every state bears;xe: what is wanted of an exception that leaves the code -/
structure Cx where
 prog:Program
 w:World
 K:Frag
 mg:Str->Option Value
 base:Heap
 A:Around
 N:List Str
 s₀:Shared
 H₀:Hp
 env:Env
 outer:List Env
 stack:List Env
 ex:List Addr
 fn:Str->Bool
 calm:Bool
 pn:List (Addr×Obj)
 xe:Value->Shared->Prop
noncomputable def frs(l:List Env):List Addr:=l.filterMap (·.frame)
noncomputable abbrev Cx.fs(X:Cx):List Addr:=frs X.outer
def Vis(sc:Scope)(x:Str):Prop:=sc.names.lookup x=some .local\/sc.names.lookup x=some .cell\/sc.names.lookup x=some .free
def Loc(sc:Scope)(x:Str):Prop:=sc.names.lookup x=some .local\/sc.names.lookup x=some .cell
noncomputable def Look(env:Env)(h:Heap)(m:Str->Option Value)(x:Str)(u:Value):Prop :=
 (env.kindOf x=some .local/\m x=some u)\/((env.kindOf x=some .cell\/env.kindOf x=some .free)/\∃c,env.cells.lookup x=some c/\h.IsCell c (some u))
structure Cx.Ok(X:Cx):Prop where
 mod:Mod X.K X.mg X.base
 kind:X.env.scope.kind=.function
 glob:X.env.globals=mainGlobals
 blt:X.env.builtins=builtinsNs
 above:X.s₀.heap.objs.size<=X.env.locals
 inj:∀x y c,X.env.cells.lookup x=some c->X.env.cells.lookup y=some c->x=y
 has:∀x,(X.env.kindOf x=some .cell\/X.env.kindOf x=some .free)->∃c,X.env.cells.lookup x=some c
 cab:∀x c,X.fn x=true->X.env.cells.lookup x=some c->X.s₀.heap.objs.size<=c
 hd:X.calm=true->X.A.handled=none
 frames:X.A.frames=some X.stack
 stk:X.stack=X.outer\/(X.stack=X.env::X.outer/\X.env.frame=some X.env.locals)
 exf:∀b∈X.ex,b≠X.env.locals/\∀x c,X.env.cells.lookup x=some c->c≠b
 bs:∀b o,X.base.get? b=some o->X.s₀.heap.get? b=some o/\X.H₀ b=none
 bsz:X.base.objs.size<=X.s₀.heap.objs.size
 noex:∀b o,X.base.get? b=some o->b∉X.ex
 exfs:∀b∈X.ex,b∉X.fs
 funs:X.s₀.heap.FunFrames X.base X.outer
 frf:∀b∈X.fs,X.H₀ b=none
structure Inv(X:Cx)(pins:List (Addr×Obj))(σ:List (Option V))(H:Hp)(s:Shared):Prop where
 ok:X.Ok
 os:s.os=X.s₀.os
 bare:AllBare s.gens
 base:Un X.fs X.ex X.H₀ H X.s₀.heap s.heap
 loc:∃m,s.heap.Ns X.env.locals m/\∀(i:Nat)(x:Str)(v:V),X.N[i]?=some x->σ[i]?=some (some v)->Vis X.env.scope x->∃u,RelV v u/\Look X.env s.heap m x u
 cell:∀x c,X.env.cells.lookup x=some c->∃v,s.heap.IsCell c v
 free:H X.env.locals=none
 freeC:∀x c,X.env.cells.lookup x=some c->H c=none
 pin:∀p∈X.pn++pins,s.heap.get? p.1=some p.2/\H p.1=none/\p.1≠X.env.locals/\p.1∉X.fs/\∀v,p.2.data≠.cell v
 hok:HOk X.prog X.w H s.heap
 len:σ.length=X.N.length
section
variable{X:Cx}{pins:List (Addr×Obj)}{σ:List (Option V)}{H H':Hp}{s:Shared}{h':Heap}
theorem Cx.Ok.nofr(ok:X.Ok){b:Addr}{o:Obj}(e:X.base.get? b=some o):b∉X.fs:=λhb=>by
 have:=(ok.funs.mem hb).1
 rw[e]at this;cases this
theorem Inv.bs(I:Inv X pins σ H s):∀b o,X.base.get? b=some o->s.heap.get? b=some o/\H b=none:=λb o e =>
 ⟨I.base.keep b o (I.ok.bs b o e).1 (I.ok.bs b o e).2 (I.ok.nofr e) (I.ok.noex b o e),I.base.free b o (I.ok.bs b o e).1 (I.ok.bs b o e).2 (I.ok.noex b o e)⟩
theorem Inv.bk(I:Inv X pins σ H s):∀b o,X.base.get? b=some o->s.heap.get? b=some o:=λb o e=>(I.bs b o e).1
theorem Inv.mod(I:Inv X pins σ H s):Mod X.K X.mg X.base:=I.ok.mod
theorem Inv.kIn(I:Inv X pins σ H s):X.K.In s.heap:=I.ok.mod.kin.keeps I.bk
theorem Inv.nolimit(I:Inv X pins σ H s):s.heap.NoLimit:=I.ok.mod.nolimit.keeps I.bk
theorem Inv.fr(I:Inv X pins σ H s):∃m,Fr X.base X.env.locals s.heap m :=
 let ⟨m,hn,_⟩:=I.loc
 ⟨m,hn,I.bk,Ut I.ok.bsz I.ok.above⟩
theorem Inv.lt(I:Inv X pins σ H s):X.env.locals<s.heap.objs.size:=let ⟨_,hn,_⟩:=I.loc;hn.lt
theorem Inv.sz(I:Inv X pins σ H s):X.s₀.heap.objs.size<=s.heap.objs.size:=Ut I.ok.above (U3 I.lt)
theorem Inv.nofs(I:Inv X pins σ H s){a:Addr}(h:s.heap.objs.size<=a):a∉X.fs:=λhb=>by
 obtain⟨_,o,ho,_⟩:=I.ok.funs.mem hb
 exact absurd (Uq (Ui ho) (Ut I.sz h)) (Te _)
theorem Inv.cne(I:Inv X pins σ H s):∀x c,X.env.cells.lookup x=some c->c≠X.env.locals:=λx c e z=>by
 obtain⟨v,o,ho,hd⟩:=I.cell x c e
 obtain⟨m,⟨o',es,ep,ho',hd',_⟩,_⟩:=I.loc
 rw[z,ho']at ho;cases ho;rw[hd']at hd;cases hd
theorem Inv.funs(I:Inv X pins σ H s):s.heap.FunFrames X.base X.outer:=by
 have all:∀(l:List Env),(∀b∈frs l,b∈X.fs)->X.s₀.heap.FunFrames X.base l->s.heap.FunFrames X.base l:=by
  intro l
  induction l with
  |nil=>intro _ _;trivial
  |cons env r ih =>
   intro hs hl
   obtain⟨hk,⟨L,o,hf,hn,ho,hd⟩,hr⟩:=hl
   have hL:L∈X.fs:=hs L (by unfold frs;rw[TL,hf];exact Uu)
   obtain⟨sl,e⟩:=I.base.slot L o ho (I.ok.frf L hL) hL λz=>I.ok.exfs L z hL
   exact⟨hk,⟨L,_,hf,hn,e,hd⟩,ih (λb hb=>hs b (by unfold frs;rw[TL,hf];exact Uv _ hb)) hr⟩
 exact all X.outer (λ_ hb=>hb) I.ok.funs
theorem Inv.stack(I:Inv X pins σ H s):s.heap.FunFrames X.base X.stack:=by
 rcases I.ok.stk with e|⟨e,hf⟩
 ·rw[e];exact I.funs
 ·rw[e]
  obtain⟨m,hn,_⟩:=I.loc
  refine .cons (by rw[I.ok.kind];decide) hf hn ?_ I.funs
  exact Heap.get?_none_of_le (Ut I.ok.bsz I.ok.above)
theorem Inv.stkSub(I:Inv X pins σ H s):∀b∈frs X.stack,b∈X.env.locals::X.fs:=λb hb=>by
 rcases I.ok.stk with e|⟨e,hf⟩
 ·rw[e]at hb;exact Uv _ hb
 ·rw[e]at hb
  unfold frs at hb
  rw[TL,hf]at hb
  exact hb
theorem Inv.stkFree(I:Inv X pins σ H s):∀b∈frs X.stack,H b=none:=λb hb=>by
 rcases UE.mp (I.stkSub b hb) with e|hb
 ·rw[e];exact I.free
 ·obtain⟨_,o,ho,_⟩:=I.ok.funs.mem hb
  exact I.base.free b o ho (I.ok.frf b hb) λz=>I.ok.exfs b z hb
theorem Inv.step{g':Array GenState}{t':Nat}{d':Drawn}{ch:List Addr}(I:Inv X pins σ H s)(hch:∀b∈ch,(b∈X.ex\/X.s₀.heap.objs.size<=b)/\b≠X.env.locals/\(∀x c,X.env.cells.lookup x=some c->c≠b)/\∀p∈X.pn++pins,p.1≠b)(keep:∀b o,b≠X.env.locals->b∉X.fs->b∉ch->s.heap.get? b=some o->H b=none->h'.get? b=some o)(slot:∀b o,b≠X.env.locals->b∈X.fs->b∉ch->s.heap.get? b=some o->H b=none->∃sl,h'.get? b=some {o with slots:=sl})(free:∀b o,b∉ch->s.heap.get? b=some o->H b=none->H' b=none)(there:∀b o,b∉ch->s.heap.get? b=some o->∃o',h'.get? b=some o')(tups:∀b xs,H b=some (.tup xs)->H' b=some (.tup xs))(frzs:∀b o u,H b=some (.frz o u)->H' b=some (.frz o u))(tbls:∀b ps,H b=some (.tbl ps)->∃more,H' b=some (.tbl (ps++more)))(ns:∀m,s.heap.Ns X.env.locals m->h'.Ns X.env.locals m)(hok:HOk X.prog X.w H' h')(hg:AllBare g'):
  Inv X pins σ H' {s with heap:=h',gens:=g',drawn:=d',toks:=t'}:=by
 have neL:∀b o,X.s₀.heap.get? b=some o->b≠X.env.locals:=λb o e=>UD (Uq (Ui e) I.ok.above)
 have neC:∀b o,X.s₀.heap.get? b=some o->b∉X.ex->b∉ch:=λb o e hx hb=>by
  rcases(hch b hb).1 with z|z
  ·exact hx z
  ·exact absurd (Uq (Ui e) z) (Te _)
 have cellK:∀x c,X.env.cells.lookup x=some c->∀v,s.heap.IsCell c v->h'.IsCell c v:=λx c e v ⟨o,ho,hd⟩=>by
  have nch:c∉ch:=λz=>(hch c z).2.2.1 x c e rfl
  by_cases hc:c∈X.fs
  ·obtain⟨sl,q⟩:=slot c o (I.cne x c e) hc nch ho (I.freeC x c e)
   exact⟨_,q,hd⟩
  ·exact⟨o,keep c o (I.cne x c e) hc nch ho (I.freeC x c e),hd⟩
 refine⟨I.ok,I.os,hg,⟨λb o e n hb hx=>?_,λb o e n hb hx=>?_,λb o e n hx=>?_,λb o e hx=>?_,λb xs e=>tups b xs (I.base.tups b xs e),λb o xs e=>frzs b o xs (I.base.frzs b o xs e),λb ps e=>?_⟩,?_,λx c e=>?_,?_,λx c e=>?_,λp hp=>?_,hok,I.len⟩
 ·exact keep b o (neL b o e) hb (neC b o e hx) (I.base.keep b o e n hb hx) (I.base.free b o e n hx)
 ·obtain⟨sl,e1⟩:=I.base.slot b o e n hb hx
  obtain⟨sl',e2⟩:=slot b _ (neL b o e) hb (neC b o e hx) e1 (I.base.free b o e n hx)
  exact⟨sl',e2⟩
 ·obtain⟨o',e1⟩:=I.base.there b o e hx
  exact free b o' (neC b o e hx) e1 (I.base.free b o e n hx)
 ·obtain⟨o',e1⟩:=I.base.there b o e hx
  exact there b o' (neC b o e hx) e1
 ·obtain⟨m1,e1⟩:=I.base.tbls b ps e
  obtain⟨m2,e2⟩:=tbls b _ e1
  exact⟨m1++m2,by rw[e2,RE]⟩
 ·obtain⟨m,hn,hl⟩:=I.loc
  refine⟨m,ns m hn,λi x v e1 e2 e3=>?_⟩
  obtain⟨u,r,l⟩:=hl i x v e1 e2 e3
  refine⟨u,r,?_⟩
  rcases l with l|⟨k,c,e,z⟩
  ·exact .inl l
  ·exact .inr ⟨k,c,e,cellK x c e _ z⟩
 ·obtain⟨v,z⟩:=I.cell x c e
  exact⟨v,cellK x c e v z⟩
 ·obtain⟨m,⟨o,_,_,ho,_⟩,_⟩:=I.loc
  exact free _ o (λz=>(hch _ z).2.1 rfl) ho I.free
 ·obtain⟨v,o,ho,hd⟩:=I.cell x c e
  exact free c o (λz=>(hch c z).2.2.1 x c e rfl) ho (I.freeC x c e)
 ·obtain⟨e,n,ne,nf,d⟩:=I.pin p hp
  have nch:p.1∉ch:=λz=>(hch p.1 z).2.2.2 p hp rfl
  exact⟨keep p.1 p.2 ne nf nch e n,free p.1 p.2 nch e n,ne,nf,d⟩
theorem Inv.un{t':Nat}(I:Inv X pins σ H s)(u:Un X.fs [] H H' s.heap h')(hok:HOk X.prog X.w H' h'):Inv X pins σ H' {s with heap:=h',toks:=t'}:=by
 obtain⟨m,⟨o,es,ep,ho,r⟩,_⟩:=id I.loc
 obtain⟨sl,hL⟩:=u.any ho I.free (by simp)
 exact I.step (g':=s.gens) (d':=s.drawn) (ch:=[]) (λ_ z=>nomatch z) (λb o _ hb _ e n=>u.keep b o e n hb (by simp)) (λb o _ hb _ e n=>u.slot b o e n hb (by simp)) (λb o _ e n=>u.free b o e n (by simp)) (λb o _ e=>u.there b o e (by simp)) u.tups u.frzs u.tbls (λm' hm=>by
  obtain⟨o',es',ep',ho',r'⟩:=hm
  rw[ho]at ho';cases ho'
  exact⟨_,es',ep',hL,r'⟩) hok I.bare
theorem Inv.call{g':Array GenState}{t':Nat}{d':Drawn}{ch:List Addr}(I:Inv X pins σ H s)(u:Un (frs X.stack) ch H H' s.heap h')(hok:HOk X.prog X.w H' h')(hg:AllBare g')(hch:∀b∈ch,(b∈X.ex\/X.s₀.heap.objs.size<=b)/\b≠X.env.locals/\(∀x c,X.env.cells.lookup x=some c->c≠b)/\∀p∈X.pn++pins,p.1≠b):
  Inv X pins σ H' {s with heap:=h',gens:=g',drawn:=d',toks:=t'}:=by
 obtain⟨m,⟨o,es,ep,ho,r⟩,_⟩:=id I.loc
 obtain⟨sl,hL⟩:=u.any ho I.free λz=>(hch _ z).2.1 rfl
 exact I.step (ch:=ch) hch (λb o hL hb hc e n=>u.keep b o e n (λz=>(UE.mp (I.stkSub b z)).elim hL hb) hc) (λb o _ _ hc e n=>u.any e n hc) (λb o hc e n=>u.free b o e n hc) (λb o hc e=>u.there b o e hc) u.tups u.frzs u.tbls (λm' hm=>by
  obtain⟨o',es',ep',ho',r'⟩:=hm
  rw[ho]at ho';cases ho'
  exact⟨_,es',ep',hL,r'⟩) hok hg
theorem Inv.turned{t':Nat}{it:Addr}(I:Inv X pins σ H s)(k:∀b o,b≠it->s.heap.get? b=some o->h'.get? b=some o)(hn:H it=none)(hL:it≠X.env.locals)(h1:it∈X.ex\/X.s₀.heap.objs.size<=it)(h2:∀x c,X.env.cells.lookup x=some c->c≠it)(h3:∀p∈X.pn++pins,p.1≠it):Inv X pins σ H {s with heap:=h',toks:=t'}:=by
 have nit:∀b u,H b=some u->b≠it:=λb u e z=>by rw[z,hn]at e;cases e
 refine I.step (g':=s.gens) (d':=s.drawn) (ch:=[it]) (λb hb=>?_) (λb o _ _ hc e _=>k b o (λz=>hc (by simp[z])) e) (λb o _ _ hc e _=>⟨o.slots,k b o (λz=>hc (by simp[z])) e⟩) (λ_ _ _ _ n=>n)
  (λb o hc e=>⟨o,k b o (λz=>hc (by simp[z])) e⟩) (λ_ _ e=>e) (λ_ _ _ e=>e) (λb ps e=>⟨#[],by rw[e];simp⟩) (λm hm=>?_) (λb u e=>?_) I.bare
 ·have e:b=it:=by simpa using hb
  subst e
  exact⟨h1,hL,h2,h3⟩
 ·obtain⟨o,es,ep,ho,r⟩:=hm
  exact⟨o,es,ep,k _ o (Ne.symm hL) ho,r⟩
 ·refine(I.hok b u e).stay (λc v hc q=>k c v ?_ q) (λ_ q=>q) λ_ _ q=>q
  rcases hc with z|z
  ·rw[z];exact nit b u e
  ·exact nit c _ z
theorem Inv.tok(I:Inv X pins σ H s)(t:Nat):Inv X pins σ H {s with toks:=t}:=I.un (h':=s.heap) (t':=t) Un.refl I.hok
theorem Inv.kept{t':Nat}(I:Inv X pins σ H s)(k:∀b u,s.heap.get? b=some u->h'.get? b=some u):Inv X pins σ H {s with heap:=h',toks:=t'}:=I.un (Un.kept k) (I.hok.kept k)
theorem Inv.laid{a:Addr}{o:HO}{t':Nat}(I:Inv X pins σ H s)(k:∀b u,s.heap.get? b=some u->h'.get? b=some u)(hp:s.heap.objs.size<=a)(new:ObjOk X.prog X.w (upd H a o) h' a o):
  Inv X pins σ (upd H a o) {s with heap:=h',toks:=t'}:=I.un (Un.laid k hp (I.hok.fresh hp)) (I.hok.laid k hp new)
theorem Inv.write{x e:Addr}{o:HO}{t':Nat}(I:Inv X pins σ H s)(mu:Mut (H x))(he:e=x\/H e=some (.own x))(k:∀b u,b≠e->s.heap.get? b=some u->h'.get? b=some u)(heo:∃u,h'.get? e=some u)(new:ObjOk X.prog X.w (upd H x o) h' x o):Inv X pins σ (upd H x o) {s with heap:=h',toks:=t'}:=I.un (Un.write mu he k heo) (I.hok.write mu he k heo new)
theorem Inv.pins_of{pins':List (Addr×Obj)}(I:Inv X pins σ H s)(h:∀p∈pins',s.heap.get? p.1=some p.2/\H p.1=none/\p.1≠X.env.locals/\p.1∉X.fs/\∀v,p.2.data≠.cell v):Inv X pins' σ H s :=
 ⟨I.ok,I.os,I.bare,I.base,I.loc,I.cell,I.free,I.freeC,λp hp=>(UX.mp hp).elim (λz=>I.pin p (TF _ z)) (h p),I.hok,I.len⟩
theorem Qf2{N:List Str}(hN:N.Nodup){i j:Nat}{x:Str}(a:N[i]?=some x)(b:N[j]?=some x):i=j:=by
 obtain⟨h1,e1⟩:=Ul.mp a
 obtain⟨h2,e2⟩:=Ul.mp b
 exact(List.getElem_inj hN).mp (e1.trans e2.symm)
theorem QhI{M:Model}{A:Around}{E:Value->Shared->Prop}{i:Nat}{x:Str}{v:V}{u:Value}{Q:Unit->Shared->Prop}(I:Inv X pins σ H s)(hN:X.N.Nodup)(hi:X.N[i]?=some x)(hx:Loc X.env.scope x)(r:RelV v u)(h:∀s',Inv X pins (σ.set i (some v)) H s'->(∃a,Heap.SameBut a s.heap s'.heap/\(a=X.env.locals\/X.env.cells.lookup x=some a))->Q () s')(hf:X.fn x=true\/X.env.scope.names.lookup x=some .local:=by first|exact .inl rfl|exact .inr rfl|assumption):wpAny M A (storeName X.env x u) Q E s:=by
 obtain⟨m,hn,hl⟩:=id I.loc
 have hcls:(X.env.scope.kind == .class || (X.env.scope.kind == .module && X.env.locals != X.env.globals))=false:=by rw[I.ok.kind];rfl
 have hiσ:i<σ.length:=by rw[I.len];exact(Ul.mp hi).1
 have cne:=I.cne
 have tracked:∀{a:Addr}{h':Heap},(∃o,s.heap.get? a=some o/\H a=none)->Heap.SameBut a s.heap h'->HOk X.prog X.w H h':=λ{a h'} ha hs b ob e=>by
  obtain⟨_,_,hfree⟩:=ha
  refine(I.hok b ob e).stay (λc w' hc q=>(hs.2 c ?_).trans q) (λ_ q=>q) λ_ _ q=>q
  rintro rfl
  rcases hc with rfl|hc
  ·rw[hfree]at e;cases e
  ·rw[hfree]at hc;cases hc
 rcases hx with hk|hk
 ·refine wpAny_storeName_local hk hn (λh' hn' hs=>?_) hcls
  obtain⟨oL,_,_,hoL,_⟩:=id hn
  refine h _ ⟨I.ok,I.os,I.bare,⟨λb o e n hb hx=>?_,λb o e n hb hx=>?_,I.base.free,λb o e hx=>?_,I.base.tups,I.base.frzs,I.base.tbls⟩,⟨_,hn',λj y v' e1 e2 e3=>?_⟩,λy c e=>?_,I.free,I.freeC,λp hp=>?_,tracked ⟨oL,hoL,I.free⟩ hs,by simpa using I.len⟩ ⟨_,hs,.inl rfl⟩
  ·exact(hs.2 b (UD (Uq (Ui e) I.ok.above))).trans (I.base.keep b o e n hb hx)
  ·obtain⟨sl,e1⟩:=I.base.slot b o e n hb hx
   exact⟨sl,(hs.2 b (UD (Uq (Ui e) I.ok.above))).trans e1⟩
  ·obtain⟨o',e1⟩:=I.base.there b o e hx
   exact⟨o',(hs.2 b (UD (Uq (Ui e) I.ok.above))).trans e1⟩
  ·by_cases hj:j=i
   ·subst hj
    rw[hi]at e1;cases e1
    rw[Tf hiσ]at e2
    cases e2
    exact⟨u,r,.inl ⟨hk,by simp⟩⟩
   ·rw[Uk (Ne.symm hj)]at e2
    obtain⟨u',r',q⟩:=hl j y v' e1 e2 e3
    refine⟨u',r',?_⟩
    rcases q with⟨k,e⟩|⟨k,c,e,z⟩
    ·refine .inl ⟨k,?_⟩
     have:y≠x:=λe=>hj (Qf2 hN e1 (e ▸ hi))
     simp[this,e]
    ·exact .inr ⟨k,c,e,z.sameBut hs (cne y c e)⟩
  ·obtain⟨w',z⟩:=I.cell y c e
   exact⟨w',z.sameBut hs (cne y c e)⟩
  ·obtain⟨e,n,ne,nf,d⟩:=I.pin p hp
   exact⟨(hs.2 p.1 ne).trans e,n,ne,nf,d⟩
 ·have hfn:X.fn x=true:=by
   rcases hf with z|z
   ·exact z
   ·rw[z]at hk;cases hk
  obtain⟨c,hc⟩:=I.ok.has x (.inl hk)
  obtain⟨w',z⟩:=I.cell x c hc
  refine wpAny_storeName_cell I.ok.kind hk hc z (λh' hc' hs=>?_)
  obtain⟨oc,hoc,hocd⟩:=id z
  refine h {s with heap:=h'} ⟨I.ok,I.os,I.bare,⟨λb o e n hb hx=>?_,λb o e n hb hx=>?_,I.base.free,λb o e hx=>?_,I.base.tups,I.base.frzs,I.base.tbls⟩,⟨m,hn.sameBut hs (Ne.symm (cne x c hc)),λj y v' e1 e2 e3=>?_⟩,λy c' e=>?_,I.free,I.freeC,λp hp=>?_,tracked ⟨oc,hoc,I.freeC x c hc⟩ hs,by simpa using I.len⟩ ⟨c,hs,.inr hc⟩
  ·exact(hs.2 b (UD (Uq (Ui e) (I.ok.cab x c hfn hc)))).trans (I.base.keep b o e n hb hx)
  ·obtain⟨sl,e1⟩:=I.base.slot b o e n hb hx
   exact⟨sl,(hs.2 b (UD (Uq (Ui e) (I.ok.cab x c hfn hc)))).trans e1⟩
  ·obtain⟨o',e1⟩:=I.base.there b o e hx
   exact⟨o',(hs.2 b (UD (Uq (Ui e) (I.ok.cab x c hfn hc)))).trans e1⟩
  ·by_cases hj:j=i
   ·subst hj
    rw[hi]at e1;cases e1
    rw[Tf hiσ]at e2
    cases e2
    exact⟨u,r,.inr ⟨.inl hk,c,hc,hc'⟩⟩
   ·rw[Uk (Ne.symm hj)]at e2
    obtain⟨u',r',q⟩:=hl j y v' e1 e2 e3
    refine⟨u',r',?_⟩
    rcases q with q|⟨k,c',e,z'⟩
    ·exact .inl q
    ·refine .inr ⟨k,c',e,z'.sameBut hs ?_⟩
     rintro rfl
     exact hj (Qf2 hN e1 (I.ok.inj _ _ _ e hc ▸ hi))
  ·by_cases hcc:c'=c
   ·subst hcc;exact⟨_,hc'⟩
   ·obtain⟨w2,z2⟩:=I.cell y c' e
    exact⟨w2,z2.sameBut hs hcc⟩
  ·obtain⟨e,n,ne,nf,d⟩:=I.pin p hp
   refine⟨(hs.2 p.1 ?_).trans e,n,ne,nf,d⟩
   intro q
   rw[q,hoc]at e
   have q':oc=p.2:=Option.some.inj e
   exact d w' (by rw[<-q'];exact hocd)
theorem QaH{M:Model}{A:Around}{E:Value->Shared->Prop}{i:Nat}{x:Str}{v:V}{u:Value}{Q:Unit->Shared->Prop}(I:Inv X pins σ H s)(hN:X.N.Nodup)(hi:X.N[i]?=some x)(hx:Loc X.env.scope x)(r:RelV v u)(h:∀s',Inv X pins (σ.set i (some v)) H s'->Q () s')(hf:X.fn x=true\/X.env.scope.names.lookup x=some .local:=by first|exact .inl rfl|exact .inr rfl|assumption):wpAny M A (storeName X.env x u) Q E s :=
 QhI I hN hi hx r (λs' I' _=>h s' I') hf
theorem Inv.call'{s':Shared}{ch:List Addr}(I:Inv X pins σ H s)(ho:s'.os=s.os)(u:Un (frs X.stack) ch H H' s.heap s'.heap)(hok:HOk X.prog X.w H' s'.heap)(hg:AllBare s'.gens)(hch:∀b∈ch,(b∈X.ex\/X.s₀.heap.objs.size<=b)/\b≠X.env.locals/\(∀x c,X.env.cells.lookup x=some c->c≠b)/\∀p∈X.pn++pins,p.1≠b):Inv X pins σ H' s':=by
 obtain⟨h',g',d',t',o'⟩:=s'
 have e:o'=s.os:=ho
 subst e
 exact I.call (g':=g') (t':=t') (d':=d') u hok hg hch
end
noncomputable abbrev XK:=Value->Option Addr->Hp->Prop
noncomputable abbrev St:=List (Option V)
noncomputable abbrev VK:=V->Hp->Prop
noncomputable abbrev TE:=St->Hp->VK->Prop
noncomputable abbrev TT:=St->Hp->(Bool->Hp->Prop)->Prop
noncomputable abbrev TA:=St->Hp->(List V->Hp->Prop)->Prop
structure Ends where
 nx:St->Hp->Prop
 rt:VK
 bk:St->Hp->Prop:=λ_ _=>False
 ct:St->Hp->Prop:=λ_ _=>False
noncomputable abbrev TS:=Ends->St->Hp->Prop
def EP(X:Cx)(pins:List (Addr×Obj))(σ:St)(Q:VK)(u:Value)(s':Shared):Prop:=∃v H',Inv X pins σ H' s'/\RelV v u/\Q v H'
def TP(X:Cx)(pins:List (Addr×Obj))(σ:St)(Q:Bool->Hp->Prop)(b:Bool)(s':Shared):Prop:=∃H',Inv X pins σ H' s'/\Q b H'
def AP(X:Cx)(pins:List (Addr×Obj))(σ:St)(Q:List V->Hp->Prop)(us:List Value)(s':Shared):Prop:=∃vs H',Inv X pins σ H' s'/\Vals vs us/\Q vs H'
noncomputable def SP(X:Cx)(pins:List (Addr×Obj))(D:Ends)(f:Flow)(s':Shared):Prop :=
 match f with
 |.next=>∃σ' H',Inv X pins σ' H' s'/\D.nx σ' H'
 |.brk=>∃σ' H',Inv X pins σ' H' s'/\D.bk σ' H'
 |.cont=>∃σ' H',Inv X pins σ' H' s'/\D.ct σ' H'
 |.ret u=>∃v σ' H',Inv X pins σ' H' s'/\RelV v u/\D.rt v H'
noncomputable def PE(X:Cx)(e:Expr)(t:TE):Prop :=
 ∀(pins:List (Addr×Obj))(s:Shared)(σ:St)(H:Hp)(Q:VK),Inv X pins σ H s->t σ H Q->wpAny (model X.prog X.w) X.A (eval e X.env) (EP X pins σ Q) X.xe s
noncomputable def PT(X:Cx)(e:Expr)(t:TT):Prop :=
 ∀(pins:List (Addr×Obj))(s:Shared)(σ:St)(H:Hp)(Q:Bool->Hp->Prop),Inv X pins σ H s->t σ H Q->wpAny (model X.prog X.w) X.A (isTrue e X.env (eval e X.env)) (TP X pins σ Q) X.xe s
noncomputable def PW(X:Cx)(e:Expr)(t:TT):Prop :=
 ∀(whole:Sem Value)(pins:List (Addr×Obj))(s:Shared)(σ:St)(H:Hp)(Q:Bool->Hp->Prop),Inv X pins σ H s->t σ H Q->wpAny (model X.prog X.w) X.A (isTrue e X.env whole) (TP X pins σ Q) X.xe s
theorem PW.pt{X:Cx}{e:Expr}{t:TT}(h:PW X e t):PT X e t:=h _
noncomputable def PA(X:Cx)(es:List Expr)(t:TA):Prop :=
 ∀(pos:Pos)(pins:List (Addr×Obj))(s:Shared)(σ:St)(H:Hp)(Q:List V->Hp->Prop),Inv X pins σ H s->t σ H Q->wpAny (model X.prog X.w) X.A (spliced (backTo pos (starEach es X.env))) (AP X pins σ Q) X.xe s
noncomputable def PS(X:Cx)(st:Stmt)(t:TS):Prop :=
 ∀(pins:List (Addr×Obj))(s:Shared)(σ:St)(H:Hp)(D:Ends),Inv X pins σ H s->t D σ H->wpAny (model X.prog X.w) X.A (exec st X.env) (SP X pins D) X.xe s
noncomputable def PSs(X:Cx)(st:List Stmt)(t:TS):Prop :=
 ∀(pins:List (Addr×Obj))(s:Shared)(σ:St)(H:Hp)(D:Ends),Inv X pins σ H s->t D σ H->wpAny (model X.prog X.w) X.A (execs st X.env) (SP X pins D) X.xe s
theorem thn{α:Type}{t:Sem α}{Q Q':α->Shared->Prop}{M:Model}{A:Around}{E:Value->Shared->Prop}{s:Shared}(h:wpAny M A t Q E s)(hQ:∀a s,Q a s->Q' a s):wpAny M A t Q' E s:=U8 h hQ λ_ _ x=>x
end
section
section
variable{X:Cx}
theorem bin{a b:Expr}{ta tb:TE}(ha:PE X a ta)(hb:PE X b tb){pins:List (Addr×Obj)}{s:Shared}{σ:St}{H:Hp}{R:V->V->Hp->Prop}(I:Inv X pins σ H s)(h:ta σ H λx H1=>tb σ H1 λy H2=>R x y H2){α:Type}{Q:α->Shared->Prop}{f:Value->Value->Sem α}(hf:∀v u s2 x y H2,Inv X pins σ H2 s2->RelV x v->RelV y u->R x y H2->wpAny (model X.prog X.w) X.A (f v u) Q X.xe s2):
  wpAny (model X.prog X.w) X.A (eval a X.env) (λv s₁=>wpAny (model X.prog X.w) X.A (eval b X.env) (λu s₂=>wpAny (model X.prog X.w) X.A (f v u) Q X.xe s₂) X.xe s₁) X.xe s:=by
 refine thn (ha pins s σ H _ I h) λv s1 ⟨x,H1,I1,r1,q1⟩=>?_
 refine thn (hb pins s1 σ H1 _ I1 q1) λu s2 ⟨y,H2,I2,r2,q2⟩=>?_
 exact hf v u s2 x y H2 I2 r1 r2 q2
noncomputable def tVar(i:Nat):TE:=λσ H Q=>∃v,σ[i]?=some (some v)/\Q v H
noncomputable def tC(v:V):TE:=λ_ H Q=>Q v H
theorem QmD{i:Nat}{x:Str}{pos:Pos}(hN:X.N[i]?=some x)(hv:Vis X.env.scope x)(hd:(x == ("__debug__" : Str))=false:=by decide)(hcd:(x == ("__classdict__" : Str))=false:=by decide):PE X (.Name x pos) (tVar i):=by
 intro pins s σ H Q I h
 obtain⟨v,e,h⟩:=h
 obtain⟨m,hn,hl⟩:=I.loc
 obtain⟨u,r,l⟩:=hl i x v hN e hv
 have fin:EP X pins σ Q u s:=⟨v,H,I,r,h⟩
 rcases l with⟨hk,hm⟩|⟨hk,c,hc,hcell⟩
 ·exact wpAny_Name (wpAny_loadName_local I.ok.kind hk hn hm fin) hd
 ·rcases hk with hk|hk
  ·exact wpAny_Name (wpAny_loadName_cell I.ok.kind hk hc hcell fin) hd
  ·exact wpAny_Name (wpAny_loadName_free I.ok.kind hk hc hcell fin hcd) hd
theorem QmE{i j pos}:PE X (.Constant (.int i) j pos) (tC (.int i)):=λ_ _ _ H _ I h=>wpAny_Constant_int ⟨.int i,H,I.tok _,⟨_,rfl⟩,h⟩
theorem QoB{b j pos}:PE X (.Constant (.bool b) j pos) (tC (.bl b)):=λ_ _ _ H _ I h=>Constant_bool ⟨.bl b,H,I,rfl,h⟩
theorem QmF{j pos}:PE X (.Constant .none j pos) (tC .non):=λ_ _ _ H _ I h=>Constant_none ⟨.non,H,I,rfl,h⟩
theorem QmG{x j pos}:PE X (.Constant (.str x) j pos) (tC (.str x)):=λ_ _ _ H _ I h=>Calls.Constant_str ⟨.str x,H,I.tok _,⟨_,rfl⟩,h⟩
def Gl(X:Cx)(x:Str):Prop:=X.env.kindOf x=some .globalImplicit
theorem Qbe{E:Value->Shared->Prop}{pins:List (Addr×Obj)}{s:Shared}{σ:St}{H:Hp}{x:Str}{u:Value}{pos:Pos}{Q:Value->Shared->Prop}(I:Inv X pins σ H s)(hg:Gl X x)(hm:X.mg x=some u)(h:Q u s)(hd:(x == ("__debug__" : Str))=false:=by decide):wpAny (model X.prog X.w) X.A (eval (.Name x pos) X.env) Q E s :=
 Wz I.ok.kind hg (Calls.loadGlobal_global (by rw[I.ok.glob];exact I.mod.glob.keeps I.bk) hm h) hd
theorem Qaj{E:Value->Shared->Prop}{pins:List (Addr×Obj)}{s:Shared}{σ:St}{H:Hp}{x:Str}{u:Value}{pos:Pos}{Q:Value->Shared->Prop}(I:Inv X pins σ H s)(hg:Gl X x)(hm:X.mg x=none)(hv:bootBuiltins x=some u)(h:Q u s)(hn:x ≠ "__name__":=by decide)(hd:(x == ("__debug__" : Str))=false:=by decide):wpAny (model X.prog X.w) X.A (eval (.Name x pos) X.env) Q E s:=by
 obtain⟨mb,h1,h2⟩:=I.mod.blt
 exact Wz I.ok.kind hg (Calls.loadGlobal_builtin (by rw[I.ok.glob];exact I.mod.glob.keeps I.bk) hm (by rw[I.ok.blt];exact h1.keeps I.bk) ((h2 x hn).trans hv) h) hd
theorem Qk9{x:Str}{v:V}{u:Value}{pos:Pos}(hg:Gl X x)(hm:X.mg x=some u)(r:RelV v u)(hd:(x == ("__debug__" : Str))=false:=by decide):PE X (.Name x pos) (tC v) :=
 λ_ _ _ H _ I h=>Qbe I hg hm ⟨v,H,I,r,h⟩ hd
theorem Qfk{x:Str}{v:V}{u:Value}{pos:Pos}(hg:Gl X x)(hm:X.mg x=none)(hv:bootBuiltins x=some u)(r:RelV v u)(hn:x ≠ "__name__":=by decide)(hd:(x == ("__debug__" : Str))=false:=by decide):PE X (.Name x pos) (tC v) :=
 λ_ _ _ H _ I h=>Qaj I hg hm hv ⟨v,H,I,r,h⟩ hn hd
variable{a b:Expr}{ta tb:TE}{pos:Pos}
noncomputable def tB(t:TE):TT:=λσ H Q=>t σ H λx H1=>∃c,x=.bl c/\Q c H1
theorem QmH{e:Expr}{t:TE}(h:PE X e t)(he:∀whole,isTrue e X.env whole=(do let v <-whole;standAt e.pos;holding [v] (truthy v)):=by intro _;rfl):PT X e (tB t):=by
 intro pins s σ H Q I hw
 refine isTrue_plain (thn (h pins s σ H _ I hw) λv s1 ⟨x,H1,I1,r1,q1⟩=>?_) (he _)
 obtain⟨d,rfl,q⟩:=q1
 cases r1
 exact Ti ⟨H1,I1,q⟩
variable{tA tB':TT}{rest:List Expr}
noncomputable def tAnd(t u:TT):TT:=λσ H Q=>t σ H λc H1=>if c=true then u σ H1 Q else Q false H1
noncomputable def tOr(t u:TT):TT:=λσ H Q=>t σ H λc H1=>if c=true then Q true H1 else u σ H1 Q
noncomputable def tNot(t:TT):TT:=λσ H Q=>t σ H λc H1=>Q (!c) H1
theorem Qla(ha:PT X a tA):PW X (.BoolOp .And [a] pos) tA:=by
 intro wh pins s σ H Q I h
 refine isTrue_and (thn (ha pins s σ H Q I h) λc s1 e=>?_)
 cases c with
 |true=>exact isTrue_and_nil e
 |false=>exact e
theorem QmI(ha:PT X a tA):PW X (.BoolOp .Or [a] pos) tA:=by
 intro wh pins s σ H Q I h
 refine isTrue_or (thn (ha pins s σ H Q I h) λc s1 e=>?_)
 cases c with
 |false=>exact isTrue_or_nil e
 |true=>exact e
theorem QmJ(ha:PT X a tA)(hb:PW X (.BoolOp .And (b::rest) pos) tB'):PW X (.BoolOp .And (a::b::rest) pos) (tAnd tA tB'):=by
 intro wh pins s σ H Q I h
 refine isTrue_and (thn (ha pins s σ H _ I h) λc s1 ⟨H1,I1,q1⟩=>?_)
 cases c with
 |true=>exact hb wh pins s1 σ H1 Q I1 q1
 |false=>exact⟨H1,I1,q1⟩
theorem QoC(ha:PT X a tA)(hb:PW X (.BoolOp .Or (b::rest) pos) tB'):PW X (.BoolOp .Or (a::b::rest) pos) (tOr tA tB'):=by
 intro wh pins s σ H Q I h
 refine isTrue_or (thn (ha pins s σ H _ I h) λc s1 ⟨H1,I1,q1⟩=>?_)
 cases c with
 |true=>exact⟨H1,I1,q1⟩
 |false=>exact hb wh pins s1 σ H1 Q I1 q1
theorem QmK(ha:PT X a tA):PT X (.UnaryOp .Not a pos) (tNot tA):=by
 intro pins s σ H Q I h
 exact isTrue_not (ha pins s σ H (λc H1=>Q (!c) H1) I h)
noncomputable def QoD(ta tb:TE):TE:=λσ H Q=>ta σ H λx H1=>∃c,x=.bl c/\if c=true then tb σ H1 Q else Q (.bl false) H1
noncomputable def QoE(ta:TE):TE:=λσ H Q=>ta σ H λx H1=>∃c,x=.bl c/\Q (.bl (!c)) H1
theorem QmL{op}{t:TE}(h:PE X a t):PE X (.BoolOp op [a] pos) t:=λpins s σ H Q I hw=>BoolOp_one (h pins s σ H Q I hw)
theorem QmM(ha:PE X a ta)(hb:PE X (.BoolOp .And (b::rest) pos) tb):PE X (.BoolOp .And (a::b::rest) pos) (QoD ta tb):=by
 intro pins s σ H Q I h
 refine BoolOp_and (thn (ha pins s σ H _ I h) λv s1 ⟨x,H1,I1,r1,q1⟩=>?_)
 obtain⟨c,rfl,q1⟩:=q1
 cases r1
 refine Ti ?_
 cases c with
 |true=>exact hb pins s1 σ H1 Q I1 q1
 |false=>exact⟨.bl false,H1,I1,rfl,q1⟩
theorem QmN(ha:PE X a ta):PE X (.UnaryOp .Not a pos) (QoE ta):=by
 intro pins s σ H Q I h
 refine UnaryOp_ (thn (ha pins s σ H _ I h) λv s1 ⟨x,H1,I1,r1,q1⟩=>?_)
 obtain⟨c,rfl,q1⟩:=q1
 cases r1
 exact not_of (Ti ⟨.bl (!c),H1,I1,rfl,q1⟩)
noncomputable def tIf(t:TT)(ta tb:TE):TE:=λσ H Q=>t σ H λc H1=>if c=true then ta σ H1 Q else tb σ H1 Q
theorem Qju{c:Expr}(hc:PT X c tA)(ha:PE X a ta)(hb:PE X b tb):PE X (.IfExp c a b pos) (tIf tA ta tb):=by
 intro pins s σ H Q I h
 refine wpAny_IfExp (thn (hc pins s σ H _ I h) λd s1 ⟨H1,I1,q1⟩=>?_)
 cases d with
 |true=>exact ha pins s1 σ H1 Q I1 q1
 |false=>exact hb pins s1 σ H1 Q I1 q1
end
end
section
noncomputable def SqL(K:Frag)(H:Hp)(a:Addr)(xs:List V):Prop :=
 Rd H a (.lst xs) \/
  ∃(o:Obj)(its:Array Value)(n:Nat),K.lookup a=some o/\o.cls=.type "list" /\ o.dict=none/\o.data=.seq its n/\its.size<=sizeLine/\Vals xs its.toList
noncomputable def SqT(K:Frag)(H:Hp)(a:Addr)(xs:List V):Prop :=
 Rd H a (.tup xs) \/
  ∃(o:Obj)(its:Array Value)(n:Nat),K.lookup a=some o/\o.cls=.type "tuple" /\ o.data=.seq its n/\its.size<=sizeLine/\Vals xs its.toList
noncomputable def absV:Value->Option V
 |.none=>some .non
 |.bool b=>some (.bl b)
 |.int i _=>some (.int i)
 |.str x _=>some (.str x)
 |.bytes b _=>some (.byt b)
 |.float b _=>some (.flt b)
 |.ref a=>some (.ref a)
 |.type n=>some (.ty n)
 |_=>none
theorem RelV.abs{x:V}{u:Value}(r:RelV x u):absV u=some x:=by
 cases x with
 |non=>cases r;rfl
 |bl _=>cases r;rfl
 |int _=>obtain⟨t,rfl⟩:=r;rfl
 |str _=>obtain⟨t,rfl⟩:=r;rfl
 |byt _=>obtain⟨t,rfl⟩:=r;rfl
 |flt _=>obtain⟨t,rfl⟩:=r;rfl
 |ref _=>cases r;rfl
 |ty _=>cases r;rfl
theorem RelV.inj{x y:V}{u:Value}(r:RelV x u)(q:RelV y u):x=y:=Option.some.inj (r.abs.symm.trans q.abs)
theorem Vals.inj:∀{xs ys:List V}{us:List Value},Vals xs us->Vals ys us->xs=ys
 |_,_,_,.nil,.nil=>rfl
 |_,_,_,.cons r t,.cons r' t'=>by rw[r.inj r',Vals.inj t t']
section
variable{X:Cx}{pins:List (Addr×Obj)}{σ:St}{H:Hp}{s:Shared}{a:Addr}{xs ys:List V}
theorem SqL.of{K:Frag}(h:H a=some (.lst xs)):SqL K H a xs:=.inl (.inl h)
theorem SqT.of{K:Frag}(h:H a=some (.tup xs)):SqT K H a xs:=.inl (.inl h)
theorem Inv.list(I:Inv X pins σ H s)(h:SqL X.K H a xs):∃its:List Value,Vals xs its/\PlainL s.heap a its.toArray/\xs.length<=sizeLine:=by
 rcases h with h|⟨o,its,n,hk,hc,hd,hs,hz,r⟩
 ·obtain⟨z,its,n,r,e⟩:=h.ok I.hok
  exact⟨its,r,⟨_,n,e,rfl,rfl,rfl⟩,z⟩
 ·refine⟨its.toList,r,⟨o,n,I.kIn a o hk,hc,hd,by simpa using hs⟩,?_⟩
  have e:=r.length
  simp only[Uo]at e
  omega
theorem Inv.tuple(I:Inv X pins σ H s)(h:SqT X.K H a xs):∃its:List Value,Vals xs its/\IsTup s.heap a its.toArray/\xs.length<=sizeLine:=by
 rcases h with h|⟨o,its,n,hk,hc,hs,hz,r⟩
 ·obtain⟨z,its,r,p⟩:=h.ok I.hok
  exact⟨its,r,p,z⟩
 ·refine⟨its.toList,r,⟨o,I.kIn a o hk,hc,n,by simpa using hs⟩,?_⟩
  have e:=r.length
  simp only[Uo]at e
  omega
theorem Inv.list_inj(I:Inv X pins σ H s)(h:SqL X.K H a xs)(h':SqL X.K H a ys):xs=ys:=by
 obtain⟨its,r,⟨o,n,e,_,_,d⟩,_⟩:=I.list h
 obtain⟨its',r',⟨o',n',e',_,_,d'⟩,_⟩:=I.list h'
 rw[e]at e';cases e'
 rw[d]at d'
 injection d' with d1 _
 have:its=its':=by simpa using Rz Array.toList d1
 subst this
 exact r.inj r'
theorem Inv.tuple_inj(I:Inv X pins σ H s)(h:SqT X.K H a xs)(h':SqT X.K H a ys):xs=ys:=by
 obtain⟨its,r,⟨o,e,_,n,d⟩,_⟩:=I.tuple h
 obtain⟨its',r',⟨o',e',_,n',d'⟩,_⟩:=I.tuple h'
 rw[e]at e';cases e'
 rw[d]at d'
 injection d' with d1 _
 have:its=its':=by simpa using Rz Array.toList d1
 subst this
 exact r.inj r'
end
noncomputable abbrev Cx.wish(X:Cx)(E:Value->Shared->Prop):Cx:={X with xe:=E}
noncomputable abbrev Cx.nox(X:Cx):Cx:=X.wish λ_ _=>False
theorem Cx.Ok.wish{X:Cx}(ok:X.Ok)(E:Value->Shared->Prop):(X.wish E).Ok :=
 ⟨ok.mod,ok.kind,ok.glob,ok.blt,ok.above,ok.inj,ok.has,ok.cab,ok.hd,ok.frames,ok.stk,ok.exf,ok.bs,ok.bsz,ok.noex,ok.exfs,ok.funs,ok.frf⟩
theorem Cx.Ok.unwish{X:Cx}{E:Value->Shared->Prop}(ok:(X.wish E).Ok):X.Ok :=
 ⟨ok.mod,ok.kind,ok.glob,ok.blt,ok.above,ok.inj,ok.has,ok.cab,ok.hd,ok.frames,ok.stk,ok.exf,ok.bs,ok.bsz,ok.noex,ok.exfs,ok.funs,ok.frf⟩
section
variable{X:Cx}{pins:List (Addr×Obj)}{σ:St}{H:Hp}{s:Shared}{E:Value->Shared->Prop}
theorem Inv.wish(I:Inv X pins σ H s)(E:Value->Shared->Prop):Inv (X.wish E) pins σ H s:=⟨I.ok.wish E,I.os,I.bare,I.base,I.loc,I.cell,I.free,I.freeC,I.pin,I.hok,I.len⟩
theorem Inv.unwish(I:Inv (X.wish E) pins σ H s):Inv X pins σ H s:=⟨I.ok.unwish,I.os,I.bare,I.base,I.loc,I.cell,I.free,I.freeC,I.pin,I.hok,I.len⟩
theorem SP.unwish{D:Ends}{f:Flow}{s':Shared}(h:SP (X.wish E) pins D f s'):SP X pins D f s':=by
 cases f with
 |next=>obtain⟨σ',H',I,q⟩:=h;exact⟨σ',H',I.unwish,q⟩
 |brk=>obtain⟨σ',H',I,q⟩:=h;exact⟨σ',H',I.unwish,q⟩
 |cont=>obtain⟨σ',H',I,q⟩:=h;exact⟨σ',H',I.unwish,q⟩
 |ret u=>obtain⟨v,σ',H',I,r,q⟩:=h;exact⟨v,σ',H',I.unwish,r,q⟩
theorem PE.nox{e:Expr}{t:TE}(h:PE X.nox e t):PE X e t:=λpins s σ H Q I hw =>
 U8 (h pins s σ H Q (I.wish _) hw) (λ_ _ ⟨v,H',I',r,q⟩=>⟨v,H',I'.unwish,r,q⟩) λ_ _ z=>False.elim z
theorem PT.nox{e:Expr}{t:TT}(h:PT X.nox e t):PT X e t:=λpins s σ H Q I hw =>
 U8 (h pins s σ H Q (I.wish _) hw) (λ_ _ ⟨H',I',q⟩=>⟨H',I'.unwish,q⟩) λ_ _ z=>False.elim z
theorem PSs.nox{st:List Stmt}{t:TS}(h:PSs X.nox st t):PSs X st t:=λpins s σ H D I hw =>
 U8 (h pins s σ H D (I.wish _) hw) (λ_ _ q=>q.unwish) λ_ _ z=>False.elim z
end
section
variable{X:Cx}{st:Stmt}{rest:List Stmt}{t u:TS}{e:Expr}{te:TE}{pos:Pos}
noncomputable def QoF:TS:=λD σ H=>D.nx σ H
noncomputable def tSeq(t u:TS):TS:=λD σ H=>t {D with nx:=u D} σ H
theorem QhJ:PSs X [] QoF:=λ_ _ σ H _ I h=>Wm ⟨σ,H,I,h⟩
theorem Qjv(h1:PS X st t)(h2:PSs X rest u):PSs X (st::rest) (tSeq t u):=by
 intro pins s σ H D I h
 refine wpAny_execs_cons (thn (h1 pins s σ H {D with nx:=u D} I h) λf s1 q=>?_)
 cases f with
 |next =>
  obtain⟨σ',H',I',q⟩:=q
  exact h2 pins s1 σ' H' D I' q
 |ret v=>exact q
 |brk=>exact q
 |cont=>exact q
theorem Qlb(h1:PS X st t):PSs X [st] t:=by
 intro pins s σ H D I h
 refine wpAny_execs_cons (thn (h1 pins s σ H D I h) λf s1 q=>?_)
 cases f with
 |next=>exact Wm q
 |ret v=>exact q
 |brk=>exact q
 |cont=>exact q
theorem Inv.quiet{pins:List (Addr×Obj)}{σ:St}{H:Hp}{s:Shared}(I:Inv X pins σ H s):interactive X.env=false:=by simp[interactive,I.ok.kind]
noncomputable def QoG(te:TE):TS:=λD σ H=>te σ H λ_ H1=>D.nx σ H1
theorem Qlc(he:PE X e te)(hs:swapsWith e none pos.line X.env=pure false:=by rfl):PS X (.Expr e pos) (QoG te):=by
 intro pins s σ H D I h
 exact wpAny_Expr_any (thn (he pins s σ H _ I h) λv s1 ⟨x,H1,I1,r1,q1⟩=>⟨σ,H1,I1,q1⟩) I.quiet hs
noncomputable def tRet(te:TE):TS:=λD σ H=>te σ H D.rt
theorem QmO(he:PE X e te):PS X (.Return (some e) pos) (tRet te):=by
 intro pins s σ H D I h
 exact wpAny_Return_some (thn (he pins s σ H _ I h) λv s1 ⟨x,H1,I1,r1,q1⟩=>⟨x,σ,H1,I1,r1,q1⟩)
noncomputable def QoH:TS:=λD _ H=>D.rt .non H
theorem Qld:PS X (.Return none pos) QoH:=λ_ _ σ H _ I h=>wpAny_Return_none ⟨.non,σ,H,I,rfl,h⟩
noncomputable def tIfS(c:TT)(t u:TS):TS:=λD σ H=>c σ H λb H1=>if b=true then t D σ H1 else u D σ H1
theorem QoI{c:Expr}{a b:List Stmt}{tc:TT}(hc:PT X c tc)(ha:PSs X a t)(hb:PSs X b u):PS X (.If c a b pos) (tIfS tc t u):=by
 intro pins s σ H D I h
 refine wpAny_If (thn (hc pins s σ H _ I h) λd s1 ⟨H1,I1,q1⟩=>?_)
 cases d with
 |true=>exact ha pins s1 σ H1 D I1 q1
 |false=>exact hb pins s1 σ H1 D I1 q1
noncomputable def QmP:TS:=λ_ _ _=>False
theorem Qjw:PS X st QmP:=λ_ _ _ _ _ _ h=>h.elim
end
noncomputable abbrev TG:=V->St->Hp->(St->Hp->Prop)->Prop
noncomputable abbrev TGs:=List V->St->Hp->(St->Hp->Prop)->Prop
noncomputable def PG(X:Cx)(target:Expr)(t:TG):Prop :=
 ∀(pins:List (Addr×Obj))(s:Shared)(σ:St)(H:Hp)(v:V)(u:Value)(Q:St->Hp->Prop),Inv X pins σ H s->RelV v u->t v σ H Q ->
  wpAny (model X.prog X.w) X.A (assign target X.env u) (λ_ s'=>∃σ' H',Inv X pins σ' H' s'/\Q σ' H') X.xe s
noncomputable def PGs(X:Cx)(ts:List Expr)(t:TGs):Prop :=
 ∀(pins:List (Addr×Obj))(s:Shared)(σ:St)(H:Hp)(vs:List V)(us:List Value)(Q:St->Hp->Prop),Inv X pins σ H s->Vals vs us->t vs σ H Q ->
  wpAny (model X.prog X.w) X.A (assignInOrder ((assignEach ts X.env).map (·.2)) us) (λ_ s'=>∃σ' H',Inv X pins σ' H' s'/\Q σ' H') X.xe s
noncomputable abbrev TSet:=V->V->V->Hp->(Hp->Prop)->Prop
noncomputable def PSet(X:Cx)(t:TSet):Prop :=
 ∀(pins:List (Addr×Obj))(s:Shared)(σ:St)(H:Hp)(o i v:V)(ov iv u:Value)(Q:Hp->Prop),Inv X pins σ H s->RelV o ov->RelV i iv->RelV v u->t o i v H Q ->
  wpAny (model X.prog X.w) X.A (setItem ov iv u) (λ_ s'=>∃H',Inv X pins σ H' s'/\Q H') X.xe s
section
variable{X:Cx}{pos:Pos}
noncomputable def QmQ(i:Nat):TG:=λv σ H Q=>Q (σ.set i (some v)) H
theorem Qle{i:Nat}{x:Str}(hN:X.N.Nodup)(hi:X.N[i]?=some x)(hx:Loc X.env.scope x)(hf:X.fn x=true\/X.env.scope.names.lookup x=some .local:=by first|exact .inl rfl|exact .inr rfl|assumption):PG X (.Name x pos) (QmQ i):=by
 intro pins s σ H v u Q I r h
 exact wpAny_assign_Name (QaH I hN hi hx r (λs' I'=>⟨_,H,I',h⟩) hf)
noncomputable def gNil:TGs:=λvs σ H Q=>vs=[]/\Q σ H
noncomputable def QoJ(t:TG)(u:TGs):TGs:=λvs σ H Q=>∃v r,vs=v::r/\t v σ H λσ' H'=>u r σ' H' Q
theorem Qlf:PGs X [] gNil:=by
 intro pins s σ H vs us Q I r h
 obtain⟨e,h⟩:=h
 subst e
 cases r
 exact assignInOrder_nil ⟨σ,H,I,h⟩
theorem Qjx{e:Expr}{es:List Expr}{t:TG}{u:TGs}(h1:PG X e t)(h2:PGs X es u)(hs:(assignEach (e::es) X.env).map (·.2)=assign e X.env::(assignEach es X.env).map (·.2):=by rfl):PGs X (e::es) (QoJ t u):=by
 intro pins s σ H vs us Q I r h
 obtain⟨v,vr,e1,h⟩:=h
 subst e1
 cases r with
 |cons r rr =>
  rw[hs]
  refine WC (thn (h1 pins s σ H _ _ _ I r h) λ_ s1 ⟨σ1,H1,I1,q1⟩=>?_)
  exact h2 pins s1 σ1 H1 _ _ Q I1 rr q1
noncomputable def gTup(K:Frag)(n:Nat)(t:TGs):TG:=λv σ H Q=>∃a xs,v=.ref a/\SqT K H a xs/\xs.length=n/\t xs σ H Q
theorem QmR{es:List Expr}{k:Nat}{t:TGs}{n:Nat}(hc:X.calm=true)(h:PGs X es t)(hn:(assignEach es X.env).length=n:=by rfl)(hst:(assignEach es X.env).findIdx? (·.1)=none:=by rfl):PG X (.Tuple es k pos) (gTup X.K n t):=by
 intro pins s σ H v u Q I r hw
 obtain⟨a,xs,e1,hq,hl,hw⟩:=hw
 subst e1
 cases r
 obtain⟨its,rv,ht,hz⟩:=I.tuple hq
 refine assign_Tuple_tuple (I.ok.hd hc) ht (by simp[hn,<-hl,rv.length]) hst λh' hx=>?_
 have I1:Inv X pins σ H {s with heap:=h'}:=I.kept (t':=s.toks) λb o e=>hx b o (UD (Ui e)) e
 exact h pins _ σ H xs _ Q I1 (by simpa using rv) hw
noncomputable def gSub(to ti:TE)(t:TSet):TG:=λv σ H Q=>to σ H λo H1=>ti σ H1 λi H2=>t o i v H2 λH3=>Q σ H3
theorem QkE{o i:Expr}{to ti:TE}{t:TSet}(ho:PE X o to)(hi:PE X i ti)(hs:PSet X t)(ha:∀v,assign (.Subscript o i pos) X.env v=(do
   let ov <-holding [v] (eval o X.env)
   let iv <-holding [v,ov] (eval i X.env)
   standAt pos
   holding [v,ov,iv] (setItem ov iv v)
   release [v,ov,iv] []):=by intro _;rfl):PG X (.Subscript o i pos) (gSub to ti t):=by
 intro pins s σ H v u Q I r h
 rw[ha]
 refine Ua (TR (thn (ho pins s σ H _ I h) λov s1 ⟨x,H1,I1,r1,q1⟩=>?_))
 refine Ua (TR (thn (hi pins s1 σ H1 _ I1 q1) λiv s2 ⟨y,H2,I2,r2,q2⟩=>?_))
 refine Ua (WZ (Ua (TR (thn (hs pins s2 σ H2 x y v ov iv u _ I2 r1 r2 r q2) λ_ s3 ⟨H3,I3,q3⟩=>?_))))
 exact wpAny_release ⟨σ,H3,I3,q3⟩
noncomputable def tAsg(te:TE)(g:TG):TS:=λD σ H=>te σ H λx H1=>g x σ H1 D.nx
theorem QhK{tg e:Expr}{te:TE}{g:TG}(he:PE X e te)(hg:PG X tg g)(hs:swapsWithSole [tg] e pos.line X.env=pure false:=by rfl)(hw:swappedStores [tg] e X.env=pure none:=by rfl)(h1:(assignEach [tg] X.env).map (·.2)=[assign tg X.env]:=by rfl):PS X (.Assign [tg] e pos) (tAsg te g):=by
 intro pins s σ H D I h
 refine wpAny_Assign_stores (thn (he pins s σ H _ I h) λv s1 ⟨x,H1,I1,r1,q1⟩=>?_) hs hw
 rw[h1]
 exact thn (hg pins s1 σ H1 x v _ I1 r1 q1) λ_ s2 q=>q
theorem QmS{i:Nat}{x:Str}{e:Expr}{te:TE}{pos':Pos}(hN:X.N.Nodup)(hi:X.N[i]?=some x)(hx:Loc X.env.scope x)(he:PE X e te)(hs:swapsWith e (some (.Name x pos')) pos.line X.env=pure false:=by rfl)(hf:X.fn x=true\/X.env.scope.names.lookup x=some .local:=by first|exact .inl rfl|exact .inr rfl|assumption):
  PS X (.Assign [.Name x pos'] e pos) (tAsg te (QmQ i)):=by
 intro pins s σ H D I h
 refine wpAny_Assign_Name (thn (he pins s σ H _ I h) λv s1 ⟨y,H1,I1,r1,q1⟩=>?_) hs
 exact QaH I1 hN hi hx r1 (λs2 I2=>⟨_,H1,I2,q1⟩) hf
noncomputable def tPar(i j:Nat)(ta:TA):TS:=λD σ H=>ta σ H λvs H1=>∃v w,vs=[v,w]/\D.nx ((σ.set i (some v)).set j (some w)) H1
theorem QmT{i j:Nat}{x y:Str}{a b:Expr}{ta:TA}{px py pt:Pos}{kt k2 pt2}(hc:X.calm=true)(hN:X.N.Nodup)(hi:X.N[i]?=some x)(hj:X.N[j]?=some y)(hij:i≠j)(hx:X.env.scope.names.lookup x=some .local)(hy:X.env.scope.names.lookup y=some .local)(ha:PA X [a,b] ta)(hw:swappedStores [.Tuple [.Name x px,.Name y py] kt pt] (.Tuple [a,b] k2 pt2) X.env=pure (some [x,y]))(hs:swapsWithSole [.Tuple [.Name x px,.Name y py] kt pt] (.Tuple [a,b] k2 pt2) pos.line X.env=pure false:=by rfl):
  PS X (.Assign [.Tuple [.Name x px,.Name y py] kt pt] (.Tuple [a,b] k2 pt2) pos) (tPar i j ta):=by
 intro pins s σ H D I h
 rw[exec_Assign_arm]
 refine Ua (WZ ?_)
 rw[hs]
 refine Ua (Uh ?_)
 rw[Ue (by decide)]
 refine Ua (Tuple_ (thn (ha _ pins s σ H _ I h) λus s1 ⟨vs,H1,I1,r1,q1⟩=>?_))
 obtain⟨v,w,e1,q1⟩:=q1
 subst e1
 obtain⟨u1,u2,rfl,rv,rw'⟩:∃u1 u2,us=[u1,u2]/\RelV v u1/\RelV w u2:=by
  cases r1 with
  |cons p q =>
   cases q with
   |cons p' q' =>
    cases q'
    exact⟨_,_,rfl,p,p'⟩
 refine U4 ?_ (by show 2<=sizeLine;decide)
 have I2:Inv X pins σ H1 {s1 with heap:=s1.heap.push {cls:=.type "tuple",data:=.seq [u1,u2].toArray} }:=I1.kept (t':=s1.toks) λb o e=>Ub _ e
 rw[hw]
 refine Ua (Uh ?_)
 show wpAny (model X.prog X.w) X.A (do rule "assign.swapped-stores";let items <-unpackItems (.ref s1.heap.objs.size) 2 none;assignInOrder [λv=>bindName X.env y v,λv=>bindName X.env x v] items.reverse;pure Flow.next) _ _ _
 refine Ua (Rc (Ua (unpackItems_tuple (items:=#[u1,u2]) (I.ok.hd hc) (IsTup.new s1.heap _) λh' hx'=>?_)))
 have I3:=I2.kept (h':=h') (t':=s1.toks) λb o e=>hx' b o (UD (Ui e)) e
 show wpAny _ _ (assignInOrder [λv=>bindName X.env y v,λv=>bindName X.env x v] [u2,u1] >>= λ_=>pure Flow.next) _ _ _
 refine Ua (WC (wpAny_bindName (QaH I3 hN hj (.inl hy) rw' (λs2 I4=>?_) (.inr hy))))
 refine WC (wpAny_bindName (QaH I4 hN hi (.inl hx) rv (λs3 I5=>assignInOrder_nil (Uh ?_)) (.inr hx)))
 rw[List.set_comm _ _ (Ne.symm hij)]at I5
 exact⟨_,H1,I5,q1⟩
end
section
variable{X:Cx}{pos:Pos}
noncomputable def QmU(c:TT)(tb:TS):TS:=λD σ H=>∃W:Nat->St->Hp->Prop,(∃m,W m σ H)/\∀m σ H,W m σ H ->
 c σ H λb H1=>if b=true then ∃N:St->Hp->Prop,(∀σ' H',N σ' H'->∃m',m'<m/\W m' σ' H')/\tb {D with nx:=N,ct:=N,bk:=D.nx} σ H1 else D.nx σ H1
theorem Qjy{c:Expr}{body:List Stmt}{tc:TT}{tb:TS}(hp:PassesOwn (model X.prog X.w) X.A X.env X.xe)(hc:PT X c tc)(hb:PSs X body tb):PS X (.While c body [] pos) (QmU tc tb):=by
 intro pins s σ H D I h
 obtain⟨W,⟨m0,w0⟩,turn⟩:=h
 refine wpAny_While (codeAny_whileLoop (λn s'=>∃σ' H',Inv X pins σ' H' s'/\W n σ' H') ?_ m0 ⟨σ,H,I,w0⟩)
 rintro n s1 ⟨σ1,H1,I1,w1⟩
 refine T8 hp (thn (hc pins s1 σ1 H1 _ I1 (turn n σ1 H1 w1)) λb s2 ⟨H2,I2,q2⟩=>?_)
 cases b with
 |true =>
  obtain⟨N,hN,q2⟩:=q2
  rw[Ud rfl]
  refine T8 hp (thn (hb pins s2 σ1 H2 _ I2 q2) λf s3 q3=>?_)
  cases f with
  |next =>
   obtain⟨σ3,H3,I3,n3⟩:=q3
   obtain⟨m',hm,w3⟩:=hN σ3 H3 n3
   exact⟨m',hm,σ3,H3,I3,w3⟩
  |cont =>
   obtain⟨σ3,H3,I3,n3⟩:=q3
   obtain⟨m',hm,w3⟩:=hN σ3 H3 n3
   exact⟨m',hm,σ3,H3,I3,w3⟩
  |brk=>exact q3
  |ret v=>exact q3
 |false =>
  rw[Ue Ug]
  exact Wm ⟨σ1,H2,I2,q2⟩
end
structure It where
 go:Nat->Hp->Prop
 yld:Nat->Hp->V->Hp->Prop
 stop:Nat->Hp->Prop
noncomputable def FpOk(X:Cx)(pins:List (Addr×Obj))(H:Hp)(b:Addr):Prop :=
 H b=none/\b≠X.env.locals/\b∉X.fs/\(b∈X.ex\/X.s₀.heap.objs.size<=b)/\(∀x c,X.env.cells.lookup x=some c->c≠b)/\∀p∈X.pn++pins,p.1≠b
theorem Inv.fpOk{X:Cx}{pins:List (Addr×Obj)}{σ:St}{H H':Hp}{s:Shared}{b:Addr}(I:Inv X pins σ H s)(hb:s.heap.objs.size<=b)(hn:H' b=none):FpOk X pins H' b:=by
 refine⟨hn,RW (Uq I.lt hb),I.nofs hb,.inr (Ut I.sz hb),λx c e z=>?_,λp hp z=>?_⟩
 ·obtain⟨v,q⟩:=I.cell x c e
  exact absurd (Uq q.lt (by rw[z];exact hb)) (Te _)
 ·exact absurd (Uq (Ui (I.pin p hp).1) (by rw[z];exact hb)) (Te _)
structure Turn(P:Program)(w:World)(K:Frag)(tg:Expr)(J:It)(fp:List Addr)(it:Addr)(tn:Nat->Heap->Prop):Prop where
 mem:it∈fp
 obj:∀i h,tn i h->∀b∈fp,∃o,h.get? b=some o/\∀v,o.data≠.cell v
 keep:∀i h h',tn i h->(∀b∈fp,∀o,h.get? b=some o->h'.get? b=some o)->tn i h'
 item:∀(X:Cx),X.prog=P->X.w=w->X.K=K->X.calm=true->∀(i:Nat)(pins:List (Addr×Obj))(s:Shared)(σ:St)(H:Hp)(E:Value->Shared->Prop),Inv X pins σ H s->(∀b∈fp,FpOk X pins H b)->tn i s.heap->J.go i H ->
  wpAny (model P w) X.A (pyNext (.ref it)) (λr s1=>∃u,r=some u /\
   wpAny (model P w) X.A (letOwnedTupleGo tg (.ref it) u) (λ_ s2=>∃x H',Inv X pins σ H' s2/\RelV x u/\J.yld i H x H'/\tn (i+1) s2.heap/\∀b∈fp,H' b=none) E s1) E s
 done:∀(X:Cx),X.prog=P->X.w=w->X.K=K->X.calm=true->∀(i:Nat)(pins:List (Addr×Obj))(s:Shared)(σ:St)(H:Hp)(E:Value->Shared->Prop),Inv X pins σ H s->(∀b∈fp,FpOk X pins H b)->tn i s.heap->J.stop i H ->
  wpAny (model P w) X.A (pyNext (.ref it)) (λr s1=>r=none/\Inv X pins σ H s1) E s
 self:∀(A:Around)(i:Nat)(s:Shared)(Q:Value->Shared->Prop)(E:Value->Shared->Prop),tn i s.heap->Q (.ref it) s->wpAny (model P w) A (pyIter (.ref it)) Q E s
noncomputable abbrev TI:=St->Hp->(It->Hp->Prop)->Prop
noncomputable def PIE(X:Cx)(pins:List (Addr×Obj))(σ:St)(tg:Expr)(R:It->Hp->Prop)(itv:Value)(s2:Shared):Prop :=
 ∃(it:Addr)(fp:List Addr)(tn:Nat->Heap->Prop)(J:It)(H':Hp),itv=.ref it/\Inv X pins σ H' s2/\Turn X.prog X.w X.K tg J fp it tn/\tn 0 s2.heap/\(∀b∈fp,FpOk X pins H' b)/\R J H'
noncomputable def PI(X:Cx)(tg iter:Expr)(wi:TI):Prop :=
 ∀(pins:List (Addr×Obj))(s:Shared)(σ:St)(H:Hp)(R:It->Hp->Prop),Inv X pins σ H s->wi σ H R ->
  wpAny (model X.prog X.w) X.A (eval iter X.env) (λv s1=>wpAny (model X.prog X.w) X.A (pyIter v) (PIE X pins σ tg R) X.xe s1) X.xe s
theorem Qlg{M:Model}{A:Around}{E:Value->Shared->Prop}{s:Shared}{tg:Expr}{it:Addr}{u:Value}{o:Obj}{n:String}{vs:Array Value}{Q:Unit->Shared->Prop}(ho:s.heap.get? it=some o)(hc:o.cls=.type n)(hd:o.data=.fields vs)(hn:["enumerate", "zip", "dict_itemiterator", "dict_reverseitemiterator", "odict_iterator", "itertools.zip_longest", "itertools.pairwise"].contains n=false)(hQ:Q () s):wpAny M A (letOwnedTupleGo tg (.ref it) u) Q E s:=by
  unfold letOwnedTupleGo
  cases tg <;> first
    |exact Uh hQ
    | (cases u <;> first
        |exact Uh hQ
        | (refine Ua (wpAny_load ho ?_)
           rw[hc,hd]
           show wpAny M A (if (["enumerate", "zip", "dict_itemiterator", "dict_reverseitemiterator", "odict_iterator", "itertools.zip_longest", "itertools.pairwise"].contains n && vs[0]? == some (rawInt _))=true then _ else _) Q E s
           rw[Ue (by intro h;rw[hn,Bool.false_and]at h;cases h)]
           exact Uh hQ))
noncomputable def Itl(K:Frag)(a:Addr):It :=
 ⟨λi H=>∃xs x,SqL K H a xs/\xs[i]?=some x,λi H x H'=>H'=H/\∀xs,SqL K H a xs->xs[i]?=some x,λi H=>∃xs,SqL K H a xs/\xs.length<=i⟩
noncomputable def Itt(K:Frag)(a:Addr):It :=
 ⟨λi H=>∃xs x,SqT K H a xs/\xs[i]?=some x,λi H x H'=>H'=H/\∀xs,SqT K H a xs->xs[i]?=some x,λi H=>∃xs,SqT K H a xs/\xs.length<=i⟩
noncomputable def Itr(lo:Int)(n:Nat):It:=⟨λi _=>i<n,λi H x H'=>H'=H/\x=.int (lo+i),λi _=>n<=i⟩
theorem QhL{P:Program}{w:World}{K:Frag}{tg:Expr}(a it:Addr):Turn P w K tg (Itl K a) [it] it (λi h=>h.IsListIter it a i) where
 mem:=by simp
 obj:=λi h st b hb=>by
  have e:b=it:=by simpa using hb
  subst e
  obtain⟨o,e,c,d⟩:=st
  exact⟨o,e,λv z=>by rw[d]at z;cases z⟩
 keep:=λi h h' st k=>st.at λo e=>k it (by simp) o e
 item:=by
  intro X hP hw hK hc i pins s σ H E I hf st hg
  subst hP hw hK
  obtain⟨xs,x,hq,hx⟩:=hg
  obtain⟨its,rv,p,hz⟩:=I.list hq
  obtain⟨u,hu,ru⟩:=rv.get hx
  obtain⟨f0,f1,f2,f3,f4,f5⟩:=hf it (by simp)
  refine wpAny_pyNext_list_item st p.isList (x:=u) (by simpa using hu) λh' st' sb=>?_
  have I1:Inv X pins σ H {s with heap:=h'}:=I.turned (t':=s.toks) (λb o hb e=>(sb.2 b hb).trans e) f0 f1 f3 f4 f5
  obtain⟨o,e,c,d⟩:=id st'
  exact⟨u,rfl,Qlg (s:={s with heap:=h'}) e c d (by decide) ⟨x,H,I1,ru,⟨rfl,λys hy=>by rw[I.list_inj hy hq];exact hx⟩,st',λb hb=>(hf b hb).1⟩⟩
 done:=by
  intro X hP hw hK hc i pins s σ H E I hf st hg
  subst hP hw hK
  obtain⟨xs,hq,hx⟩:=hg
  obtain⟨its,rv,p,hz⟩:=I.list hq
  obtain⟨f0,f1,f2,f3,f4,f5⟩:=hf it (by simp)
  have hl:=rv.length
  exact wpAny_pyNext_list_end (I.ok.hd hc) st p.isList (by simp;omega) λh' eb=>⟨rfl,I.turned (t':=s.toks) (λb o hb e=>eb b o hb e) f0 f1 f3 f4 f5⟩
 self:=λ_ _ _ _ _ st h=>wpAny_pyIter_listiter st h
theorem QgW{P:Program}{w:World}{K:Frag}{tg:Expr}(a it:Addr):Turn P w K tg (Itt K a) [it] it (λi h=>h.IsTupleIter it a i) where
 mem:=by simp
 obj:=λi h st b hb=>by
  have e:b=it:=by simpa using hb
  subst e
  obtain⟨o,e,c,d⟩:=st
  exact⟨o,e,λv z=>by rw[d]at z;cases z⟩
 keep:=λi h h' st k=>st.at λo e=>k it (by simp) o e
 item:=by
  intro X hP hw hK hc i pins s σ H E I hf st hg
  subst hP hw hK
  obtain⟨xs,x,hq,hx⟩:=hg
  obtain⟨its,rv,p,hz⟩:=I.tuple hq
  obtain⟨u,hu,ru⟩:=rv.get hx
  obtain⟨f0,f1,f2,f3,f4,f5⟩:=hf it (by simp)
  refine wpAny_pyNext_tuple_item st (show s.heap.IsTuple a its.toArray from p) (x:=u) (by simpa using hu) λh' st' sb=>?_
  have I1:Inv X pins σ H {s with heap:=h'}:=I.turned (t':=s.toks) (λb o hb e=>(sb.2 b hb).trans e) f0 f1 f3 f4 f5
  obtain⟨o,e,c,d⟩:=id st'
  exact⟨u,rfl,Qlg (s:={s with heap:=h'}) e c d (by decide) ⟨x,H,I1,ru,⟨rfl,λys hy=>by rw[I.tuple_inj hy hq];exact hx⟩,st',λb hb=>(hf b hb).1⟩⟩
 done:=by
  intro X hP hw hK hc i pins s σ H E I hf st hg
  subst hP hw hK
  obtain⟨xs,hq,hx⟩:=hg
  obtain⟨its,rv,p,hz⟩:=I.tuple hq
  obtain⟨f0,f1,f2,f3,f4,f5⟩:=hf it (by simp)
  have hl:=rv.length
  exact wpAny_pyNext_tuple_end (I.ok.hd hc) st (show s.heap.IsTuple a its.toArray from p) (by simp;omega) λh' eb=>⟨rfl,I.turned (t':=s.toks) (λb o hb e=>eb b o hb e) f0 f1 f3 f4 f5⟩
 self:=λ_ _ _ _ _ st h=>wpAny_pyIter_tupleiter st h
theorem QgX{P:Program}{w:World}{K:Frag}{tg:Expr}(it:Addr)(lo:Int)(n:Nat):Turn P w K tg (Itr lo n) [it] it (λi h=>IsRangeIter h it (lo+(i:Nat)*1) ((n:Int) - (i:Nat)) 1) where
 mem:=by simp
 obj:=λi h st b hb=>by
  have e:b=it:=by simpa using hb
  subst e
  exact⟨_,st,λv z=>by
   have z':Data.fields _=Data.cell v:=z
   cases z'⟩
 keep:=λi h h' st k=>k it (by simp) _ st
 item:=by
  intro X hP hw hK hc i pins s σ H E I hf st hg
  subst hP hw hK
  obtain⟨f0,f1,f2,f3,f4,f5⟩:=hf it (by simp)
  have W:=Walks.range (prog:=X.prog) (w:=X.w) (I.ok.hd hc) it lo 1 n
  refine W.item i s _ _ hg st λv h' tk hv st' kk=>?_
  obtain⟨t,rfl⟩:=hv
  have I1:Inv X pins σ H {s with heap:=h',toks:=tk}:=I.turned (λb o hb e=>kk b o (by simpa using hb) e) f0 f1 f3 f4 f5
  refine⟨_,rfl,Qlg (s:={s with heap:=h',toks:=tk}) (n:="range_iterator") st' rfl rfl (by decide) ⟨.int (lo+i),H,I1,⟨t,?_⟩,⟨rfl,rfl⟩,st',λb hb=>(hf b hb).1⟩⟩
  rw[Int.mul_one]
 done:=by
  intro X hP hw hK hc i pins s σ H E I hf st hg
  subst hP hw hK
  obtain⟨f0,f1,f2,f3,f4,f5⟩:=hf it (by simp)
  exact wpAny_pyNext_range_end (I.ok.hd hc) st (by have:n<=i:=hg;omega) λh' eb=>⟨rfl,I.turned (t':=s.toks) (λb o hb e=>eb b o hb e) f0 f1 f3 f4 f5⟩
 self:=λ_ _ _ _ _ st h=>wpAny_pyIter_rangeiter st h
end
section
section
variable{X:Cx}{tg:Expr}
theorem Qjz{pins:List (Addr×Obj)}{σ:St}{H:Hp}{s:Shared}{R:It->Hp->Prop}{E:Value->Shared->Prop}{lo hi:Int}{t u v:Tok}{tk:Nat}(I:Inv X pins σ H s)(h1:-(2^62)<=lo)(h2:lo<2^62)(h3:-(2^62)<=hi)(h4:hi<2^62)(q:R (Itr lo (hi-lo).toNat) H):wpAny (model X.prog X.w) X.A (pyIter (.ref s.heap.objs.size)) (PIE X pins σ tg R) E {s with heap:=s.heap.push {cls:=.type "range",data:=.fields #[.int lo t,.int hi u,.int 1 v]},toks:=tk}:=by
 refine wpAny_pyIter_range (IsRange.new ..) (small_one h1 h2 h3 h4) ?_
 have I1:Inv X pins σ H {s with heap:=s.heap.push {cls:=.type "range",data:=.fields #[.int lo t,.int hi u,.int 1 v]},toks:=tk}:=I.kept λb o e=>Ub _ e
 refine⟨(s.heap.push {cls:=.type "range",data:=.fields #[.int lo t,.int hi u,.int 1 v]}).objs.size,[(s.heap.push {cls:=.type "range",data:=.fields #[.int lo t,.int hi u,.int 1 v]}).objs.size],_,_,H,rfl,
  I1.kept (t':=tk) λb o e=>Ub _ e,QgX _ lo (hi-lo).toNat,?_,λb hb=>?_,q⟩
 ·have e1:lo+((0:Nat):Int)*1=lo:=by simp
  have e2:(((hi-lo).toNat:Nat):Int) - ((0:Nat):Int)=Builtin.Range.rangeSize lo hi 1:=by rw[rangeSize_one];split <;> omega
  show IsRangeIter _ _ (lo+((0:Nat):Int)*1) ((((hi-lo).toNat:Nat):Int) - ((0:Nat):Int)) 1
  rw[e1,e2]
  exact Up _ rfl
 ·have e:b=(s.heap.push {cls:=.type "range",data:=.fields #[.int lo t,.int hi u,.int 1 v]}).objs.size:=by simpa using hb
  subst e
  exact I1.fpOk (Uc _) (I1.hok.fresh (Uc _))
noncomputable def QoK(ta:TA):TI:=λσ H R=>ta σ H λvs H1=>∃j:Int,vs=[.int j] /\ -(2^62)<=j/\j<2^62/\R (Itr 0 j.toNat) H1
theorem QhM{a:Expr}{ta:TA}{p pos:Pos}(hg:Gl X "range")(hm:X.mg "range" = none)(ha:PA X [a] ta)(hs:starEach [a] X.env=[(false,eval a X.env)]:=by rfl):PI X tg (.Call (.Name "range" p) [a] [] pos) (QoK ta):=by
 intro pins s σ H R I h
 refine Call_ (Qaj I hg hm boot_range (UR (thn (ha pos pins s σ H _ I h) λus s1 ⟨vs,H1,I1,r1,q1⟩=>?_) hs rfl))
 obtain⟨j,e,q1,q2,q⟩:=q1
 subst e
 cases r1 with
 |cons r rr =>
  cases rr
  obtain⟨t,rfl⟩:=r
  exact call_range_1 (Qjz I1 (by omega) (by omega) q1 q2 (by simpa using q))
noncomputable def tFor(wi:TI)(g:TG)(tb:TS):TS:=λD σ H=>wi σ H λJ H1=>∃W:Nat->Nat->St->Hp->Prop,(∃m,W 0 m σ H1)/\∀i m σ H,W i m σ H ->
 (J.stop i H/\D.nx σ H)\/(J.go i H/\∃N:St->Hp->Prop,(∀σ' H',N σ' H'->∃m',m'<m/\W (i+1) m' σ' H')/\∀x H',J.yld i H x H'->g x σ H' λσ2 H2=>tb {D with nx:=N,ct:=N,bk:=D.nx} σ2 H2)
noncomputable def Qem(fp:List Addr)(h:Heap):List (Addr×Obj):=fp.filterMap λb=>(h.get? b).map λo=>(b,o)
theorem J6{fp:List Addr}{h:Heap}{b:Addr}{o:Obj}(hb:b∈fp)(e:h.get? b=some o):(b,o)∈Qem fp h:=WD.mpr ⟨b,hb,by rw[e];rfl⟩
theorem QhN{fp:List Addr}{h:Heap}{p:Addr×Obj}(hp:p∈Qem fp h):p.1∈fp/\h.get? p.1=some p.2:=by
 obtain⟨b,hb,e⟩:=WD.mp hp
 cases q:h.get? b with
 |none=>rw[q]at e;cases e
 |some o =>
  rw[q]at e
  have e':(b,o)=p:=Option.some.inj e
  subst e'
  exact⟨hb,q⟩
theorem Inv.pinned{pins:List (Addr×Obj)}{σ:St}{H:Hp}{s:Shared}{fp:List Addr}(I:Inv X pins σ H s)(hf:∀b∈fp,FpOk X pins H b)(ho:∀b∈fp,∃o,s.heap.get? b=some o/\∀v,o.data≠.cell v):Inv X (pins++Qem fp s.heap) σ H s :=
 I.pins_of λp hp=>(UX.mp hp).elim (λz=>I.pin p (Uz _ z)) λz=>by
  obtain⟨hb,e⟩:=QhN z
  obtain⟨f0,f1,f2,_⟩:=hf p.1 hb
  obtain⟨o,e',d⟩:=ho p.1 hb
  rw[e]at e';cases e'
  exact⟨e,f0,f1,f2,d⟩
theorem Inv.unpinned{pins pl:List (Addr×Obj)}{σ:St}{H:Hp}{s:Shared}(I:Inv X (pins++pl) σ H s):Inv X pins σ H s:=I.pins_of λp hp=>I.pin p (Uz _ (TF _ hp))
theorem QmV{iter:Expr}{body:List Stmt}{wi:TI}{g:TG}{tb:TS}{pos:Pos}(hp:PassesOwn (model X.prog X.w) X.A X.env X.xe)(hc:X.calm=true)(hi:PI X tg iter wi)(hg:PG X tg g)(hb:PSs X body tb)(hs:∀x,foldedSetIterable iter X.env x=pure x:=by intro _;rfl):PS X (.For tg iter body [] pos) (tFor wi g tb):=by
 intro pins s σ H D I h
 refine wpAny_For (thn (hi pins s σ H _ I h) λv s1 h1=>thn h1 λitv s2 h2=>?_) hs
 obtain⟨it,fp,tn,J,H2,e,I2,T,st2,f2,W,⟨m0,w0⟩,turn⟩:=h2
 subst e
 -- what stays true of the iterator's objects through the loop
 have stat:∀{H':Hp},(∀b∈fp,H' b=none)->∀b∈fp,FpOk X pins H' b:=λhn b hb=>⟨hn b hb,(f2 b hb).2⟩
 refine codeAny_forLoop_any (λn s'=>∃i σ' H',Inv X pins σ' H' s'/\tn i s'.heap/\(∀b∈fp,H' b=none)/\W i n σ' H') ?_ m0 ⟨0,σ,H2,I2,st2,λb hb=>(f2 b hb).1,w0⟩
 rintro n s3 ⟨i,σ3,H3,I3,st3,fr3,w3⟩
 rcases turn i n σ3 H3 w3 with⟨stop,qn⟩|⟨go,N,hN,step⟩
 ·refine T8 hp (thn (T.done X rfl rfl rfl hc i pins s3 σ3 H3 X.xe I3 (stat fr3) st3 stop) λr s4 ⟨hr,I4⟩=>?_)
  subst hr
  exact Wm ⟨σ3,H3,I4,qn⟩
 ·refine T8 hp (thn (T.item X rfl rfl rfl hc i pins s3 σ3 H3 X.xe I3 (stat fr3) st3 go) λr s4 ⟨u,hr,h4⟩=>?_)
  subst hr
  refine T8 hp (thn h4 λ_ s5 ⟨x,H5,I5,r5,y5,st5,fr5⟩=>?_)
  have I5':=I5.pinned (stat fr5) (T.obj _ _ st5)
  refine T8 hp (thn (hg _ s5 σ3 H5 x u _ I5' r5 (step x H5 y5)) λ_ s6 ⟨σ6,H6,I6,q6⟩=>?_)
  refine T8 hp (thn (hb _ s6 σ6 H6 _ I6 q6) λf s7 q7=>?_)
  have again:∀{σ7:St}{H7:Hp},Inv X (pins++Qem fp s5.heap) σ7 H7 s7->N σ7 H7->∃m,m<n/\∃i σ' H',Inv X pins σ' H' s7/\tn i s7.heap/\(∀b∈fp,H' b=none)/\W i m σ' H':=λ{σ7 H7} I7 n7=>by
   obtain⟨m',hm,w7⟩:=hN σ7 H7 n7
   refine⟨m',hm,i+1,σ7,H7,I7.unpinned,T.keep _ _ _ st5 λb hb o e=>(I7.pin (b,o) (Uz _ (Uz _ (J6 hb e)))).1,λb hb=>?_,w7⟩
   obtain⟨o,e,d⟩:=T.obj _ _ st5 b hb
   exact(I7.pin (b,o) (Uz _ (Uz _ (J6 hb e)))).2.1
  cases f with
  |next=>obtain⟨σ7,H7,I7,n7⟩:=q7;exact again I7 n7
  |cont=>obtain⟨σ7,H7,I7,n7⟩:=q7;exact again I7 n7
  |brk=>obtain⟨σ7,H7,I7,q7⟩:=q7;exact⟨σ7,H7,I7.unpinned,q7⟩
  |ret v=>obtain⟨x7,σ7,H7,I7,r7,q7⟩:=q7;exact⟨x7,σ7,H7,I7.unpinned,r7,q7⟩
end
end
section
noncomputable abbrev R2:=V->V->Hp->VK->Prop
noncomputable def OpR(X:Cx)(f:Value->Value->Sem Value)(r:R2):Prop :=
 ∀(pins:List (Addr×Obj))(s:Shared)(σ:St)(H:Hp)(x y:V)(v u:Value)(Q:VK),Inv X pins σ H s->RelV x v->RelV y u->r x y H Q ->
  wpAny (model X.prog X.w) X.A (f v u) (EP X pins σ Q) X.xe s
noncomputable def UnR(X:Cx)(f:Value->Sem Value)(r:V->Hp->VK->Prop):Prop :=
 ∀(pins:List (Addr×Obj))(s:Shared)(σ:St)(H:Hp)(x:V)(v:Value)(Q:VK),Inv X pins σ H s->RelV x v->r x H Q ->
  wpAny (model X.prog X.w) X.A (f v) (EP X pins σ Q) X.xe s
noncomputable def CallR(X:Cx)(f:Value)(r:List V->Hp->VK->Prop):Prop :=
 ∀(pins:List (Addr×Obj))(s:Shared)(σ:St)(H:Hp)(xs:List V)(us:List Value)(Q:VK),Inv X pins σ H s->Vals xs us->r xs H Q ->
  wpAny (model X.prog X.w) X.A (call f us) (EP X pins σ Q) X.xe s
noncomputable def tOp(r:R2)(ta tb:TE):TE:=λσ H Q=>ta σ H λx H1=>tb σ H1 λy H2=>r x y H2 Q
noncomputable def tUn(r:V->Hp->VK->Prop)(ta:TE):TE:=λσ H Q=>ta σ H λx H1=>r x H1 Q
noncomputable def rI(C:Int->Int->Prop)(g:Int->Int->V):R2:=λx y H Q=>∃i j,x=.int i/\y=.int j/\C i j/\Q (g i j) H
noncomputable def rI0(g:Int->Int->V):R2:=λx y H Q=>∃i j,x=.int i/\y=.int j/\Q (g i j) H
noncomputable def rU(g:Int->V):V->Hp->VK->Prop:=λx H Q=>∃i,x=.int i/\Q (g i) H
section
variable{X:Cx}{a b c:Expr}{ta tb tc:TE}{pos:Pos}
theorem binT(ha:PE X a ta)(hb:PE X b tb){pins:List (Addr×Obj)}{s:Shared}{σ:St}{H:Hp}{R:V->V->Hp->Prop}(I:Inv X pins σ H s)(h:ta σ H λx H1=>tb σ H1 λy H2=>R x y H2){Q:Value->Shared->Prop}{f:Value->Value->Sem Value}(hf:∀v u s2 x y H2,Inv X pins σ H2 s2->RelV x v->RelV y u->R x y H2->wpAny (model X.prog X.w) X.A (f v u) Q X.xe s2):
  wpAny (model X.prog X.w) X.A (eval a X.env) (λv s₁=>wpAny (model X.prog X.w) X.A (eval b X.env) (λu s₂=>wpAny (model X.prog X.w) X.A (f v u) Q X.xe s₂) X.xe s₁) X.xe s:=by
 refine thn (ha pins s σ H _ I h) λv s1 ⟨x,H1,I1,r1,q1⟩=>?_
 refine thn (hb pins s1 σ H1 _ I1 q1) λu s2 ⟨y,H2,I2,r2,q2⟩=>?_
 exact hf v u s2 x y H2 I2 r1 r2 q2
theorem QoL{op:Operator}{r:R2}(ho:OpR X (binaryOp op) r)(ha:PE X a ta)(hb:PE X b tb):PE X (.BinOp a op b pos) (tOp r ta tb):=by
 intro pins s σ H Q I h
 exact wpAny_BinOp (binT ha hb I h λv u s2 x y H2 I2 rx ry q=>ho pins s2 σ H2 x y v u Q I2 rx ry q)
theorem QoM{op:UnaryOp}{r:V->Hp->VK->Prop}(ho:UnR X (unaryOp op) r)(ha:PE X a ta):PE X (.UnaryOp op a pos) (tUn r ta):=by
 intro pins s σ H Q I h
 exact UnaryOp_ (thn (ha pins s σ H _ I h) λv s1 ⟨x,H1,I1,r1,q1⟩=>ho pins s1 σ H1 x v Q I1 r1 q1)
theorem opI{f:Value->Value->Sem Value}{C:Int->Int->Prop}{g:Int->Int->Int}(rule:∀(i j:Int) (t u:Tok) (s:Shared) (Q:Value->Shared->Prop) (E:Value->Shared->Prop),C i j->Q (.int (g i j) s.toks) {s with toks:=s.toks+1}->wpAny (model X.prog X.w) X.A (f (.int i t) (.int j u)) Q E s):
  OpR X f (rI C λi j=>.int (g i j)):=by
 intro pins s σ H x y v u Q I rx ry h
 obtain⟨i,j,rfl,rfl,hc,q⟩:=h
 obtain⟨t,rfl⟩:=rx
 obtain⟨t',rfl⟩:=ry
 exact rule i j t t' s _ _ hc ⟨.int (g i j),H,I.tok _,⟨_,rfl⟩,q⟩
theorem opI0{f:Value->Value->Sem Value}{g:Int->Int->Int}(rule:∀(i j:Int) (t u:Tok) (s:Shared) (Q:Value->Shared->Prop) (E:Value->Shared->Prop),Q (.int (g i j) s.toks) {s with toks:=s.toks+1}->wpAny (model X.prog X.w) X.A (f (.int i t) (.int j u)) Q E s):
  OpR X f (rI0 λi j=>.int (g i j)):=by
 intro pins s σ H x y v u Q I rx ry h
 obtain⟨i,j,rfl,rfl,q⟩:=h
 obtain⟨t,rfl⟩:=rx
 obtain⟨t',rfl⟩:=ry
 exact rule i j t t' s _ _ ⟨.int (g i j),H,I.tok _,⟨_,rfl⟩,q⟩
theorem opB0{f:Value->Value->Sem Value}{g:Int->Int->Bool}(rule:∀(i j:Int) (t u:Tok) (s:Shared) (Q:Value->Shared->Prop) (E:Value->Shared->Prop),Q (.bool (g i j)) s->wpAny (model X.prog X.w) X.A (f (.int i t) (.int j u)) Q E s):
  OpR X f (rI0 λi j=>.bl (g i j)):=by
 intro pins s σ H x y v u Q I rx ry h
 obtain⟨i,j,rfl,rfl,q⟩:=h
 obtain⟨t,rfl⟩:=rx
 obtain⟨t',rfl⟩:=ry
 exact rule i j t t' s _ _ ⟨.bl (g i j),H,I,rfl,q⟩
def CDiv(i j:Int):Prop:=0<j/\j<1073741824
def CPow(i j:Int):Prop:=0<=j/\j<=1000000/\i.natAbs<2^64
def CMul(i j:Int):Prop:=(-(2^64)<i/\i<2^64)\/(-(2^64)<j/\j<2^64)
theorem CMul.ok{i j:Int}(h:CMul i j):IntMulOk i j:=by
 rcases h with⟨h1,h2⟩|⟨h1,h2⟩
 ·exact .of_left (intBits_le_64 h1 h2)
 ·exact .of_right (intBits_le_64 h1 h2)
theorem op_add:OpR X (binaryOp .Add) (rI0 λi j=>.int (i+j)):=opI0 λ_ _ _ _ _ _ _ q=>add_int q
theorem QmW:OpR X (binaryOp .Sub) (rI0 λi j=>.int (i-j)):=opI0 λ_ _ _ _ _ _ _ q=>sub_int q
theorem op_mul:OpR X (binaryOp .Mult) (rI CMul λi j=>.int (i*j)):=opI λ_ _ _ _ _ _ _ hc q=>mul_int q hc.ok
theorem Qlh:OpR X (binaryOp .FloorDiv) (rI CDiv λi j=>.int (i/j)):=opI λi j _ _ _ _ _ hc q=>by
 have h1:(0:Int)<j:=hc.1
 have h2:j<1073741824:=hc.2
 exact floordiv_int (by omega) (by rw[Int.fdiv_eq_ediv_of_nonneg i (by omega)];exact q) (.inl (PyProof.noPylong_small (by omega)))
theorem QmX:OpR X (binaryOp .Mod) (rI (λ_ j=>0<j) λi j=>.int (i%j)):=opI λi j _ _ _ _ _ hc q=>by
 have h1:(0:Int)<j:=hc
 exact mod_int' (by omega) (by rw[Int.fmod_eq_emod_of_nonneg i (by omega)];exact q)
theorem QmY:OpR X (binaryOp .Pow) (rI CPow λi j=>.int (i^j.toNat)):=opI λ_ _ _ _ _ _ _ hc q=>pow_int_small hc.1 hc.2.1 hc.2.2 q
theorem unI{f:Value->Sem Value}{g:Int->Int}(rule:∀(i:Int) (t:Tok) (s:Shared) (Q:Value->Shared->Prop) (E:Value->Shared->Prop),Q (.int (g i) s.toks) {s with toks:=s.toks+1}->wpAny (model X.prog X.w) X.A (f (.int i t)) Q E s):
  UnR X f (rU λi=>.int (g i)):=by
 intro pins s σ H x v Q I rx h
 obtain⟨i,rfl,q⟩:=h
 obtain⟨t,rfl⟩:=rx
 exact rule i t s _ _ ⟨.int (g i),H,I.tok _,⟨_,rfl⟩,q⟩
theorem QmZ:UnR X (unaryOp .USub) (rU λi=>.int (-i)):=unI λ_ _ _ _ _ q=>neg_int q
end
noncomputable def scal:V->V->Bool
 |.non,.non=>true | .non,.int _=>true | .int _,.non=>true | .non,.bl _=>true | .bl _,.non=>true | .non,.str _=>true | .str _,.non=>true
 |.int _,.int _=>true | .bl _,.bl _=>true | .str _,.str _=>true | .byt _,.byt _=>true
 |.int _,.str _=>true | .str _,.int _=>true | .bl _,.str _=>true | .str _,.bl _=>true
 |_,_=>false
noncomputable def rEq:R2:=λx y H Q=>scal x y=true/\Q (.bl (decide (x=y))) H
noncomputable def rNe:R2:=λx y H Q=>scal x y=true/\Q (.bl (!decide (x=y))) H
theorem Qdp{i j:Int}:decide (V.int i=V.int j)=(i == j):=by
 rw[Rm]
 simp
theorem Qf3{i j:Bool}:decide (V.bl i=V.bl j)=(i == j):=by
 rw[Rm]
 simp
theorem Qdq{i j:Str}:decide (V.str i=V.str j)=(i == j):=by
 rw[Rm]
 simp
theorem QhO{i j:Array UInt8}:decide (V.byt i=V.byt j)=(i.toList == j.toList):=by
 rw[Rm]
 cases i
 cases j
 simp
section
variable{X:Cx}{a b c:Expr}{ta tb tc:TE}{pos:Pos}
theorem QD{pins:List (Addr×Obj)}{σ:St}{H:Hp}{s:Shared}{Q:VK}{k k':Bool}(I:Inv X pins σ H s)(q:Q (.bl k) H)(e:k=k'):EP X pins σ Q (.bool k') s:=by
 subst e
 exact⟨.bl k,H,I,rfl,q⟩
theorem op_eq:OpR X (compareOp .Eq) rEq:=by
 intro pins s σ H x y v u Q I rx ry h
 obtain⟨hs,q⟩:=h
 cases x with
 |non =>
  cases rx
  cases y with
  |non=>cases ry;exact PySem.EqNone.eq_none_none (QD I q (by simp))
  |bl j=>cases ry;exact PySem.EqNone.eq_none_bool (QD I q (by simp))
  |int j=>obtain⟨t',rfl⟩:=ry;exact PySem.EqNone.eq_none_int (QD I q (by simp))
  |str j=>obtain⟨t',rfl⟩:=ry;exact PySem.EqNone.eq_none_str (QD I q (by simp))
  |_=>exact absurd (show false=true from hs) Ug
 |bl i =>
  cases rx
  cases y with
  |non=>cases ry;exact PySem.EqNone.eq_bool_none (QD I q (by simp))
  |bl j=>cases ry;exact eq_bool (QD I q Qf3)
  |str j=>obtain⟨t',rfl⟩:=ry;exact PySem.EqMixed.eq_bool_str (QD I q (by simp))
  |_=>exact absurd (show false=true from hs) Ug
 |int i =>
  obtain⟨t,rfl⟩:=rx
  cases y with
  |non=>cases ry;exact PySem.EqNone.eq_int_none (QD I q (by simp))
  |int j=>obtain⟨t',rfl⟩:=ry;exact eq_int (QD I q Qdp)
  |str j=>obtain⟨t',rfl⟩:=ry;exact PySem.EqMixed.eq_int_str (QD I q (by simp))
  |_=>exact absurd (show false=true from hs) Ug
 |str i =>
  obtain⟨t,rfl⟩:=rx
  cases y with
  |non=>cases ry;exact PySem.EqNone.eq_str_none (QD I q (by simp))
  |bl j=>cases ry;exact PySem.EqMixed.eq_str_bool (QD I q (by simp))
  |int j=>obtain⟨t',rfl⟩:=ry;exact PySem.EqMixed.eq_str_int (QD I q (by simp))
  |str j=>obtain⟨t',rfl⟩:=ry;exact eq_str (QD I q Qdq)
  |_=>exact absurd (show false=true from hs) Ug
 |byt i =>
  obtain⟨t,rfl⟩:=rx
  cases y with
  |byt j=>obtain⟨t',rfl⟩:=ry;exact eq_bytes (QD I q QhO)
  |_=>exact absurd (show false=true from hs) Ug
 |_=>cases y <;> exact absurd (show false=true from hs) Ug
theorem op_ne:OpR X (compareOp .NotEq) rNe:=by
 intro pins s σ H x y v u Q I rx ry h
 obtain⟨hs,q⟩:=h
 cases x with
 |non =>
  cases rx
  cases y with
  |non=>cases ry;exact PySem.EqNone.ne_none_none (QD I q (by simp))
  |bl j=>cases ry;exact PySem.EqNone.ne_none_bool (QD I q (by simp))
  |int j=>obtain⟨t',rfl⟩:=ry;exact PySem.EqNone.ne_none_int (QD I q (by simp))
  |str j=>obtain⟨t',rfl⟩:=ry;exact PySem.EqNone.ne_none_str (QD I q (by simp))
  |_=>exact absurd (show false=true from hs) Ug
 |bl i =>
  cases rx
  cases y with
  |non=>cases ry;exact PySem.EqNone.ne_bool_none (QD I q (by simp))
  |bl j=>cases ry;exact ne_bool (QD I q (Rz not Qf3))
  |str j=>obtain⟨t',rfl⟩:=ry;exact PySem.EqMixed.ne_bool_str (QD I q (by simp))
  |_=>exact absurd (show false=true from hs) Ug
 |int i =>
  obtain⟨t,rfl⟩:=rx
  cases y with
  |non=>cases ry;exact PySem.EqNone.ne_int_none (QD I q (by simp))
  |int j=>obtain⟨t',rfl⟩:=ry;exact ne_int (QD I q (Rz not Qdp))
  |str j=>obtain⟨t',rfl⟩:=ry;exact PySem.EqMixed.ne_int_str (QD I q (by simp))
  |_=>exact absurd (show false=true from hs) Ug
 |str i =>
  obtain⟨t,rfl⟩:=rx
  cases y with
  |non=>cases ry;exact PySem.EqNone.ne_str_none (QD I q (by simp))
  |bl j=>cases ry;exact PySem.EqMixed.ne_str_bool (QD I q (by simp))
  |int j=>obtain⟨t',rfl⟩:=ry;exact PySem.EqMixed.ne_str_int (QD I q (by simp))
  |str j=>obtain⟨t',rfl⟩:=ry;exact ne_str (QD I q (Rz not Qdq))
  |_=>exact absurd (show false=true from hs) Ug
 |byt i =>
  obtain⟨t,rfl⟩:=rx
  cases y with
  |byt j=>obtain⟨t',rfl⟩:=ry;exact ne_bytes (QD I q (Rz not QhO))
  |_=>exact absurd (show false=true from hs) Ug
 |_=>cases y <;> exact absurd (show false=true from hs) Ug
theorem Qli:OpR X (compareOp .Lt) (rI0 λi j=>.bl (decide (i<j))):=opB0 λ_ _ _ _ _ _ _ q=>lt_int q
theorem Qlj:OpR X (compareOp .LtE) (rI0 λi j=>.bl (decide (i<=j))):=opB0 λ_ _ _ _ _ _ _ q=>le_int q
theorem Qm0:OpR X (compareOp .Gt) (rI0 λi j=>.bl (decide (j<i))):=opB0 λ_ _ _ _ _ _ _ q=>gt_int q
theorem Qm1:OpR X (compareOp .GtE) (rI0 λi j=>.bl (decide (j<=i))):=opB0 λ_ _ _ _ _ _ _ q=>ge_int q
theorem QkF:OpR X (compareOp .Is) (λx y H Q=>y=.non/\Q (.bl (decide (x=.non))) H):=by
 intro pins s σ H x y v u Q I rx ry h
 obtain⟨rfl,q⟩:=h
 cases ry
 refine is_none_gen (QD I q ?_)
 cases x <;> first
  | (cases rx;rfl)
  | (obtain⟨t,rfl⟩:=rx;rfl)
theorem Qlk:OpR X (compareOp .IsNot) (λx y H Q=>y=.non/\Q (.bl (!decide (x=.non))) H):=by
 intro pins s σ H x y v u Q I rx ry h
 obtain⟨rfl,q⟩:=h
 cases ry
 refine isnot_none_gen (QD I q ?_)
 cases x <;> first
  | (cases rx;rfl)
  | (obtain⟨t,rfl⟩:=rx;rfl)
theorem OpR.or{f:Value->Value->Sem Value}{r r':R2}(h:OpR X f r)(h':OpR X f r'):OpR X f (λx y H Q=>r x y H Q\/r' x y H Q):=by
 intro pins s σ H x y v u Q I rx ry q
 rcases q with q|q
 ·exact h pins s σ H x y v u Q I rx ry q
 ·exact h' pins s σ H x y v u Q I rx ry q
theorem JD(b:Expr){op:CmpOp}(h:op≠.In:=by decide)(h2:op≠.NotIn:=by decide):behindInMarks op b=false:=by
 have e1:(op == CmpOp.In)=false:=by cases op <;> first|rfl|exact absurd rfl h
 have e2:(op == CmpOp.NotIn)=false:=by cases op <;> first|rfl|exact absurd rfl h2
 cases b <;> simp[behindInMarks,e1,e2]
theorem Qll{op:CmpOp}{r:R2}(ho:OpR X (compareOp op) r)(ha:PE X a ta)(hb:PE X b tb)(hm:behindInMarks op b=false):PE X (.Compare a [op] [b] pos) (tOp r ta tb):=by
 intro pins s σ H Q I h
 exact wpAny_Compare1 (binT ha hb I h λv u s2 x y H2 I2 rx ry q=>ho pins s2 σ H2 x y v u Q I2 rx ry q) hm
noncomputable def Qm2(t:TE):TT:=λσ H Q=>t σ H λx H'=>∃k,x=.bl k/\Q k H'
theorem Qlm{op:CmpOp}{r:R2}(ho:OpR X (compareOp op) r)(ha:PE X a ta)(hb:PE X b tb)(hm:behindInMarks op b=false):PT X (.Compare a [op] [b] pos) (Qm2 (tOp r ta tb)):=by
 intro pins s σ H Q I h
 refine wpAny_isTrue_Compare1 (thn (ha pins s σ H _ I h) λv s1 ⟨x,H1,I1,r1,q1⟩=>thn (hb pins s1 σ H1 _ I1 q1) λu s2 ⟨y,H2,I2,r2,q2⟩ =>
  thn (ho pins s2 σ H2 x y v u _ I2 r1 r2 q2) λc s3 ⟨z,H3,I3,r3,k,e,q3⟩=>?_) hm
 subst e
 cases r3
 exact Ti ⟨H3,I3,q3⟩
noncomputable def QhP(r r':R2)(ta tb tc:TE):TE:=λσ H Q=>ta σ H λx H1=>tb σ H1 λy H2=>r x y H2 λz H3=>∃k,z=.bl k /\
 (if k=true then tc σ H3 λw' H4=>r' y w' H4 Q else Q (.bl false) H3)
theorem QjA{op op':CmpOp}{r r':R2}(ho:OpR X (compareOp op) r)(ho':OpR X (compareOp op') r')(ha:PE X a ta)(hb:PE X b tb)(hc:PE X c tc)(hm:lastMarks [op,op'] [b,c]=false:=by with_unfolding_all rfl):PE X (.Compare a [op,op'] [b,c] pos) (QhP r r' ta tb tc):=by
 intro pins s σ H Q I h
 refine Compare_chain (thn (ha pins s σ H _ I h) λv s1 ⟨x,H1,I1,r1,q1⟩=>chain_link (thn (hb pins s1 σ H1 _ I1 q1) λu s2 ⟨y,H2,I2,r2,q2⟩ =>
  thn (ho pins s2 σ H2 x y v u _ I2 r1 r2 q2) λd s3 ⟨z,H3,I3,r3,k,e,q3⟩=>?_)) hm
 subst e
 cases r3
 refine Ti ?_
 cases k with
 |false=>exact ite_ff ⟨.bl false,H3,I3,rfl,q3⟩
 |true=>exact ite_tt (chain_last (thn (hc pins s3 σ H3 _ I3 q3) λw' s4 ⟨z',H4,I4,r4,q4⟩=>ho' pins s4 σ H4 y z' u w' Q I4 r2 r4 q4))
theorem QjB{op op':CmpOp}{r r':R2}(ho:OpR X (compareOp op) r)(ho':OpR X (compareOp op') r')(ha:PE X a ta)(hb:PE X b tb)(hc:PE X c tc)(hm:lastMarks [op,op'] [b,c]=false:=by with_unfolding_all rfl):PT X (.Compare a [op,op'] [b,c] pos) (Qm2 (QhP r r' ta tb tc)):=by
 intro pins s σ H Q I h
 refine isTrue_chain (thn (ha pins s σ H _ I h) λv s1 ⟨x,H1,I1,r1,q1⟩=>test_link (thn (hb pins s1 σ H1 _ I1 q1) λu s2 ⟨y,H2,I2,r2,q2⟩ =>
  thn (ho pins s2 σ H2 x y v u _ I2 r1 r2 q2) λd s3 ⟨z,H3,I3,r3,k,e,q3⟩=>?_)) hm
 subst e
 cases r3
 refine Ti ?_
 cases k with
 |false =>
  obtain⟨k',e',q'⟩:=q3
  cases e'
  exact ite_ff ⟨H3,I3,q'⟩
 |true =>
  refine ite_tt (test_last (thn (hc pins s3 σ H3 _ I3 q3) λw' s4 ⟨z',H4,I4,r4,q4⟩=>thn (ho' pins s4 σ H4 y z' u w' _ I4 r2 r4 q4) λd' s5 ⟨z2,H5,I5,r5,k2,e2,q5⟩=>?_))
  subst e2
  cases r5
  exact Ti ⟨H5,I5,q5⟩
theorem Qc7:(sizeLine:Nat)<2^63:=by rw[Wj];decide
theorem QjC{x:V}{us:List Value}(r:Vals [x] us):∃u,us=[u]/\RelV x u:=by
 cases r with
 |cons r1 r2=>cases r2;exact⟨_,rfl,r1⟩
theorem QoN{x y:V}{us:List Value}(r:Vals [x,y] us):∃u w',us=[u,w']/\RelV x u/\RelV y w':=by
 cases r with
 |cons r1 r2 =>
  cases r2 with
  |cons r3 r4=>cases r4;exact⟨_,_,rfl,r1,r3⟩
theorem QhQ(hc:X.calm=true):CallR X (.builtin "min") (λxs H Q=>∃i j,xs=[.int i,.int j]/\Q (.int (if j<i then j else i)) H):=by
 intro pins s σ H xs us Q I r h
 obtain⟨i,j,rfl,q⟩:=h
 obtain⟨u,w',rfl,⟨t,rfl⟩,⟨t',rfl⟩⟩:=QoN r
 refine min_two_ints (I.ok.hd hc) λh' tk k=>⟨_,H,I.kept k,?_,q⟩
 by_cases hj:j<i
 ·rw[Ud hj,Ud hj];exact⟨_,rfl⟩
 ·rw[Ue hj,Ue hj];exact⟨_,rfl⟩
end
end
section
structure ObjM(h:Heap)(x dx C:Addr)(mA:Str->Option Value):Prop where
 obj:h.get? x=some (instObj C dx)
 ns:h.Ns1 dx mA
 ne:dx≠x
theorem QhR{h:Heap}{dx:Addr}{mA:Str->Option Value}(n:h.Ns1 dx mA):∃od,h.get? dx=some od/\∀name,lookIn name od=some (mA name):=by
 obtain⟨o,es,ep,ho,hd,hk,_,hm⟩:=n
 refine⟨o,ho,λname=>?_⟩
 have e:=hm name
 unfold nsFind findBy at e
 rw[<-Array.find?_toList]at e
 unfold lookIn
 rw[hd]
 dsimp only
 split
 ·rename_i y q
  rw[q]at e
  exact Rz some e
 ·rename_i q
  rw[q]at e
  have a:es.toList.any (·.refKey)=false:=by
   rw[List.any_eq_false]
   intro y hy
   obtain⟨z,t,hkey⟩:=hk y (Td.mp hy)
   simp[DictEntry.refKey,hkey]
  have a':¬es.toList.any (·.refKey)=true:=by rw[a];exact Ug
  rw[Ue a']
  exact Rz some e
theorem ObjM.look{h:Heap}{x dx C:Addr}{mA:Str->Option Value}(I:ObjM h x dx C mA):∃od,PySem.W.InstAt h x (instObj C dx) C (some od)/\∀name,lookIn name od=some (mA name) :=
 let ⟨od,ho,hl⟩:=QhR I.ns
 ⟨od,⟨I.obj,rfl,rfl,ho⟩,hl⟩
section
variable{prog:Program}{w:World}{A:Around}{E:Value->Shared->Prop}{s:Shared}{K:Frag}{x dx C f:Addr}{mA:Str->Option Value}{name:Str}{v:Value}
theorem Qln{expr:Bool}{Q:Value->Shared->Prop}(X:K.In s.heap)(I:ObjM s.heap x dx C mA)(hg:plainGet K C name=true)(hh:hasDictIn K C=true)(ha:findIn K (.ref C) name=some none)(hv:mA name=some v)(hv':handedIn v=true)(h:Q v {s with toks:=s.toks+1}):
  wpAny (model prog w) A (getAttr (.ref x) name expr) Q E s:=by
 obtain⟨od,J,hl⟩:=I.look
 exact get_value X J (Wt hg).1 (findObj_own hh ha rfl (by rw[hl,hv])) hv' h
theorem QjD{pl:Sem Bool}{Q:Value×List Value->Shared->Prop}(X:K.In s.heap)(I:ObjM s.heap x dx C mA)(hg:plainGet K C name=true)(hf:findIn K (.ref C) name=some (some (.ref f)))(ht:isFn K (.ref f)=true)(hv:mA name=none)(h:Q (.ref f,[.ref x]) s):
  wpAny (model prog w) A (getMethod (.ref x) name pl) Q E s:=by
 obtain⟨od,J,hl⟩:=I.look
 exact method_fn X J (Wt hg).1 (Wt hg).2 hf (TQ.mp ht) (by show(lookIn name od).map (·.isSome)=some false;rw[hl,hv];rfl) h
theorem Qlo{ns:List Str}{Q:Unit->Shared->Prop}(X:K.In s.heap)(I:ObjM s.heap x dx C mA)(hs:findIn K (.ref C) "__setattr__" = some (some (.builtin "object.__setattr__")))(hp:plainOver K C=true)(ht:takerIn K C name=some none)(hh:hasDictIn K C=true)(hw:PySem.Within mA ns)(hsz:ns.length<=sizeLine)(h:∀h',ObjM h' x dx C (λy=>if y=name then some v else mA y)->Heap.SameBut dx s.heap h'->Q () {s with heap:=h',toks:=s.toks+2}):
  wpAny (model prog w) A (setAttr (.ref x) name v) Q E s:=by
 obtain⟨od,J,hl⟩:=I.look
 refine set_plain X J hs (osa_open (s:={s with toks:=s.toks+1}) (r:=none) X J hp ht λb=>?_)
 obtain⟨cd,hc,hd'⟩:=any_some hh
 have hx:s.heap.get? x=some ⟨.ref C,some dx,.plain,#[]⟩:=I.obj
 refine Ua (Uh (Ua (Ua (wpAny_loadPart hx (Ua (Looks.here (s:={s with toks:=s.toks+1}) (looks_clsIn X hc) ?_))))))
 rw[hd']
 refine Uh (a:=some dx) (Ua (Uh (Ua ?_)))
 refine wpAny_nsSet1 (s:={s with toks:=s.toks+1}) I.ns λh' hn2 hs2=>?_
 obtain⟨oD,esD,epD,hoD,hdD,hcD⟩:=hn2.count (PySem.Within.cons name v hw)
 refine Ua (wpAny_lookBehind hoD (by rw[hdD];exact pastItsLine_dict (Ut hcD (by rw[US];omega))) ?_)
 exact Uh (h _ ⟨(hs2.2 _ (Ne.symm I.ne)).trans I.obj,hn2,I.ne⟩ hs2)
theorem QjE{R:Result->Shared->Prop}{vs:List Value}{kw:List (Str×Value)}(X:K.In s.heap)(hm:makesIn K C=true)(hi:findIn K (.ref C) "__init__" = some (some (.ref f)))(hf:typeIn K (.ref f)=some (.type "function"))(h:codeAny (model prog w) (A.under (.builtin "type.__call__" ⟨.ref C::vs,kw⟩)) (.call (.ref f) ⟨.ref (s.heap.objs.size+1)::vs,kw⟩) (InitBack (s.heap.objs.size+1) R)
   {s with heap:=(s.heap.push emptyDict).push (instObj C s.heap.objs.size)}):
  codeAny (model prog w) A (.call (.ref C) ⟨vs,kw⟩) R s:=by
 obtain⟨hh,g,d,t,os⟩:=s
 exact make_core (makes_of X hm) (looks_findIn X hi) (λself=>bind_fn X self hf) (.inl rfl) h
end
noncomputable def putF(f:Str)(v:V):List (Str×V)->List (Str×V)
 |[]=>[(f,v)]
 | (g,x)::r=>if g=f then (g,v)::r else (g,x)::putF f v r
theorem Qb6(f g:Str)(v:V):∀fs:List (Str×V),(putF f v fs).lookup g=if g=f then some v else fs.lookup g
 |[]=>by
  show List.lookup g [(f,v)]=_
  by_cases h:g=f
  ·have hb:(g == f)=true:=TQ.mpr h
   simp only[List.lookup,hb,Ud h]
  ·have hb:(g == f)=false:=Ts.mpr h
   simp only[List.lookup,hb,Ue h]
 | (k,x)::r=>by
  have ih:=Qb6 f g v r
  rw[show putF f v ((k,x)::r)=(if k=f then (k,v)::r else (k,x)::putF f v r) from rfl]
  by_cases hk:k=f
  ·rw[Ud hk]
   by_cases h:g=k
   ·have hb:(g == k)=true:=TQ.mpr h
    simp only[List.lookup,hb,Ud (h.trans hk)]
   ·have hb:(g == k)=false:=Ts.mpr h
    simp only[List.lookup,hb,Ue (λe:g=f=>h (e.trans hk.symm))]
  ·rw[Ue hk]
   by_cases h:g=k
   ·have hb:(g == k)=true:=TQ.mpr h
    simp only[List.lookup,hb,Ue (λe:g=f=>hk (h.symm.trans e))]
   ·have hb:(g == k)=false:=Ts.mpr h
    simp only[List.lookup,hb]
    exact ih
theorem Qb7(f:Str)(v:V):∀fs:List (Str×V),f∈(putF f v fs).map (·.1)/\∀g,g∈fs.map (·.1)->g∈(putF f v fs).map (·.1)
 |[]=>⟨by simp[putF],λg h=>by simp at h⟩
 | (k,x)::r=>by
  obtain⟨i1,i2⟩:=Qb7 f v r
  rw[show putF f v ((k,x)::r)=(if k=f then (k,v)::r else (k,x)::putF f v r) from rfl]
  by_cases hk:k=f
  ·rw[Ud hk]
   subst hk
   exact⟨by simp,λg h=>by simpa using h⟩
  ·rw[Ue hk]
   refine⟨?_,λg h=>?_⟩
   ·rw[UI]
    exact Uv _ i1
   ·rw[UI]at h ⊢
    rcases UE.mp h with e|e
    ·exact UE.mpr (.inl e)
    ·exact Uv _ (i2 g e)
theorem Qb8(f:Str)(v:V):∀fs:List (Str×V),(putF f v fs).length<=fs.length+1
 |[]=>by simp[putF]
 | (k,x)::r=>by
  have ih:=Qb8 f v r
  rw[show putF f v ((k,x)::r)=(if k=f then (k,v)::r else (k,x)::putF f v r) from rfl]
  by_cases hk:k=f
  ·rw[Ud hk,US,US];omega
  ·rw[Ue hk,US,US];omega
theorem RelO.some_of{v:V}{o:Option Value}(r:RelO (some v) o):∃u,o=some u/\RelV v u:=by
 cases o with
 |none=>exact(show False from r).elim
 |some u=>exact⟨u,rfl,r⟩
theorem RelO.none_of{o:Option Value}(r:RelO none o):o=none:=by
 cases o with
 |none=>rfl
 |some u=>exact(show False from r).elim
theorem QhS{v:V}{u:Value}(r:RelV v u):handedIn u=true:=by
 cases v with
 |non=>cases (show u=Value.none from r);rfl
 |bl b=>cases (show u=Value.bool b from r);rfl
 |int i=>obtain⟨t,e⟩:=(show ∃t,u=Value.int i t from r);cases e;rfl
 |str x=>obtain⟨t,e⟩:=(show ∃t,u=Value.str x t from r);cases e;rfl
 |byt b=>obtain⟨t,e⟩:=(show ∃t,u=Value.bytes b t from r);cases e;rfl
 |flt b=>obtain⟨t,e⟩:=(show ∃t,u=Value.float b t from r);cases e;rfl
 |ref a=>cases (show u=Value.ref a from r);rfl
 |ty n=>cases (show u=Value.type n from r);rfl
section
variable{P:Program}{w:World}{H H':Hp}{h h':Heap}{a C dx:Addr}{fs fs':List (Str×V)}
theorem Qdr(hok:HOk P w H h)(e:H a=some (.ins C dx fs)):∃mA,ObjM h a dx C mA/\(∀f,RelO (fs.lookup f) (mA f))/\PySem.Within mA (fs.map (·.1))/\fs.length<=1000/\H dx=some (.own a):=by
 obtain⟨d,z,ne,ob,mA,n,r,q⟩:=(show ObjOk P w H h a (.ins C dx fs) from hok a _ e)
 exact⟨mA,⟨ob,n,ne⟩,r,q,z,d⟩
end
structure Cls(K:Frag)(C:Addr):Prop where
 pg:plainGet K C Str.empty=true
 hd:hasDictIn K C=true
 po:plainOver K C=true
 sa:findIn K (.ref C) "__setattr__" = some (some (.builtin "object.__setattr__"))
theorem Cls.get{K:Frag}{C:Addr}(c:Cls K C)(f:Str):plainGet K C f=true:=c.pg
def NoAttr(K:Frag)(C:Addr)(f:Str):Prop:=findIn K (.ref C) f=some none
theorem NoAttr.taker{K:Frag}{C:Addr}{f:Str}(n:NoAttr K C f):takerIn K C f=some none:=by
 unfold takerIn
 rw[show findIn K (.ref C) f=some none from n]
 rfl
structure Meth(K:Frag)(C:Addr)(m:Str)(f:Addr):Prop where
 at_:findIn K (.ref C) m=some (some (.ref f))
 fn:isFn K (.ref f)=true
 kp:keepIn K (.ref f)=true
section
variable{X:Cx}{pins:List (Addr×Obj)}{σ:St}{H:Hp}{s:Shared}{a C dx:Addr}{fs:List (Str×V)}{f:Str}{v:V}{A:Around}{E:Value->Shared->Prop}
theorem QgY{b:Bool}{Q:Value->Shared->Prop}(I:Inv X pins σ H s)(e:H a=some (.ins C dx fs))(c:Cls X.K C)(n:NoAttr X.K C f)(l:fs.lookup f=some v)(h:∀u s',Inv X pins σ H s'->RelV v u->Q u s'):wpAny (model X.prog X.w) A (getAttr (.ref a) f b) Q E s:=by
 obtain⟨mA,O,r,_,_,_⟩:=Qdr I.hok e
 obtain⟨u,hu,ru⟩:=RelO.some_of (v:=v) (o:=mA f) (by rw[<-l];exact r f)
 exact Qln I.kIn O (c.get f) c.hd n hu (QhS ru) (h u _ (I.tok _) ru)
theorem Qc8{m:Str}{g:Addr}{pl:Sem Bool}{Q:Value×List Value->Shared->Prop}(I:Inv X pins σ H s)(e:H a=some (.ins C dx fs))(c:Cls X.K C)(k:Meth X.K C m g)(l:fs.lookup m=none)(h:Q (.ref g,[.ref a]) s):wpAny (model X.prog X.w) A (getMethod (.ref a) m pl) Q E s:=by
 obtain⟨mA,O,r,_,_,_⟩:=Qdr I.hok e
 have hn:mA m=none:=RelO.none_of (by rw[<-l];exact r m)
 exact QjD I.kIn O (c.get m) k.at_ k.fn hn h
theorem QgZ{y:V}{u:Value}{Q:Unit->Shared->Prop}(I:Inv X pins σ H s)(e:H a=some (.ins C dx fs))(c:Cls X.K C)(n:NoAttr X.K C f)(hl:fs.length<1000)(ry:RelV y u)(h:∀s',Inv X pins σ (upd H a (.ins C dx (putF f y fs))) s'->Q () s'):wpAny (model X.prog X.w) A (setAttr (.ref a) f u) Q E s:=by
 obtain⟨mA,O,r,wi,_,ho⟩:=Qdr I.hok e
 have hz:(fs.map (·.1)).length<=sizeLine:=by rw[Ur,Wj];omega
 refine Qlo I.kIn O c.sa c.po n.taker c.hd wi hz λh' O' sb=>h _ ?_
 have hd:∃o,h'.get? dx=some o:=let ⟨o,_,_,e',_⟩:=O'.ns;⟨o,e'⟩
 refine I.write (x:=a) (e:=dx) (by rw[e];exact True.intro) (.inr ho) (λb q hb z=>(sb.2 b hb).trans z) hd ?_
 refine⟨by rw[Qp O.ne];exact ho,?_,O.ne,O'.obj,_,O'.ns,λg=>?_,λg hg=>?_⟩
 ·have:=Qb8 f y fs;omega
 ·show RelO ((putF f y fs).lookup g) (if g=f then some u else mA g)
  rw[Qb6]
  by_cases q:g=f
  ·rw[Ud q,Ud q];exact ry
  ·rw[Ue q,Ue q];exact r g
 ·by_cases q:g=f
  ·rw[q];exact(Qb7 f y fs).1
  ·refine(Qb7 f y fs).2 g (wi g λz=>hg ?_)
   show(if g=f then some u else mA g)=none
   rw[Ue q];exact z
theorem Inv.made(I:Inv X pins σ H s):Inv X pins σ (upd (upd H s.heap.objs.size (.own (s.heap.objs.size+1))) (s.heap.objs.size+1) (.ins C s.heap.objs.size []))
  {s with heap:=(s.heap.push emptyDict).push (instObj C s.heap.objs.size)}:=by
 have e1:(s.heap.push emptyDict).get? s.heap.objs.size=some emptyDict:=Up s.heap rfl
 have e2:((s.heap.push emptyDict).push (instObj C s.heap.objs.size)).get? (s.heap.objs.size+1)=some (instObj C s.heap.objs.size):=by
  have:=Up (s.heap.push emptyDict) (o:=instObj C s.heap.objs.size) rfl
  rwa[Tv]at this
 have e3:(s.heap.push emptyDict).Ns s.heap.objs.size (λ_=>none):=⟨emptyDict,#[],_,e1,rfl,(λe he=>absurd he (by simp)),λ_=>rfl⟩
 have I1:=I.laid (a:=s.heap.objs.size) (o:=.own (s.heap.objs.size+1)) (h':=s.heap.push emptyDict) (t':=s.toks) (λb u q=>Ub _ q) (Uc _) ⟨_,e1⟩
 refine I1.laid (a:=s.heap.objs.size+1) (o:=.ins C s.heap.objs.size []) (t':=s.toks) (λb u q=>Ub _ q) (RX (Tv _ _)) ?_
 have ne:s.heap.objs.size≠s.heap.objs.size+1:=UD (TC _)
 refine⟨by rw[Qp ne,Ql],Tc _,ne,e2,λ_=>none,(Heap.Ns1.of_empty e3).at λo q=>Ub _ q,λ_=>True.intro,λy hy=>absurd rfl hy⟩
theorem Qlp{prog:Program}{w:World}{env:Env}{e:Expr}{f:Str}{pos:Pos}{s:Shared}{Q:Value->Shared->Prop}(hb:attributeBase e f env (eval e env)=eval e env)(h:wpAny (model prog w) A (eval e env) (λo s₁=>wpAny (model prog w) A (getAttr o f true) Q E s₁) E s):wpAny (model prog w) A (eval (.Attribute e f pos) env) Q E s :=
 Attribute_any_ h (by rw[arm_eval_Attribute,hb])
end
noncomputable def tFld(K:Frag)(ta:TE)(f:Str):TE:=λσ H Q=>ta σ H λx H1=>∃a C dx fs v,x=.ref a/\H1 a=some (.ins C dx fs)/\Cls K C/\NoAttr K C f/\fs.lookup f=some v/\Q v H1
noncomputable def sFld(K:Frag)(ta tv:TE)(f:Str):TS:=λD σ H=>tv σ H λy H1=>ta σ H1 λx H2=>∃a C dx fs,x=.ref a/\H2 a=some (.ins C dx fs)/\Cls K C/\NoAttr K C f/\fs.length<1000 /\
 D.nx σ (upd H2 a (.ins C dx (putF f y fs)))
section
variable{X:Cx}{o e value:Expr}{f:Str}{pos pos' tpos:Pos}{ta tv:TE}
theorem Qm3(he:PE X e ta)(hb:attributeBase e f X.env (eval e X.env)=eval e X.env):PE X (.Attribute e f pos) (tFld X.K ta f):=by
 intro pins s σ H Q I h
 refine Qlp hb (thn (he pins s σ H _ I h) λu s1 ⟨x,H1,I1,rx,a,C,dx,fs,v,ex,ea,c,n,l,q⟩=>?_)
 subst ex
 obtain rfl:u=Value.ref a:=rx
 exact QgY I1 ea c n l λu' s2 I2 ru=>⟨v,H1,I2,ru,q⟩
theorem Qm4(ha:PE X o ta)(hv:PE X value tv)(hs:swapsWith value (some (.Attribute o f pos')) pos.line X.env=pure false):PS X (.Assign [.Attribute o f pos'] value pos) (sFld X.K ta tv f):=by
 intro pins s σ H D I h
 refine plainObj_wpAny_Assign_Attribute (thn (hv pins s σ H _ I h) λu s1 ⟨y,H1,I1,ry,q⟩=>thn (ha pins s1 σ H1 _ I1 q) λov s2 ⟨x,H2,I2,rx,a,C,dx,fs,ex,ea,c,n,l,q2⟩=>?_) hs
 subst ex
 obtain rfl:ov=Value.ref a:=rx
 exact QgZ I2 ea c n l ry λs3 I3=>⟨σ,_,I3,q2⟩
end
section
variable{X:Cx}{pins:List (Addr×Obj)}{σ:St}{H:Hp}{s:Shared}{A:Around}{E:Value->Shared->Prop}{Q:Value->Shared->Prop}{c:Value}{b:Bool}
inductive TyOf(K:Frag)(H:Hp):V->Value->Prop where
 |non:TyOf K H .non (.type "NoneType")
 |bl (x:Bool):TyOf K H (.bl x) (.type "bool")
 |int (i:Int):TyOf K H (.int i) (.type "int")
 |str (x:Str):TyOf K H (.str x) (.type "str")
 |flt (x:UInt64):TyOf K H (.flt x) (.type "float")
 |lst {a:Addr} {xs:List V} (e:H a=some (.lst xs)):TyOf K H (.ref a) (.type "list")
 |frz {a:Addr} {o:Obj} {xs:List V} (e:H a=some (.frz o (.lst xs))):TyOf K H (.ref a) (.type "list")
 |tup {a:Addr} {xs:List V} (e:H a=some (.tup xs)):TyOf K H (.ref a) (.type "tuple")
 |dK {a:Addr} {kvs:List (Key×V)} (e:H a=some (.dK kvs)):TyOf K H (.ref a) (.type "dict")
 |dT {a:Addr} {kvs:List (List Key×V)} (e:H a=some (.dT kvs)):TyOf K H (.ref a) (.type "dict")
 |ins {a C dx:Addr} {fs:List (Str×V)} (e:H a=some (.ins C dx fs)) (cl:Cls K C) (ha:findIn K (.ref C) "__class__" = some (some (.builtin "object.__class__")))
   (hn:specialIn K (.builtin "object.__class__") "__get__" = some (some (.builtin "getset_descriptor.__get__"))) (htk:takesIn K (.builtin "object.__class__")=some true)
   (hm:mroIn K C (.type "object")=some true):TyOf K H (.ref a) (.ref C)
theorem Jb{x:V}{u t:Value}(I:Inv X pins σ H s)(rx:RelV x u)(ty:TyOf X.K H x t)(e:kitOne X.K t c=some b)(h:∀tk,Q (.bool b) {s with toks:=tk}):
  wpAny (model X.prog X.w) A (call (.builtin "isinstance") [u,c]) Q E s:=by
 cases ty with
 |non=>cases (show u=Value.none from rx);exact U2 kitx_none I.kIn True.intro e (λz=>nomatch z) h
 |bl y=>cases (show u=Value.bool y from rx);exact U2 kitx_bool I.kIn True.intro e (λz=>nomatch z) h
 |int i=>obtain⟨t,q⟩:=(show ∃t,u=Value.int i t from rx);cases q;exact U2 kitx_int I.kIn True.intro e (λz=>nomatch z) h
 |str y=>obtain⟨t,q⟩:=(show ∃t,u=Value.str y t from rx);cases q;exact U2 kitx_str I.kIn True.intro e (λz=>nomatch z) h
 |flt y=>obtain⟨t,q⟩:=(show ∃t,u=Value.float y t from rx);cases q;exact U2 kitx_float I.kIn True.intro e (λz=>nomatch z) h
 |@lst a xs ea =>
  cases (show u=Value.ref a from rx)
  obtain⟨_,_,n,_,h1⟩:=(show ObjOk X.prog X.w H s.heap a (.lst xs) from I.hok a _ ea)
  exact U2 Ro I.kIn ⟨_,h1,rfl⟩ e (λz=>nomatch z) h
 |@frz a ob xs ea =>
  cases (show u=Value.ref a from rx)
  obtain⟨_,_,_,n,_,h1⟩:=(show ObjOk X.prog X.w H s.heap a (.frz ob (.lst xs)) from I.hok a _ ea)
  exact U2 Ro I.kIn ⟨_,h1,rfl⟩ e (λz=>nomatch z) h
 |@tup a xs ea =>
  cases (show u=Value.ref a from rx)
  obtain⟨_,_,_,p⟩:=(show ObjOk X.prog X.w H s.heap a (.tup xs) from I.hok a _ ea)
  obtain⟨o,h1,h2,_⟩:=p
  exact U2 WE I.kIn ⟨o,h1,h2⟩ e (λz=>nomatch z) h
 |@dK a kvs ea =>
  cases (show u=Value.ref a from rx)
  obtain⟨_,_,vs,_,p⟩:=(show ObjOk X.prog X.w H s.heap a (.dK kvs) from I.hok a _ ea)
  obtain⟨o,es,ep,h1,h2,_⟩:=p
  exact U2 WS I.kIn ⟨o,h1,h2.1⟩ e (λz=>nomatch z) h
 |@dT a kvs ea =>
  cases (show u=Value.ref a from rx)
  obtain⟨_,_,xs,_,o,es,ep,h1,h2,_⟩:=(show ObjOk X.prog X.w H s.heap a (.dT kvs) from I.hok a _ ea)
  exact U2 WS I.kIn ⟨o,h1,h2.1⟩ e (λz=>nomatch z) h
 |@ins a C dx fs ea cl ha hn htk hm =>
  cases (show u=Value.ref a from rx)
  obtain⟨mA,O,_⟩:=Qdr I.hok ea
  obtain⟨od,J,_⟩:=O.look
  exact U2 (kitx_own (cl.get _) cl.hd ha hn htk hm) I.kIn J e (λz=>nomatch z) h
end
end
section
structure Room(k:Nat)(A:Around):Prop where
 hd:A.handled=none
 dp:A.depth+3*k+5<recursionLimit
 un:A.units+16*k+200<cLine
theorem Room.mono{j k:Nat}{A:Around}(r:Room k A)(h:j<=k):Room j A:=⟨r.hd,by have:=r.dp;omega,by have:=r.un;omega⟩
theorem Room.deeper{k:Nat}{A:Around}(r:Room (k+1) A)(env:Env):Room k (A.deeper env) :=
 ⟨r.hd,by have:=r.dp;show A.depth+1+3*k+5<_;omega,by have:=r.un;show A.units+3+16*k+200<_;omega⟩
theorem Room.in1{k:Nat}{A:Around}(r:Room (k+1) A):Room k A.in1 :=
 ⟨r.hd,by have:=r.dp;show A.depth+3*k+5<_;omega,by have:=r.un;show A.units+1+16*k+200<_;omega⟩
theorem Qg0{A:Around}{C:Addr}{us:List Value}{kw:List (Str×Value)}:(A.under (.builtin "type.__call__" ⟨.ref C::us,kw⟩)).depth=A.depth+1:=by
 first|rfl|simp[Around.under,Code.weight,Code.isCreation,Code.isGuard,Code.isCaller,Code.frames,Code.isFrame,guardIds]
theorem Qg1{A:Around}{C:Addr}{us:List Value}{kw:List (Str×Value)}:(A.under (.builtin "type.__call__" ⟨.ref C::us,kw⟩)).units=A.units+1:=by
 first|rfl|simp[Around.under,Code.cUnits,Code.frames,Code.isFrame]
theorem Room.make{k:Nat}{A:Around}(r:Room (k+1) A)(C:Addr)(us:List Value)(kw:List (Str×Value)):Room k (A.under (.builtin "type.__call__" ⟨.ref C::us,kw⟩)) :=
 ⟨r.hd,by have:=r.dp;rw[Qg0];omega,by have:=r.un;rw[Qg1];omega⟩
theorem Room.depth{k:Nat}{A:Around}(r:Room k A):A.depth<recursionLimit:=by have:=r.dp;omega
theorem Room.units{k:Nat}{A:Around}(r:Room k A):A.units+64<cLine:=by have:=r.un;omega
noncomputable def tNil:TA:=λ_ H Q=>Q [] H
noncomputable def QoO(ta:TE)(tr:TA):TA:=λσ H Q=>ta σ H λx H1=>tr σ H1 λxs H2=>Q (x::xs) H2
section
variable{X:Cx}{e:Expr}{es:List Expr}{te:TE}{t:TA}{pos:Pos}
theorem Qf4:PA X [] tNil:=λ_ _ _ _ H Q I h=>WT ⟨[],H,I,.nil,h⟩
theorem Qas(ha:PE X e te)(hr:PA X es t)(hs:starEach (e::es) X.env=(false,eval e X.env)::starEach es X.env:=by rfl):PA X (e::es) (QoO te t):=by
 intro pos pins s σ H Q I h
 rw[hs]
 show wpAny _ _ (spliced ((false,eval e X.env)::backTo pos (starEach es X.env))) _ _ s
 refine WF (thn (ha pins s σ H _ I h) λu s1 ⟨x,H1,I1,r1,q1⟩=>?_)
 exact thn (hr pos pins s1 σ H1 _ I1 q1) λus s2 ⟨xs,H2,I2,r2,q2⟩=>⟨x::xs,H2,I2,.cons r1 r2,q2⟩
noncomputable def tTup(t:TA):TE:=λσ H Q=>t σ H λxs H1=>xs.length<=sizeLine/\∀p,H1 p=none->Q (.ref p) (upd H1 p (.tup xs))
noncomputable def tLst(t:TA):TE:=λσ H Q=>t σ H λxs H1=>xs.length<=sizeLine/\∀p,H1 p=none->Q (.ref p) (upd H1 p (.lst xs))
theorem QkG{x1}(h:PA X es t):PE X (.Tuple es x1 pos) (tTup t):=by
 intro pins s σ H Q I hq
 refine wpAny_Tuple_spliced (thn (h pos pins s σ H _ I hq) λus s1 ⟨xs,H1,I1,r,z,q⟩=>⟨by rw[<-r.length];exact z,?_⟩)
 have hf:H1 s1.heap.objs.size=none:=I1.hok.fresh (Uc _)
 refine⟨.ref s1.heap.objs.size,upd H1 s1.heap.objs.size (.tup xs),I1.laid (t':=s1.toks) (λb u e=>Ub _ e) (Uc _) ?_,rfl,q _ hf⟩
 exact⟨z,us,r,⟨_,Up _ rfl,rfl,_,rfl⟩⟩
theorem Qm5(h:PA X es t):PE X (.List es pos) (tLst t):=by
 intro pins s σ H Q I hq
 refine wpAny_List_spliced (thn (h pos pins s σ H _ I hq) λus s1 ⟨xs,H1,I1,r,z,q⟩=>⟨by rw[<-r.length];exact z,?_⟩)
 have hf:H1 s1.heap.objs.size=none:=I1.hok.fresh (Uc _)
 refine⟨.ref s1.heap.objs.size,upd H1 s1.heap.objs.size (.lst xs),I1.laid (t':=s1.toks) (λb u e=>Ub _ e) (Uc _) ?_,rfl,q _ hf⟩
 exact⟨z,us,0,r,Up _ rfl⟩
end
noncomputable abbrev Sp:=List V->Hp->VK->XK->Prop
noncomputable abbrev CXT:=List Env->Hp->Shared->XK->Value->Shared->Prop
structure Env0(P:Program)(w:World)(K:Frag)(mg:Str->Option Value)(base:Heap)(A:Around)(outer:List Env)(s:Shared)(H:Hp):Prop where
 frames:A.frames=some outer
 mod:Mod K mg base
 bs:∀b o,base.get? b=some o->s.heap.get? b=some o/\H b=none
 bsz:base.objs.size<=s.heap.objs.size
 funs:s.heap.FunFrames base outer
 frf:∀b∈frs outer,H b=none
 hok:HOk P w H s.heap
 bare:AllBare s.gens
noncomputable def CE(outer:List Env)(P:Program)(w:World)(H:Hp)(s:Shared)(Q:VK)(u:Value)(s':Shared):Prop :=
 ∃v H',s'.os=s.os/\AllBare s'.gens/\Un (frs outer) [] H H' s.heap s'.heap/\HOk P w H' s'.heap/\RelV v u/\Q v H'
noncomputable def CR(CX:CXT)(outer:List Env)(P:Program)(w:World)(H:Hp)(s:Shared)(Q:VK)(E:XK)(r:Result)(s':Shared):Prop :=
 match r with
 |.ok (.ret u)=>CE outer P w H s Q u s'
 |.ok _=>False
 |.error e=>CX outer H s E e s'
structure FnOk(P:Program)(w:World)(K:Frag)(mg:Str->Option Value)(base:Heap)(CX:CXT)(k:Nat)(f:Addr)(fd:FuncData)(ps:List Str)(sp:Sp):Prop where
 len:∀vs H Q E,sp vs H Q E->vs.length=ps.length
 run:∀(A:Around)(outer:List Env)(s:Shared)(H:Hp)(args:Args)(us:List Value)(vs:List V)(Q:VK)(E:XK),Room k A->Env0 P w K mg base A outer s H->BindsTo s fd args (ps.zip us)->Vals vs us->sp vs H Q E ->
  codeAny (model P w) A (.call (.ref f) args) (CR CX outer P w H s Q E) s
theorem FnOk.mono{P:Program}{w:World}{K:Frag}{mg:Str->Option Value}{base:Heap}{CX:CXT}{j k:Nat}{f:Addr}{fd:FuncData}{ps:List Str}{sp:Sp}(F:FnOk P w K mg base CX j f fd ps sp)(h:j<=k):
  FnOk P w K mg base CX k f fd ps sp:=⟨F.len,λA outer s H args us vs Q E hr=>F.run A outer s H args us vs Q E (hr.mono h)⟩
theorem FnOk.imp{P:Program}{w:World}{K:Frag}{mg:Str->Option Value}{base:Heap}{CX:CXT}{k:Nat}{f:Addr}{fd:FuncData}{ps:List Str}{sp sp':Sp}(F:FnOk P w K mg base CX k f fd ps sp)(h:∀vs H Q E,sp' vs H Q E->sp vs H Q E):FnOk P w K mg base CX k f fd ps sp' :=
 ⟨λvs H Q E q=>F.len vs H Q E (h _ _ _ _ q),λA outer s H args us vs Q E hr he hb hv hs=>F.run A outer s H args us vs Q E hr he hb hv (h _ _ _ _ hs)⟩
theorem Env0.make{P:Program}{w:World}{K:Frag}{mg:Str->Option Value}{base:Heap}{A:Around}{outer:List Env}{s:Shared}{H:Hp}(e:Env0 P w K mg base A outer s H)(C:Addr)(us:List Value)(kw:List (Str×Value)):
  Env0 P w K mg base (A.under (.builtin "type.__call__" ⟨.ref C::us,kw⟩)) outer s H:=⟨by first|exact e.frames|(simpa[Around.under,Code.envs,Code.isFrame,pushEnvs]using e.frames),e.mod,e.bs,e.bsz,e.funs,e.frf,e.hok,e.bare⟩
theorem Env0.in1{P:Program}{w:World}{K:Frag}{mg:Str->Option Value}{base:Heap}{A:Around}{outer:List Env}{s:Shared}{H:Hp}(e:Env0 P w K mg base A outer s H):
  Env0 P w K mg base A.in1 outer s H:=⟨e.frames,e.mod,e.bs,e.bsz,e.funs,e.frf,e.hok,e.bare⟩
section
variable{X:Cx}{pins:List (Addr×Obj)}{σ:St}{H:Hp}{s s':Shared}
theorem Inv.env0(I:Inv X pins σ H s):Env0 X.prog X.w X.K X.mg X.base X.A X.stack s H :=
 ⟨I.ok.frames,I.ok.mod,I.bs,Ut I.ok.bsz I.sz,I.stack,I.stkFree,I.hok,I.bare⟩
theorem Inv.after{Q:VK}{u:Value}(I:Inv X pins σ H s)(h:CE X.stack X.prog X.w H s Q u s'):EP X pins σ Q u s':=by
 obtain⟨v,H',os,bare,un,hok,r,q⟩:=h
 obtain⟨hh,g,d,t,os'⟩:=s'
 obtain rfl:os'=s.os:=os
 exact⟨v,H',I.call (h':=hh) (g':=g) (d':=d) (t':=t) (ch:=[]) un hok bare (λb z=>absurd z (by simp)),r,q⟩
end
noncomputable def Binds(K:Frag)(fd:FuncData)(ps:List Str)(ds:List Value):Prop :=
 ∀(s:Shared)(us:List Value),K.In s.heap->(us++ds).length=ps.length->BindsTo s fd ⟨us,[]⟩ (ps.zip (us++ds))
theorem Binds.all{K:Frag}{fd:FuncData}{ps:List Str}(h:∀us:List Value,us.length=ps.length->bindArgs fd ⟨us,[]⟩=pure (ps.zip us)):Binds K fd ps []:=λs us _ hl=>by
 rw[UM]at hl ⊢
 exact .of_eq (h us hl)
section
variable{X:Cx}{CX:CXT}{k:Nat}{f C:Addr}{fd:FuncData}{ps:List Str}{sp:Sp}{dvs:List V}{ds:List Value}{E:XK}{x m:Str}{p pos apos:Pos}{e o:Expr}{es:List Expr}{ta:TE}{t:TA}
structure Mk(K:Frag)(C f:Addr):Prop where
 makes:makesIn K C=true
 init:findIn K (.ref C) "__init__" = some (some (.ref f))
 fn:isFn K (.ref f)=true
 kp:keepIn K (.ref C)=true
end
section
variable{X:Cx}{CX:CXT}{k:Nat}{f C:Addr}{fd:FuncData}{ps ks:List Str}{sp:Sp}{E:XK}{x m:Str}{p pos apos kpos:Pos}{e o:Expr}{es:List Expr}{kws:List Keyword}{te ta:TE}{t tk:TA}{nm:Option Str}
variable{g:List Value->List Value->List Value}{gV:List V->List V->List V}
end
structure FnScope(N P:List Str)(sc:Scope):Prop where
 kind:sc.kind=.function
 co:sc.isCoroutine=false
 gen:sc.isGenerator=false
 nd:N.Nodup
 pre:N.take P.length=P
 par:∀x∈P,sc.names.lookup x=some .local\/sc.names.lookup x=some .cell
 nofree:∀y∈sc.names,y.2≠.free
theorem Qen{kindOf:Str->Option NameKind}{x:Str}:∀{binds:List (Str×Value)}{m:Str->Option Value},(∀v,(x,v)∉binds)->bindL kindOf binds m x=m x
 |[],_,_=>rfl
 | (n,v)::r,m,h=>by
  unfold bindL
  rw[Qen λw hw=>h w (Uv _ hw)]
  split
  ·have:x≠n:=by rintro rfl;exact h v Uu
   simp[this]
  ·rfl
theorem Qeo{kindOf:Str->Option NameKind}{x:Str}:∀{binds:List (Str×Value)}{m:Str->Option Value},(∀v,(x,v)∉binds)->bindC kindOf binds m x=m x
 |[],_,_=>rfl
 | (n,v)::r,m,h=>by
  unfold bindC
  rw[Qeo λw hw=>h w (Uv _ hw)]
  split
  ·rfl
  ·have:x≠n:=by rintro rfl;exact h v Uu
   simp[this]
theorem Qep{kindOf:Str->Option NameKind}{x:Str}{v:Value}:∀{P:List Str}{vs:List Value}{i:Nat}{m:Str->Option Value},P.Nodup->P[i]?=some x->vs[i]?=some v->kindOf x=some .local ->
  bindL kindOf (P.zip vs) m x=some v
 |[],_,_,_,_,h,_,_=>by simp at h
 |_::_,[],_,_,_,_,h,_=>by simp at h
 |p::P,w::vs,0,m,nd,h1,h2,hk=>by
  simp at h1 h2;subst h1;subst h2
  show bindL kindOf ((p,w)::P.zip vs) m p=_
  unfold bindL
  rw[Qen λv hv=>(Wn.mp nd).1 (Bh hv).1,Ud hk]
  simp
 |p::P,w::vs,i+1,m,nd,h1,h2,hk=>by
  show bindL kindOf ((p,w)::P.zip vs) m x=_
  unfold bindL
  exact Qep (i:=i) (Wn.mp nd).2 (by simpa using h1) (by simpa using h2) hk
theorem Qeq{kindOf:Str->Option NameKind}{x:Str}{v:Value}:∀{P:List Str}{vs:List Value}{i:Nat}{m:Str->Option Value},P.Nodup->P[i]?=some x->vs[i]?=some v->kindOf x≠some .local ->
  bindC kindOf (P.zip vs) m x=some v
 |[],_,_,_,_,h,_,_=>by simp at h
 |_::_,[],_,_,_,_,h,_=>by simp at h
 |p::P,w::vs,0,m,nd,h1,h2,hk=>by
  simp at h1 h2;subst h1;subst h2
  show bindC kindOf ((p,w)::P.zip vs) m p=_
  unfold bindC
  rw[Qeo λv hv=>(Wn.mp nd).1 (Bh hv).1,Ue hk]
  simp
 |p::P,w::vs,i+1,m,nd,h1,h2,hk=>by
  show bindC kindOf ((p,w)::P.zip vs) m x=_
  unfold bindC
  exact Qeq (i:=i) (Wn.mp nd).2 (by simpa using h1) (by simpa using h2) hk
noncomputable def start(N:List Str)(vs:List V):St:=vs.map some++List.replicate (N.length-vs.length) none
noncomputable def cxOf(CX:CXT)(P:Program)(w:World)(K:Frag)(mg:Str->Option Value)(base:Heap)(N:List Str)(qual:Str)(scope:Scope)(f:Addr)(cd:Value)(A:Around)(outer:List Env)(s:Shared)(H:Hp)(E:XK):Cx where
 prog:=P
 w:=w
 K:=K
 mg:=mg
 base:=base
 A:=A.deeper (envOfC qual scope s.heap.objs.size f cd)
 N:=N
 s₀:=s
 H₀:=H
 env:=envOfC qual scope s.heap.objs.size f cd
 outer:=outer
 stack:=envOfC qual scope s.heap.objs.size f cd::outer
 ex:=[]
 calm:=true
 fn:=λ_=>true
 pn:=[]
 xe:=λe s'=>wpAny (model P w) (A.deeper (envOfC qual scope s.heap.objs.size f cd)) (leaving (envOfC qual scope s.heap.objs.size f cd) e) (λ_ s''=>CX outer H s E e s'') (λe' s''=>CX outer H s E e' s'') s'
theorem Qf5{sc:Scope}{n:Nat}{x:Str}(h:sc.names.lookup x=some .cell):∃c,(cellsFrom n sc.names []).lookup x=some c:=by
 have q:=Ba sc.names n [] (.inl h)
 exact WW.mp q
theorem QhT{CX:CXT}{P:Program}{w:World}{K:Frag}{mg:Str->Option Value}{base:Heap}{N ps:List Str}{qual:Str}{scope:Scope}{f:Addr}{cd:Value}{A:Around}{outer:List Env}{s s1:Shared}{H:Hp}{E:XK}{us:List Value}{vs:List V}(S:FnScope N ps scope)(hd:A.handled=none)(e0:Env0 P w K mg base A outer s H)(hl:vs.length=ps.length)(r:Vals vs us)(x:InCallC s s.heap.objs.size (bindL (envOfC qual scope s.heap.objs.size f cd).kindOf (ps.zip us) λ_=>none) (cellsFrom (s.heap.objs.size+1) scope.names []) (bindC (envOfC qual scope s.heap.objs.size f cd).kindOf (ps.zip us) λ_=>none) s1):
  Inv (cxOf CX P w K mg base N qual scope f cd A outer s H E) [] (start N vs) H s1:=by
 have hpl:ps.length<=N.length:=by have:=Rz List.length S.pre;rw[Th]at this;omega
 obtain⟨h1,tk,rfl,hk⟩:=x.done
 have noA:∀b:Addr,b∉(cxOf CX P w K mg base N qual scope f cd A outer s H E).ex:=λb z=>absurd (show b∈([]:List Addr) from z) (by simp)
 refine⟨⟨e0.mod,S.kind,rfl,rfl,Uc _,λy z c h1 h2=>?_,λy hy=>?_,λy c _ h=>?_,λ_=>hd,Around.frames_deeper e0.frames,.inr ⟨rfl,rfl⟩,λb z=>absurd z (noA b),e0.bs,e0.bsz,λb _ _=>noA b,λb z=>absurd z (noA b),e0.funs,e0.frf⟩,
  rfl,e0.bare,Un.kept hk,⟨_,x.toInCall.ns,λi y v h1 h2 h3=>?_⟩,λy c h=>⟨_,x.cell y c h⟩,e0.hok.fresh (Uc _),λy c h=>?_,λp hp=>absurd (show p∈([]:List (Addr×Obj)) from hp) (by simp),e0.hok.kept hk,?_⟩
 ·exact name_of_addr x.apart (TM h1) (TM h2)
 ·have hy:scope.names.lookup y=some .cell\/scope.names.lookup y=some .free:=hy
  rcases hy with hy|hy
  ·exact Qf5 hy
  ·exact absurd rfl (S.nofree _ (TM hy))
 ·exact U3 (x.above y c (TM h))
 ·have hi:i<vs.length:=by
   unfold start at h2
   by_cases hi:i<vs.length
   ·exact hi
   ·rw[Ux (by simpa using hi)]at h2
    rw[Rf]at h2
    split at h2 <;> cases h2
  have ha:vs[i]?=some v:=by
   unfold start at h2
   rw[UA (by simpa using hi),Uy]at h2
   cases e:vs[i]? with
   |none=>rw[e]at h2;cases h2
   |some a=>rw[e]at h2;cases h2;rfl
  obtain⟨u,hu,rv⟩:=r.get ha
  have hp:ps[i]?=some y:=by
   rw[<-S.pre,WX (by omega)];exact h1
  have ndP:ps.Nodup:=by rw[<-S.pre];exact S.nd.sublist (List.take_sublist _ _)
  refine⟨u,rv,?_⟩
  rcases S.par y (Rt hp) with k|k
  ·exact .inl ⟨k,Qep ndP hp hu k⟩
  ·obtain⟨c,e⟩:=Qf5 (n:=s.heap.objs.size+1) k
   refine .inr ⟨.inl k,c,e,?_⟩
   have q:=x.cell y c e
   rw[Qeq ndP hp hu (by show scope.names.lookup y≠_;rw[k];decide)]at q
   exact q
 ·exact e0.hok.fresh (U3 (x.above y c (TM h)))
 ·unfold start
  show _=N.length
  rw[Us,Ur,U9]
  omega
theorem Qlq{CX:CXT}{P:Program}{w:World}{K:Frag}{mg:Str->Option Value}{base:Heap}{k:Nat}{f:Addr}{name qual:Str}{params:Arguments}{body:List Stmt}{scope:Scope}{dV kV doc pm cdv ct oc:Value}{an od:Option Addr}{osl:Array (Option Value)}{N ps:List Str}{sp:Sp}(lk:K.lookup f=some ⟨oc,od,.func (fnOf name qual params body scope dV kV doc pm an cdv ct),osl⟩)(hcd:codeIn K cdv qual=true)(S:FnScope N ps scope)(len:∀vs H Q E,sp vs H Q E->vs.length=ps.length)(hbody:∀(A:Around) (outer:List Env) (s:Shared) (H:Hp) (vs:List V) (Q:VK) (E:XK),Room k (A.deeper (envOfC qual scope s.heap.objs.size f cdv))->sp vs H Q E ->
   ∃t,PSs (cxOf CX P w K mg base N qual scope f cdv A outer s H E) body t/\t {nx:=λ_ H'=>Q .non H',rt:=Q} (start N vs) H):
  FnOk P w K mg base CX (k+1) f (fnOf name qual params body scope dV kV doc pm an cdv ct) ps sp:=by
 refine⟨len,λA outer s H args us vs Q E hr e0 hb r hsp=>?_⟩
 have hl:=len _ _ _ _ hsp
 have KX:K.In s.heap:=e0.mod.kin.keeps λb o e=>(e0.bs b o e).1
 have lim:s.heap.NoLimit:=e0.mod.nolimit.keeps λb o e=>(e0.bs b o e).1
 have hkind:∀y∈ps.zip us,scope.names.lookup y.1=some .local\/(scope.names.lookup y.1=some .cell/\((cellsFrom (s.heap.objs.size+1) scope.names []).lookup y.1).isSome=true):=λ⟨n,v⟩ hy=>by
  rcases S.par n (Bh hy).1 with q|q
  ·exact .inl q
  ·exact .inr ⟨q,Ba _ _ _ (.inl q)⟩
 refine codeAny_call_function hr.depth (KX _ _ lk) rfl S.co S.gen rfl (codeRec_of KX hcd) (hb _ _ _ _ ?_)
 refine wpAny_newFunctionEnv_cells S.kind hkind λenv he s1 x=>?_
 subst he
 refine⟨lim.keeps x.toInCall.keep,codeAny_func ?_⟩
 obtain⟨t,ht,hq⟩:=hbody A outer s H vs Q E (hr.deeper _) hsp
 have I:Inv (cxOf CX P w K mg base N qual scope f cdv A outer s H E) [] (start N vs) H s1:=QhT S hr.hd e0 hl r x
 refine U8 (ht [] s1 (start N vs) H _ I hq) (λfl s' hs=>?_) λe s' hs=>hs
 have fin:∀{σ':St}{H':Hp}{v:V}{u:Value},Inv (cxOf CX P w K mg base N qual scope f cdv A outer s H E) [] σ' H' s'->RelV v u->Q v H'->CE outer P w H s Q u s' :=
  λ{σ' H' v u} J rv q=>⟨v,H',J.os,J.bare,J.base,J.hok,rv,q⟩
 cases fl with
 |ret u =>
  obtain⟨v,σ',H',J,rv,q⟩:=hs
  exact fin J rv q
 |next =>
  obtain⟨σ',H',J,q⟩:=hs
  exact fin (v:=V.non) (u:=Value.none) J rfl q
 |brk =>
  obtain⟨_,_,_,q⟩:=hs
  exact False.elim q
 |cont =>
  obtain⟨_,_,_,q⟩:=hs
  exact False.elim q
end
section
section
variable{X:Cx}{x:Str}{p pos:Pos}{e:Expr}{es:List Expr}{t:TA}{id T:String}{r:List V->Hp->VK->Prop}
noncomputable def tCB(r:List V->Hp->VK->Prop)(t:TA):TE:=λσ H Q=>t σ H λvs H1=>r vs H1 Q
theorem QbR(hc:CallR X (.builtin id) r)(hg:Gl X x)(hm:X.mg x=none)(hv:bootBuiltins x=some (.builtin id))(ha:PA X (e::es) t)(hn:x ≠ "__name__":=by decide)(hdb:(x == ("__debug__" : Str))=false:=by decide)(he:starEach (e::es) X.env=(false,eval e X.env)::starEach es X.env:=by rfl)(hpl:(backTo pos (starEach es X.env)).any (·.1)=false:=by rfl):PE X (.Call (.Name x p) (e::es) [] pos) (tCB r t):=by
 intro pins s σ H Q I h
 refine Rk (Qaj I hg hm hv ?_ hn hdb)
 exact PyProof.Rows.callWith_builtin1 (thn (ha pos pins s σ H _ I h) λus s1 ⟨vs,H1,I1,r1,q1⟩=>hc pins s1 σ H1 vs us Q I1 r1 q1) he hpl
theorem QhU(hc:CallR X (.type T) r)(hg:Gl X x)(hm:X.mg x=none)(hv:bootBuiltins x=some (.type T))(ha:PA X (e::es) t)(hn:x ≠ "__name__":=by decide)(hdb:(x == ("__debug__" : Str))=false:=by decide)(he:starEach (e::es) X.env=(false,eval e X.env)::starEach es X.env:=by rfl)(hpl:(backTo pos (starEach es X.env)).any (·.1)=false:=by rfl):PE X (.Call (.Name x p) (e::es) [] pos) (tCB r t):=by
 intro pins s σ H Q I h
 refine Rk (Qaj I hg hm hv ?_ hn hdb)
 exact UR (thn (ha pos pins s σ H _ I h) λus s1 ⟨vs,H1,I1,r1,q1⟩=>hc pins s1 σ H1 vs us Q I1 r1 q1) he hpl
end
end
end L2
namespace HT
open PySem PyProof.Rows
section
open PySem.SeqAt
open PySem.AutoSeq1 (wpAny_loadPart')
open PySem.MeetsSeq PySem.MeetsSeq2 PySem.MeetsSeq3
end
section
variable{prog:Program}{w:World}{A:Around}{E:Value->Shared->Prop}{s:Shared}
theorem cat_tup{t b:Addr}{vs ws:List Value}{Q:Value->Shared->Prop}(ht:IsTup s.heap t vs.toArray)(hb:IsTup s.heap b ws.toArray)(hv:vs≠[])(h1:ws=[]->Q (.ref t) s)(h2:ws≠[]->Q (.ref s.heap.objs.size) {s with heap:=s.heap.push {cls:=.type "tuple",data:=.seq (vs++ws).toArray} })(hsz:vs.length+ws.length<=sizeLine):wpAny (model prog w) A (binaryOp .Add (.ref t) (.ref b)) Q E s:=by
 obtain⟨⟨cls,dd,data,sl⟩,ho,hc,n,hd⟩:=id ht
 obtain⟨⟨cls2,dd2,data2,sl2⟩,ho2,hc2,n2,hd2⟩:=id hb
 simp only at hc hd hc2 hd2
 subst hc hd hc2 hd2
 have e:vs.toArray++ws.toArray=(vs++ws).toArray:=by simp
 by_cases hw:ws=[]
 ·exact concat_meets ⟨_,ho,rfl⟩ ⟨_,ho2,rfl⟩ W7 seq_tuple_add RM RI (RB _ _)
   (tuple_addW1 t b vs.toArray ws.toArray n n2 dd dd2 sl sl2 (by simpa using hv) (by simp[hw])) ⟨ho,ho2,h1 hw⟩
 ·refine concat_meets ⟨_,ho,rfl⟩ ⟨_,ho2,rfl⟩ W7 seq_tuple_add RM RI (RB _ _)
   (tuple_addW2 t b vs.toArray ws.toArray n n2 dd dd2 sl sl2 (by simpa using hv) (by simpa using hw) (by rw[Uf,Uf];exact hsz)) ⟨ho,ho2,?_⟩
  rw[e]
  exact h2 hw
noncomputable def sIx(n d:Nat):Option Int->Nat
 |none=>d
 |some v=>if v<0 then (v+(n:Int)).toNat else min v.toNat n
theorem Qm6(n d:Nat)(hd:d<=n)(o:Option Int):sIx n d o<=n:=by
 cases o with
 |none=>exact hd
 |some v =>
  show(if v<0 then (v+(n:Int)).toNat else min v.toNat n)<=n
  by_cases hv:v<0
  ·rw[Ud hv];omega
  ·rw[Ue hv];exact Nat.min_le_right _ _
theorem QhV(v:Int)(n d:Nat):(if v<0 then max (v+(n:Int)) 0 else min v (n:Int))=((sIx n d (some v):Nat):Int):=by
 show(if v<0 then max (v+(n:Int)) 0 else min v (n:Int))=(((if v<0 then (v+(n:Int)).toNat else min v.toNat n):Nat):Int)
 by_cases hv:v<0
 ·simp only[Ud hv];omega
 ·simp only[Ue hv];omega
theorem Qg2(lo hi:Option Int)(n:Nat):Builtin.Slice.sliceAdjust lo hi 1 (n:Int)=(((sIx n 0 lo:Nat):Int),((sIx n n hi:Nat):Int)):=by
 have h1:¬((1:Int)<0):=by omega
 unfold Builtin.Slice.sliceAdjust
 simp only[h1,WR]
 refine Prod.ext ?_ ?_
 ·cases lo with
  |none=>rfl
  |some v=>exact QhV v n 0
 ·cases hi with
  |none=>rfl
  |some v=>exact QhV v n n
theorem Qg3(i j:Nat):Builtin.Slice.slicePlaces (i:Int) (j:Int) 1=j-i:=by
 unfold Builtin.Slice.slicePlaces
 have h1:(1:Int) > 0:=by omega
 simp only[h1,Wu,Int.ediv_one]
 split <;> omega
theorem Qc9{v:Value}{o:Option Int}{Q:Option Int->Shared->Prop}(p:IsPart v o)(h:Q o s):wpAny (model prog w) A (Builtin.Slice.slicePartIndex v) Q E s:=by
 cases p with
 |none=>exact slicePart_none h
 |int i t=>exact slicePart_int h
theorem sliceApplied_gen{sl:Addr}{vl vu:Value}{lo hi:Option Int}{n:Nat}{Q:Int×Int×Nat->Shared->Prop}(hs:s.heap.IsSliceOf sl vl vu .none)(pl:IsPart vl lo)(pu:IsPart vu hi)(h:Q (((sIx n 0 lo:Nat):Int),1,sIx n n hi-sIx n 0 lo) s):wpAny (model prog w) A (Builtin.Slice.sliceApplied (.ref sl) (pure (n:Int))) Q E s:=by
 obtain⟨os,hos,hcs,hds⟩:=id hs
 unfold Builtin.Slice.sliceApplied Builtin.Slice.sliceFields
 refine Ua (Ua (UV hos hds (x:=vl) rfl (Ua (UV hos hds (x:=vu) rfl (Ua (UV hos hds (x:=.none) rfl (Uh ?_)))))))
 refine Ua (slicePart_none ?_)
 show wpAny _ _ (if ((1:Int) == 0)=true then _ else _) _ _ s
 rw[Ue (by decide)]
 refine Ua (Qc9 pl (Ua (Qc9 pu (Ua (Uh ?_)))))
 show wpAny _ _ (match Builtin.Slice.sliceAdjust lo hi 1 (n:Int) with|(lo,hi)=>pure (lo,(1:Int),Builtin.Slice.slicePlaces lo hi 1)) _ _ s
 rw[Qg2 lo hi n]
 show wpAny _ _ (pure (((sIx n 0 lo:Nat):Int),(1:Int),Builtin.Slice.slicePlaces ((sIx n 0 lo:Nat):Int) ((sIx n n hi:Nat):Int) 1)) _ _ s
 rw[Qg3]
 exact Uh h
theorem QjF(xs:Array Value)(i k:Nat):((List.range k).filterMap λ(m:Nat)=>xs[((i:Int)+(m:Int)*1).toNat]?).toArray=((xs.toList.drop i).take k).toArray:=by
 have e:(λ(m:Nat)=>xs[((i:Int)+(m:Int)*1).toNat]?)=λm=>xs[i+m]?:=by
  funext m
  have:((i:Int)+(m:Int)*1).toNat=i+m:=by omega
  rw[this]
 rw[e]
 have:=pick_run xs i k
 rw[List.filterMap_map]at this
 have e2:((λx=>xs[x]?) ∘ λx=>i+x)=λm=>xs[i+m]?:=rfl
 rw[e2]at this
 rw[this]
theorem getItem_tuple_cut{t sl:Addr}{items:Array Value}{vl vu:Value}{lo hi:Option Int}{Q:Value->Shared->Prop}(ht:IsTup s.heap t items)(hs:s.heap.IsSliceOf sl vl vu .none)(pl:IsPart vl lo)(pu:IsPart vu hi)(hw:¬(sIx items.size 0 lo=0/\sIx items.size items.size hi=items.size))(h:Q (.ref s.heap.objs.size) {s with heap:=s.heap.push {cls:=.type "tuple",data:=.seq ((items.toList.drop (sIx items.size 0 lo)).take (sIx items.size items.size hi-sIx items.size 0 lo)).toArray} })(hsz:items.size<=sizeLine):wpAny (model prog w) A (getItem (.ref t) (.ref sl)) Q E s:=by
 have htake:sizeOk (.seq ((items.toList.drop (sIx items.size 0 lo)).take (sIx items.size items.size hi-sIx items.size 0 lo)).toArray):=by
  show((items.toList.drop (sIx items.size 0 lo)).take (sIx items.size items.size hi-sIx items.size 0 lo)).toArray.size<=sizeLine
  rw[Uf,Th,TD,Uo]
  omega
 have hj:sIx items.size items.size hi<=items.size:=Qm6 _ _ (Uc _) hi
 obtain⟨os,hos,hcs,hds⟩:=id hs
 have hTs:s.TypeIs (.ref sl) "slice":=⟨os,hos,hcs⟩
 unfold getItem
 try with_reducible refine TR ?_
 first|refine Ua (Uh ?_)|skip
 refine Ua (wpAny_sequenceKey ht.typeIs (by decide) ?_)
 refine Ua (Tn (name:=Str.ofString "__getitem__") ht.typeIs UY
  (TU UY ht.typeIs entry_tuple_getitem ?_ (args_tuple_getitem _ _)))
 show wpAny _ _ (Builtin.Tuple.tupleItemsOf (.ref t) >>= _) _ _ s
 refine Ua (tupleItemsOf_ ht ?_)
 refine Ua (RY hTs ?_)
 rw[Ud (by decide)]
 refine Ua (sliceApplied_gen hs pl pu ?_)
 have hno:¬((((sIx items.size 0 lo:Nat):Int) == 0 && (1:Int) == 1 && (sIx items.size items.size hi-sIx items.size 0 lo) == items.size)=true):=by
  intro q
  rw[UT,UT]at q
  have q1:((sIx items.size 0 lo:Nat):Int)=0:=eq_of_beq q.1.1
  have q2:sIx items.size items.size hi-sIx items.size 0 lo=items.size:=eq_of_beq q.2
  exact hw ⟨by omega,by omega⟩
 show wpAny _ _ (if (((sIx items.size 0 lo:Nat):Int) == 0 && (1:Int) == 1 && (sIx items.size items.size hi-sIx items.size 0 lo) == items.size)=true then _ else _) _ _ s
 rw[Ue hno,QjF]
 first
  |exact Ua (m:=Builtin.Tuple.tupleExact _) (U4 (Uh ⟨_,rfl,Uh h⟩) htake)
  |exact Ua (m:=Builtin.Tuple.tupleExact _) (U4 (Ua (Uh (Uh ⟨_,rfl,Uh h⟩))) htake)
  |exact Ua (Ua (m:=Builtin.Tuple.tupleExact _) (U4 (Uh (Uh ⟨_,rfl,Uh h⟩)) htake))
  |exact Ua (Ua (m:=Builtin.Tuple.tupleExact _) (U4 (Uh ⟨_,rfl,Uh h⟩) htake))
end
end HT
namespace L2
open PySem PySem.Spec PyProof.Rows
section
noncomputable abbrev TO:=St->Hp->(Option Int->Hp->Prop)->Prop
noncomputable def PO(X:Cx)(e:Option Expr)(t:TO):Prop :=
 ∀(pins:List (Addr×Obj))(s:Shared)(σ:St)(H:Hp)(Q:Option Int->Hp->Prop),Inv X pins σ H s->t σ H Q ->
  wpAny (model X.prog X.w) X.A (evalPart e X.env) (λu s'=>∃o H',Inv X pins σ H' s'/\IsPart u o/\Q o H') X.xe s
noncomputable def Qlr:TO:=λ_ H Q=>Q none H
noncomputable def QoP(t:TE):TO:=λσ H Q=>t σ H λx H1=>∃i,x=.int i/\Q (some i) H1
theorem intsAre_of{ns:List Int}:∀{us:List Value},Vals (ns.map V.int) us->IntsAre us ns:=by
 induction ns with
 |nil=>intro us r;rw[List.map_nil]at r;cases r;exact .nil
 |cons n ns ih =>
  intro us r
  rw[UI]at r
  cases r with
  |cons r1 r2 =>
   obtain⟨t,e⟩:=r1
   subst e
   exact .cons n t (ih r2)
section
variable{X:Cx}{e:Expr}{te:TE}{lo hi:Option Expr}{tl th:TO}{pos p2:Pos}
theorem Qls:PO X none Qlr:=by
 intro pins s σ H Q I h
 rw[evalPart_none]
 exact Uh ⟨none,H,I,.none,h⟩
theorem Qlt(h:PE X e te):PO X (some e) (QoP te):=by
 intro pins s σ H Q I hw
 rw[evalPart_some]
 refine thn (h pins s σ H _ I hw) λu s1 ⟨x,H1,I1,r1,q1⟩=>?_
 obtain⟨i,rfl,q⟩:=q1
 obtain⟨t,rfl⟩:=r1
 exact⟨some i,H1,I1,.int i t,q⟩
noncomputable def SlR(X:Cx)(r:V->Option Int->Option Int->Hp->VK->Prop):Prop :=
 ∀(pins:List (Addr×Obj))(s:Shared)(σ:St)(H:Hp)(x:V)(v vl vu:Value)(lo hi:Option Int)(sl:Addr)(Q:VK),Inv X pins σ H s->RelV x v->s.heap.IsSliceOf sl vl vu .none->IsPart vl lo->IsPart vu hi->r x lo hi H Q ->
  ∃T id,typeLookup (.type T) "__getitem__" = pure (some (.builtin id))/\s.TypeIs v T/\wpAny (model X.prog X.w) X.A (getItem v (.ref sl)) (EP X pins σ Q) X.xe s
theorem SlR.or{r r':V->Option Int->Option Int->Hp->VK->Prop}(h:SlR X r)(h':SlR X r'):SlR X (λx lo hi H Q=>r x lo hi H Q\/r' x lo hi H Q):=by
 intro pins s σ H x v vl vu lo hi sl Q I rx hs pl pu q
 rcases q with q|q
 ·exact h pins s σ H x v vl vu lo hi sl Q I rx hs pl pu q
 ·exact h' pins s σ H x v vl vu lo hi sl Q I rx hs pl pu q
noncomputable def tSl(r:V->Option Int->Option Int->Hp->VK->Prop)(te:TE)(tl th:TO):TE:=λσ H Q=>te σ H λx H1=>tl σ H1 λl H2=>th σ H2 λu H3=>r x l u H3 Q
theorem QjG{r:V->Option Int->Option Int->Hp->VK->Prop}(hr:SlR X r)(he:PE X e te)(hl:PO X lo tl)(hu:PO X hi th):PE X (.Subscript e (.Slice lo hi none p2) pos) (tSl r te tl th):=by
 intro pins s σ H Q I h
 refine Subscript_ (thn (he pins s σ H _ I h) λv s1 ⟨x,H1,I1,r1,q1⟩=>?_)
 refine wpAny_Slice (thn (hl pins s1 σ H1 _ I1 q1) λvl s2 ⟨l,H2,I2,pl,q2⟩=>thn (hu pins s2 σ H2 _ I2 q2) λvu s3 ⟨u,H3,I3,pu,q3⟩=>?_)
 rw[evalPart_none]
 refine Uh ?_
 have I4:Inv X pins σ H3 {s3 with heap:=s3.heap.push {cls:=.type "slice",data:=.fields #[vl,vu,.none]} }:=I3.kept (t':=s3.toks) λb ob q=>Ub _ q
 obtain⟨T,id,hT,ht,hg⟩:=hr pins {s3 with heap:=s3.heap.push {cls:=.type "slice",data:=.fields #[vl,vu,.none]} } σ H3 x v vl vu l u s3.heap.objs.size Q I4 r1 (Heap.IsSliceOf.new ..) pl pu q3
 show wpAny (model X.prog X.w) X.A (subscriptTail e (.Slice lo hi none p2) v (.ref s3.heap.objs.size)) (EP X pins σ Q) X.xe {s3 with heap:=s3.heap.push {cls:=.type "slice",data:=.fields #[vl,vu,.none]} }
 exact tail_any (ops:=[.ref s3.heap.objs.size,v]) ht hT hg (by with_unfolding_all rfl)
noncomputable def cutV(xs:List V)(lo hi:Option Int):List V:=(xs.drop (HT.sIx xs.length 0 lo)).take (HT.sIx xs.length xs.length hi-HT.sIx xs.length 0 lo)
theorem Qb9(xs:List V)(lo hi:Option Int):(cutV xs lo hi).length<=xs.length:=by
 unfold cutV
 rw[Th,TD]
 omega
noncomputable def rSlT(K:Frag):V->Option Int->Option Int->Hp->VK->Prop:=λx lo hi H Q=>∃a xs,x=.ref a/\SqT K H a xs /\
 ¬(HT.sIx xs.length 0 lo=0/\HT.sIx xs.length xs.length hi=xs.length)/\∀p,H p=none->Q (.ref p) (upd H p (.tup (cutV xs lo hi)))
theorem sl_tup:SlR X (rSlT X.K):=by
 intro pins s σ H x v vl vu lo hi sl Q I rx hs pl pu h
 obtain⟨a,xs,rfl,hx,hw,q⟩:=h
 cases rx
 obtain⟨its,r,ht,hz⟩:=I.tuple hx
 have hlen:its.toArray.size=xs.length:=by rw[Uf];exact r.length.symm
 refine⟨"tuple",_,UY.lookup,ht.typeIs,?_⟩
 refine HT.getItem_tuple_cut ht hs pl pu (by rw[hlen];exact hw) ?_ (by rw[hlen];exact hz)
 rw[hlen]
 refine⟨.ref s.heap.objs.size,_,I.laid (t':=s.toks) (o:=.tup (cutV xs lo hi)) (λb ob q=>Ub _ q) (Uc _) ?_,rfl,q _ (I.hok.fresh (Uc _))⟩
 exact⟨Ut (Qb9 xs lo hi) hz,_,(r.drop (HT.sIx xs.length 0 lo)).take (HT.sIx xs.length xs.length hi-HT.sIx xs.length 0 lo),IsTup.new _ _⟩
noncomputable def Qm7(K:Frag):R2:=λx y H Q=>∃a b xs ys,x=.ref a/\y=.ref b/\SqT K H a xs/\SqT K H b ys/\xs≠[]/\xs.length+ys.length<=sizeLine /\
 (ys=[]->Q (.ref a) H)/\(ys≠[]->∀p,H p=none->Q (.ref p) (upd H p (.tup (xs++ys))))
theorem Vals.nil_iff{xs:List V}{us:List Value}(r:Vals xs us):us=[]↔xs=[]:=by
 cases r with
 |nil=>simp
 |cons _ _=>simp
theorem Qlu:OpR X (binaryOp .Add) (Qm7 X.K):=by
 intro pins s σ H x y v u Q I rx ry h
 obtain⟨a,b,xs,ys,rfl,rfl,ha,hb,hx,hz,q1,q2⟩:=h
 cases rx
 cases ry
 obtain⟨its,r1,p1,_⟩:=I.tuple ha
 obtain⟨its2,r2,p2,_⟩:=I.tuple hb
 refine HT.cat_tup p1 p2 (λz=>hx (r1.nil_iff.mp z)) (λz=>⟨.ref a,H,I,rfl,q1 (r2.nil_iff.mp z)⟩) (λz=>?_) (by rw[<-r1.length,<-r2.length];exact hz)
 refine⟨.ref s.heap.objs.size,_,I.laid (t':=s.toks) (o:=.tup (xs++ys)) (λb ob q=>Ub _ q) (Uc _) ?_,rfl,q2 (λw=>z (r2.nil_iff.mpr w)) _ (I.hok.fresh (Uc _))⟩
 exact⟨by rw[Us];exact hz,_,r1.append r2,IsTup.new _ _⟩
end
end
section
noncomputable def ixN(n:Nat)(i:Int):Option Nat:=if 0<=i then (if i<n then some i.toNat else none) else if -(n:Int)<=i then some (i+n).toNat else none
noncomputable def atI{α:Type}(xs:List α)(i:Int):Option α:=(ixN xs.length i).bind λj=>xs[j]?
theorem QhW{n:Nat}{i:Int}{j:Nat}(h:ixN n i=some j):seqIndex? i n=some j/\j<n /\ -(n:Int)<=i/\i<n:=by
 unfold ixN at h
 by_cases h0:0<=i
 ·rw[Ud h0]at h
  by_cases h1:i<n
  ·rw[Ud h1]at h
   have e:i.toNat=j:=Option.some.inj h
   exact⟨by rw[seqIndex_of h0 h1,e],by omega,by omega,h1⟩
  ·rw[Ue h1]at h;cases h
 ·rw[Ue h0]at h
  by_cases h1 : -(n:Int)<=i
  ·rw[Ud h1]at h
   have e:(i+n).toNat=j:=Option.some.inj h
   exact⟨by rw[seqIndex_neg (by omega) h1,e],by omega,h1,by omega⟩
  ·rw[Ue h1]at h;cases h
theorem Qfl{α:Type}{xs:List α}{i:Int}{v:α}(h:atI xs i=some v):∃j,seqIndex? i xs.length=some j/\xs[j]?=some v/\j<xs.length /\ -(xs.length:Int)<=i/\i<xs.length:=by
 unfold atI at h
 cases e:ixN xs.length i with
 |none=>rw[e]at h;cases h
 |some j =>
  rw[e]at h
  obtain⟨h1,h2,h3,h4⟩:=QhW e
  exact⟨j,h1,h,h2,h3,h4⟩
def Qds(b:Expr):Prop:=∀o i,subscripted b false o i=operate [o,i] (getItem o i)
noncomputable def IxR(X:Cx)(r:R2):Prop :=
 ∀(value slice:Expr)(pins:List (Addr×Obj))(s:Shared)(σ:St)(H:Hp)(x y:V)(v u:Value)(Q:VK),Inv X pins σ H s->RelV x v->RelV y u->r x y H Q ->
  subscripted slice false v u=operate [v,u] (getItem v u)->wpAny (model X.prog X.w) X.A (subscriptTail value slice v u) (EP X pins σ Q) X.xe s
noncomputable def MtR(X:Cx)(id:String)(r:V->List V->Hp->VK->Prop):Prop :=
 ∀(pins:List (Addr×Obj))(s:Shared)(σ:St)(H:Hp)(x:V)(xs:List V)(v:Value)(us:List Value)(Q:VK),Inv X pins σ H s->RelV x v->Vals xs us->r x xs H Q ->
  wpAny (model X.prog X.w) X.A (call (.builtin id) (v::us)) (EP X pins σ Q) X.xe s
section
variable{X:Cx}{a b:Expr}{ta tb:TE}{pos:Pos}
theorem IxR.or{r r':R2}(h:IxR X r)(h':IxR X r'):IxR X (λx y H Q=>r x y H Q\/r' x y H Q):=by
 intro value slice pins s σ H x y v u Q I rx ry q hs
 rcases q with q|q
 ·exact h value slice pins s σ H x y v u Q I rx ry q hs
 ·exact h' value slice pins s σ H x y v u Q I rx ry q hs
theorem MtR.or{id:String}{r r':V->List V->Hp->VK->Prop}(h:MtR X id r)(h':MtR X id r'):MtR X id (λx xs H Q=>r x xs H Q\/r' x xs H Q):=by
 intro pins s σ H x xs v us Q I rx rs q
 rcases q with q|q
 ·exact h pins s σ H x xs v us Q I rx rs q
 ·exact h' pins s σ H x xs v us Q I rx rs q
theorem QoQ{r:R2}(hr:IxR X r)(ha:PE X a ta)(hb:PE X b tb)(hs:Qds b):PE X (.Subscript a b pos) (tOp r ta tb):=by
 intro pins s σ H Q I h
 exact Subscript_ (binT ha hb I h λv u s2 x y H2 I2 rx ry q=>hr a b pins s2 σ H2 x y v u Q I2 rx ry q (hs _ _))
noncomputable def rIxL(K:Frag):R2:=λx y H Q=>∃p xs i v,x=.ref p/\y=.int i/\SqL K H p xs/\atI xs i=some v/\Q v H
noncomputable def rIxT(K:Frag):R2:=λx y H Q=>∃p xs i v,x=.ref p/\y=.int i/\SqT K H p xs/\atI xs i=some v/\Q v H
noncomputable def rIxS:R2:=λx y H Q=>∃z i c,x=.str z/\y=.int i/\z.length<=sizeLine/\atI z.cps.toList i=some c/\Q (.str ⟨#[c]⟩) H
theorem ix_list:IxR X (rIxL X.K):=by
 intro value slice pins s σ H x y v u Q I rx ry h hs
 obtain⟨p,xs,i,z,rfl,rfl,hq,he,q⟩:=h
 cases rx
 obtain⟨t,rfl⟩:=ry
 obtain⟨its,r,pl,hz⟩:=I.list hq
 obtain⟨j,h1,h2,h3,h4,h5⟩:=Qfl he
 obtain⟨w,ew,rw'⟩:=r.get h2
 have hl:=r.length
 have hn:=Qc7
 have fin:EP X pins σ Q w s:=⟨z,H,I,rw',q⟩
 by_cases h0:0<=i
 ·have hj:i.toNat=j:=by
   rw[seqIndex_of h0 h5]at h1
   exact Option.some.inj h1
  exact item_listR pl.isList h0 (by omega) (by rw[hj];simpa using ew) fin hs
 ·have hj:(i+(its.toArray.size:Int)).toNat=j:=by
   rw[seqIndex_neg (by omega) h4]at h1
   rw[Uf,<-hl]
   exact Option.some.inj h1
  exact subscriptTail_builtinR (x:=w) pl.isList.typeIs slot_list_getitem.lookup
   (wpAny_getItem_list_neg (Q:=λr s'=>r=w/\EP X pins σ Q r s') pl.isList (by omega) (by rw[Uf] <;> omega) (by omega) (by rw[hj];simpa using ew) ⟨rfl,fin⟩) hs
theorem ix_tup:IxR X (rIxT X.K):=by
 intro value slice pins s σ H x y v u Q I rx ry h hs
 obtain⟨p,xs,i,z,rfl,rfl,hq,he,q⟩:=h
 cases rx
 obtain⟨t,rfl⟩:=ry
 obtain⟨its,r,pl,hz⟩:=I.tuple hq
 obtain⟨j,h1,h2,h3,h4,h5⟩:=Qfl he
 obtain⟨w,ew,rw'⟩:=r.get h2
 have hl:=r.length
 have hn:=Qc7
 have fin:EP X pins σ Q w s:=⟨z,H,I,rw',q⟩
 exact subscriptTail_builtinR (x:=w) pl.typeIs slot_tuple_getitem.lookup
  (getItem_tuple (j:=j) (Q:=λr s'=>r=w/\EP X pins σ Q r s') pl (by omega) (by omega) (by rw[Uf,<-hl];exact h1) (by simpa using ew) ⟨rfl,fin⟩) hs
theorem Qm8:IxR X rIxS:=by
 intro value slice pins s σ H x y v u Q I rx ry h hs
 obtain⟨z,i,c,rfl,rfl,hz,he,q⟩:=h
 obtain⟨t,rfl⟩:=rx
 obtain⟨t',rfl⟩:=ry
 obtain⟨j,h1,h2,h3,h4,h5⟩:=Qfl he
 have hl:z.cps.toList.length=z.length:=by simp[Str.length]
 rw[hl]at h1 h4 h5
 have hn:=Qc7
 exact tail_any (typeIs_str s z t) slot_str_getitem.lookup (getItem_str (c:=c) (by
  have e1:decide (i < -(2^63:Int))=false:=UB (by omega)
  have e2:decide (i>=2^63)=false:=UB (by omega)
  rw[e1,e2,Bool.or_false]) (by rw[h1];simpa using h2) ⟨.str ⟨#[c]⟩,H,I.tok _,⟨_,rfl⟩,q⟩) hs
noncomputable def rIx(K:Frag):R2:=λx y H Q=>rIxL K x y H Q\/rIxT K x y H Q\/rIxS x y H Q
theorem Qm9:IxR X (rIx X.K):=ix_list.or (ix_tup.or Qm8)
theorem Qg4(its:List Value)(n j:Nat)(u:Value):Obj.mapSeq (·.setIfInBounds j u) {cls:=.type "list",data:=.seq its.toArray n} = {cls:=.type "list",data:=.seq (its.set j u).toArray n}:=by
 simp[Obj.mapSeq]
theorem Inv.lst{pins:List (Addr×Obj)}{σ:St}{H:Hp}{s:Shared}{p:Addr}{xs:List V}(I:Inv X pins σ H s)(h:H p=some (.lst xs)):
  ∃(its:List Value)(n:Nat),Vals xs its/\s.heap.get? p=some {cls:=.type "list",data:=.seq its.toArray n}/\xs.length<=sizeLine:=by
 obtain⟨z,its,n,r,e⟩:=I.hok p _ h
 exact⟨its,n,r,e,z⟩
theorem Inv.lstUpd{pins:List (Addr×Obj)}{σ:St}{H:Hp}{s:Shared}{p:Addr}{xs ys:List V}{its its':List Value}{n n':Nat}{f:Obj->Obj}(I:Inv X pins σ H s)(h:H p=some (.lst xs))(ho:s.heap.get? p=some {cls:=.type "list",data:=.seq its.toArray n})(hf:f {cls:=.type "list",data:=.seq its.toArray n} = {cls:=.type "list",data:=.seq its'.toArray n'})(r:Vals ys its')(hz:ys.length<=sizeLine)(t:Nat):
  Inv X pins σ (upd H p (.lst ys)) {s with heap:=s.heap.update p f,toks:=t}:=by
 have e:(s.heap.update p f).get? p=some {cls:=.type "list",data:=.seq its'.toArray n'}:=by
  rw[Rn f ho (by rw[hf] <;> rfl),hf]
 refine I.write (x:=p) (e:=p) (by rw[h];trivial) (.inl rfl) (λb u hb q=>(U6 _ _ (Ne.symm hb)).trans q) ⟨_,e⟩ ?_
 exact⟨hz,its',n',r,e⟩
noncomputable def QoR:V->V->V->Hp->(Hp->Prop)->Prop:=λo i v H Q=>∃p xs k j,o=.ref p/\i=.int k/\H p=some (.lst xs)/\ixN xs.length k=some j/\Q (upd H p (.lst (xs.set j v)))
theorem QjH:PSet X QoR:=by
 intro pins s σ H o i v ov iv u Q I ro ri rv h
 obtain⟨p,xs,k,j,rfl,rfl,hp,hj,q⟩:=h
 cases ro
 obtain⟨t,rfl⟩:=ri
 obtain⟨its,n,r,ho,hz⟩:=I.lst hp
 obtain⟨h1,h2,h3,h4⟩:=QhW hj
 have hl:=r.length
 have hn:=Qc7
 have I':Inv X pins σ (upd H p (.lst (xs.set j v))) {s with heap:=s.heap.update p (Obj.mapSeq (·.setIfInBounds j u))} :=
  I.lstUpd hp ho (Qg4 its n j u) (r.set rv j) (by rw[T9];exact hz) s.toks
 by_cases h0:0<=k
 ·have hk:k.toNat=j:=by
   rw[seqIndex_of h0 h4]at h1
   exact Option.some.inj h1
  exact ki_setAt ho h0 (by omega) (by rw[Uf,<-hl];exact h4) (by rw[hk];exact⟨_,I',q⟩)
 ·have hk:(k+(its.toArray.size:Int)).toNat=j:=by
   rw[seqIndex_neg (by omega) h3]at h1
   rw[Uf,<-hl]
   exact Option.some.inj h1
  exact ki_setBack ho (by omega) (by rw[Uf,<-hl];exact h3) (by omega) (by rw[hk];exact⟨_,I',q⟩)
theorem Qer(lo hi:Option Int)(n:Nat):(sliceBounds lo hi none n).1=((HT.sIx n 0 lo:Nat):Int)/\(sliceBounds lo hi none n).2.1=((HT.sIx n n hi:Nat):Int)/\(sliceBounds lo hi none n).2.2=1:=by
 refine⟨?_,?_,rfl⟩
 ·cases lo with
  |none=>simp[sliceBounds,HT.sIx]
  |some i =>
   simp only[sliceBounds,HT.sIx,Option.getD_none,show(1:Int) > 0 by decide,Wu]
   by_cases h:i<0
   ·simp only[h,Wu] <;> omega
   ·simp only[h,WR] <;> omega
 ·cases hi with
  |none=>simp[sliceBounds,HT.sIx]
  |some i =>
   simp only[sliceBounds,HT.sIx,Option.getD_none,show(1:Int) > 0 by decide,Wu]
   by_cases h:i<0
   ·simp only[h,Wu] <;> omega
   ·simp only[h,WR] <;> omega
theorem Qdt(its:List Value)(lo hi:Option Int):slicePick its.toArray lo hi none=((its.drop (HT.sIx its.length 0 lo)).take (HT.sIx its.length its.length hi-HT.sIx its.length 0 lo)).toArray:=by
 obtain⟨h1,h2,h3⟩:=Qer lo hi its.toArray.size
 unfold slicePick
 rw[h1,h2,h3]
 simp only[sliceRange_one,pick_run,Uf] <;> rfl
noncomputable def rSlL(K:Frag):V->Option Int->Option Int->Hp->VK->Prop:=λx lo hi H Q=>∃a xs,x=.ref a/\SqL K H a xs/\∀p,H p=none->Q (.ref p) (upd H p (.lst (cutV xs lo hi)))
theorem Qlv:SlR X (rSlL X.K):=by
 intro pins s σ H x v vl vu lo hi sl Q I rx hs pl pu h
 obtain⟨a,xs,rfl,hx,q⟩:=h
 cases rx
 obtain⟨its,r,ht,hz⟩:=I.list hx
 have hlen:=r.length
 refine⟨"list",_,slot_list_getitem.lookup,ht.isList.typeIs,?_⟩
 refine wpAny_getItem_list_slice ht.isList hs pl pu .none (by simp) ?_ (by rw[Uf] <;> omega)
 rw[Qdt,<-hlen]
 refine⟨.ref s.heap.objs.size,_,I.laid (t':=s.toks) (o:=.lst (cutV xs lo hi)) (λb ob q=>Ub _ q) (Uc _) ?_,rfl,q _ (I.hok.fresh (Uc _))⟩
 exact⟨Ut (Qb9 xs lo hi) hz,_,0,(r.drop (HT.sIx xs.length 0 lo)).take (HT.sIx xs.length xs.length hi-HT.sIx xs.length 0 lo),Up _ rfl⟩
noncomputable def QcU:V->Bool
 |.non=>true
 |.bl _=>true
 |.int _=>true
 |.str _=>true
 |_=>false
noncomputable def eqV:V->V->Bool
 |.non,.non=>true
 |.bl a,.bl b=>a == b
 |.bl a,.int b=>(if a then 1 else 0) == b
 |.int a,.bl b=>a == (if b then 1 else 0)
 |.int a,.int b=>a == b
 |.str a,.str b=>a == b
 |_,_=>false
theorem Qna{A:Around}{s:Shared}{y x:V}{u v:Value}(ry:RelV y u)(rx:RelV x v)(fy:QcU y=true)(fx:QcU x=true):SeqAt.EqAt A s u v (eqV y x):=by
 cases y with
 |non =>
  cases ry
  cases x with
  |non=>cases rx;exact SeqAt.EqAt.same _
  |bl b=>cases rx;exact SeqAt.EqAt.none_bool b
  |int b=>obtain⟨t,rfl⟩:=rx;exact SeqAt.EqAt.none_int b t
  |str b=>obtain⟨t,rfl⟩:=rx;exact SeqAt.EqAt.none_str b t
  |_=>exact absurd (show false=true from fx) Ug
 |bl a =>
  cases ry
  cases x with
  |non=>cases rx;exact SeqAt.EqAt.bool_none a
  |bl b=>cases rx;exact SeqAt.EqAt.bool_bool a b
  |int b=>obtain⟨t,rfl⟩:=rx;exact SeqAt.EqAt.bool_int a b t
  |str b=>obtain⟨t,rfl⟩:=rx;exact SeqAt.EqAt.bool_str a b t
  |_=>exact absurd (show false=true from fx) Ug
 |int a =>
  obtain⟨t',rfl⟩:=ry
  cases x with
  |non=>cases rx;exact SeqAt.EqAt.int_none a t'
  |bl b=>cases rx;exact SeqAt.EqAt.int_bool a t' b
  |int b=>obtain⟨t,rfl⟩:=rx;exact WG a t' b t
  |str b=>obtain⟨t,rfl⟩:=rx;exact SeqAt.EqAt.int_str a t' b t
  |_=>exact absurd (show false=true from fx) Ug
 |str a =>
  obtain⟨t',rfl⟩:=ry
  cases x with
  |non=>cases rx;exact SeqAt.EqAt.str_none a t'
  |bl b=>cases rx;exact SeqAt.EqAt.str_bool a t' b
  |int b=>obtain⟨t,rfl⟩:=rx;exact SeqAt.EqAt.str_int a t' b t
  |str b=>obtain⟨t,rfl⟩:=rx;exact SeqAt.EqAt.str_str a t' b t
  |_=>exact absurd (show false=true from fx) Ug
 |_=>exact absurd (show false=true from fy) Ug
noncomputable def eqU(x:V)(u:Value):Bool:=match u with
 |.none=>eqV .non x
 |.bool b=>eqV (.bl b) x
 |.int i _=>eqV (.int i) x
 |.str z _=>eqV (.str z) x
 |_=>false
theorem QkH{x y:V}{u:Value}(r:RelV y u)(f:QcU y=true):eqU x u=eqV y x:=by
 cases y with
 |non=>cases r;rfl
 |bl b=>cases r;rfl
 |int i=>obtain⟨t,rfl⟩:=r;rfl
 |str z=>obtain⟨t,rfl⟩:=r;rfl
 |_=>exact absurd (show false=true from f) Ug
theorem Qfm{x:V}:∀{xs:List V}{us:List Value},Vals xs us->xs.all QcU=true->us.any (eqU x)=xs.any λy=>eqV y x
 |_,_,.nil,_=>rfl
 |y::xs,u::us,.cons r t,f=>by
  rw[Wg,UT]at f
  rw[TV,TV,QkH r f.1,Qfm t f.2]
theorem Qdu{A:Around}{s:Shared}{x:V}{v:Value}(rx:RelV x v)(fx:QcU x=true):∀{xs:List V}{us:List Value},Vals xs us->xs.all QcU=true->∀u∈us,SeqAt.EqAt A s u v (eqU x u)
 |_,_,.nil,_=>λu hu=>by cases hu
 |y::xs,u::us,.cons r t,f=>λu' hu=>by
  rw[Wg,UT]at f
  rcases UE.mp hu with rfl|hu
  ·rw[QkH r f.1];exact Qna r rx f.1 fx
  ·exact Qdu rx fx t f.2 u' hu
noncomputable def inV(x:V)(xs:List V):Bool:=xs.any λy=>eqV y x
noncomputable def rIn(K:Frag)(neg:Bool):R2:=λx y H Q=>∃p xs,y=.ref p/\(SqL K H p xs\/SqT K H p xs)/\QcU x=true/\xs.all QcU=true/\Q (.bl (if neg then !inV x xs else inV x xs)) H
theorem QhX:OpR X (compareOp .In) (rIn X.K false):=by
 intro pins s σ H x y v u Q I rx ry h
 obtain⟨p,xs,rfl,hq,fx,fs,q⟩:=h
 cases ry
 rcases hq with hq|hq
 ·obtain⟨its,r,pl,hz⟩:=I.list hq
  refine SeqAt.in_listAt (eqU x) pl.isList (λw hw=>Qdu rx fx r fs w (by simpa using hw)) ⟨.bl _,H,I,rfl,?_⟩
  rw[show its.toArray.any (eqU x)=its.any (eqU x) by simp,Qfm r fs]
  exact q
 ·obtain⟨its,r,pl,hz⟩:=I.tuple hq
  refine SeqAt.in_tupleAt (eqU x) pl (λw hw=>Qdu rx fx r fs w (by simpa using hw)) ⟨.bl _,H,I,rfl,?_⟩
  rw[show its.toArray.any (eqU x)=its.any (eqU x) by simp,Qfm r fs]
  exact q
theorem Qes:CallR X (.builtin "len") (λxs H Q=>∃p ys,xs=[.ref p]/\(SqL X.K H p ys\/SqT X.K H p ys)/\Q (.int ys.length) H):=by
 intro pins s σ H xs us Q I r h
 obtain⟨p,ys,rfl,hq,q⟩:=h
 obtain⟨u,rfl,rx⟩:=QjC r
 cases rx
 have hn:=Qc7
 rcases hq with hq|hq
 ·obtain⟨its,r',pl,hz⟩:=I.list hq
  have hlen:=r'.length
  exact Calls.call_len_list pl.isList (by simp only[Uf] <;> omega) ⟨.int ys.length,H,I.tok _,⟨s.toks+1,by rw[Uf,hlen]⟩,q⟩
 ·obtain⟨its,r',pl,hz⟩:=I.tuple hq
  have hlen:=r'.length
  exact len_tuple pl (by simp only[Uf] <;> omega) ⟨.int ys.length,H,I.tok _,⟨s.toks+1,by rw[Uf,hlen]⟩,q⟩
theorem CallR.or{f:Value}{r r':List V->Hp->VK->Prop}(h:CallR X f r)(h':CallR X f r'):CallR X f (λxs H Q=>r xs H Q\/r' xs H Q):=by
 intro pins s σ H xs us Q I rs q
 rcases q with q|q
 ·exact h pins s σ H xs us Q I rs q
 ·exact h' pins s σ H xs us Q I rs q
theorem Qet:CallR X (.type "list") (λxs H Q=>∃p ys,xs=[.ref p]/\(SqL X.K H p ys\/SqT X.K H p ys)/\∀l,H l=none->Q (.ref l) (upd H l (.lst ys))):=by
 intro pins s σ H xs us Q I r h
 obtain⟨p,ys,rfl,hq,q⟩:=h
 obtain⟨u,rfl,rx⟩:=QjC r
 cases rx
 have fin:∀(its:List Value),Vals ys its->ys.length<=sizeLine->∀(h':Heap)(c':Nat),(∀b o',s.heap.get? b=some o'->h'.get? b=some o') ->
   h'.get? s.heap.objs.size=some {cls:=.type "list",dict:=none,data:=.seq its.toArray c',slots:=#[]}->EP X pins σ Q (.ref s.heap.objs.size) {s with heap:=h'}:=λits r' hz h' c' kp e =>
  ⟨.ref s.heap.objs.size,_,I.laid (t':=s.toks) kp (Uc _) (show ObjOk X.prog X.w _ h' _ (.lst ys) from ⟨hz,its,c',r',e⟩),rfl,q _ (I.hok.fresh (Uc _))⟩
 rcases hq with hq|hq
 ·obtain⟨its,r',pl,hz⟩:=I.list hq
  have hlen:=r'.length
  obtain⟨o,ho,hc,n,hd⟩:=pl.isList
  exact call_list_seq p (.inl rfl) ho hc hd (λh' c' kp e=>fin its r' hz h' c' kp e) (by simp only[Uf] <;> omega)
 ·obtain⟨its,r',pl,hz⟩:=I.tuple hq
  have hlen:=r'.length
  obtain⟨o,ho,hc,n,hd⟩:=pl
  exact call_list_seq p (.inr rfl) ho hc hd (λh' c' kp e=>fin its r' hz h' c' kp e) (by simp only[Uf] <;> omega)
theorem Qdv:CallR X (.type "tuple") (λxs H Q=>∃p ys,xs=[.ref p]/\((SqL X.K H p ys/\∀l,H l=none->Q (.ref l) (upd H l (.tup ys)))\/(SqT X.K H p ys/\Q (.ref p) H))):=by
 intro pins s σ H xs us Q I r h
 obtain⟨p,ys,rfl,h⟩:=h
 obtain⟨u,rfl,rx⟩:=QjC r
 cases rx
 rcases h with⟨hq,q⟩|⟨hq,q⟩
 ·obtain⟨its,r',pl,hz⟩:=I.list hq
  have hlen:=r'.length
  refine call_tuple_list pl.isList (λh' kp=>?_) (by simp only[Uf] <;> omega)
  have I1:Inv X pins σ H {s with heap:=h'}:=I.kept (t':=s.toks) kp
  have I2:Inv X pins σ (upd H h'.objs.size (.tup ys)) {s with heap:=h'.push {cls:=.type "tuple",data:=.seq its.toArray} } :=
   I1.laid (t':=s.toks) (λb o e=>Ub _ e) (Uc _) (show ObjOk X.prog X.w _ _ _ (.tup ys) from ⟨hz,its,r',IsTup.new _ _⟩)
  exact⟨.ref h'.objs.size,_,I2,rfl,q _ (I1.hok.fresh (Uc _))⟩
 ·obtain⟨its,r',pl,hz⟩:=I.tuple hq
  exact call_tuple_same pl ⟨.ref p,H,I,rfl,q⟩
def tyV(K:Frag)(T:String)(x:V)(H:Hp):Prop:=match x with
 |.str _=>T = "str"
 |.int _=>T = "int"
 |.ref p=>(T = "list" /\ ∃xs,SqL K H p xs)\/(T = "tuple" /\ ∃o,K.lookup p=some o/\o.cls=.type "tuple" /\ o.dict=none) \/
   (T = "dict" /\ ((∃kvs,H p=some (.dK kvs))\/∃kvs,H p=some (.dT kvs)))\/(T = "set" /\ ∃S n,H p=some (.set S n))
 |_=>False
theorem QkI{pins:List (Addr×Obj)}{σ:St}{H:Hp}{s:Shared}{T:String}{x:V}{v:Value}(I:Inv X pins σ H s)(r:RelV x v)(ty:tyV X.K T x H):
  s.TypeIs v T/\∀a,v=.ref a->∃ob,s.heap.get? a=some ob/\ob.dict=none:=by
 cases x with
 |str z =>
  obtain⟨t,rfl⟩:=r
  cases (show T = "str" from ty)
  exact⟨typeIs_str s z t,λ_ e=>nomatch e⟩
 |int i =>
  obtain⟨t,rfl⟩:=r
  cases (show T = "int" from ty)
  exact⟨typeIs_int s i t,λ_ e=>nomatch e⟩
 |ref p =>
  cases r
  rcases ty with⟨rfl,xs,hq⟩|⟨rfl,o,hk,hc,hd⟩|⟨rfl,hk⟩|⟨rfl,S,n,hk⟩
  ·obtain⟨its,_,pl,_⟩:=I.list hq
   refine⟨pl.isList.typeIs,λa e=>?_⟩
   cases e
   obtain⟨o,n,e,c,hd,_⟩:=pl
   exact⟨o,e,hd⟩
  ·refine⟨⟨o,I.kIn p o hk,hc⟩,λa e=>?_⟩
   cases e
   exact⟨o,I.kIn _ o hk,hd⟩
  ·have z:∃o,s.heap.get? p=some o/\o.ExactDict:=by
    rcases hk with⟨kvs,hk⟩|⟨kvs,hk⟩
    ·obtain⟨_,_,_,_,o,_,_,e,ex,_⟩:=I.hok p _ hk
     exact⟨o,e,ex⟩
    ·obtain⟨_,_,_,_,o,_,_,e,ex,_⟩:=I.hok p _ hk
     exact⟨o,e,ex⟩
   obtain⟨o,e,ex⟩:=z
   refine⟨⟨o,e,ex.1⟩,λa e2=>?_⟩
   cases e2
   exact⟨o,e,ex.2.1⟩
  ·obtain⟨o,_,_,_,e,ex,_⟩:=I.hok p _ hk
   refine⟨⟨o,e,ex.1⟩,λa e2=>?_⟩
   cases e2
   exact⟨o,e,ex.2.1⟩
 |_=>exact False.elim ty
noncomputable def tBM0(K:Frag)(T:String)(r:V->List V->Hp->VK->Prop)(to:TE):TE:=λσ H Q=>to σ H λx H1=>tyV K T x H1/\r x [] H1 Q
noncomputable def tBM(K:Frag)(T:String)(r:V->List V->Hp->VK->Prop)(to:TE)(t:TA):TE:=λσ H Q=>to σ H λx H1=>tyV K T x H1/\t σ H1 λxs H2=>r x xs H2 Q
variable{o e:Expr}{es:List Expr}{to:TE}{t:TA}{name:Str}{apos cpos:Pos}{T id:String}{r:V->List V->Hp->VK->Prop}
theorem Qnb(pa:PlainAttrs T)(slot:Slot T name id)(hty:typeOf (.builtin id)=pure (.type "method_descriptor"))(hm:MtR X id r)(ho:PE X o to)(hbase:attributeBase o name X.env (eval o X.env)=eval o X.env:=by rfl)(hline:(apos.endLine == cpos.line)=true:=by rfl):PE X (.Call (.Attribute o name apos) [] [] cpos) (tBM0 X.K T r to):=by
 intro pins s σ H Q I h
 refine wpAny_Call_method0_late hbase hline (thn (ho pins s σ H _ I h) λv s1 ⟨x,H1,I1,r1,ty,q1⟩=>?_)
 obtain⟨h1,h2⟩:=QkI I1 r1 ty
 exact⟨T,id,pa,slot,hty,h1,h2,Calls.callWith_builtin rfl (PySem.evalArgs_none (hm pins s1 σ H1 x [] v [] Q I1 r1 .nil q1))⟩
theorem QjI(pa:PlainAttrs T)(slot:Slot T name id)(hty:typeOf (.builtin id)=pure (.type "method_descriptor"))(hm:MtR X id r)(ho:PE X o to)(ha:PA X (e::es) t)(hbase:attributeBase o name X.env (eval o X.env)=eval o X.env:=by rfl)(hfew:((backTo cpos (starEach (e::es) X.env)).all (λx=>!x.1) && (backToKw cpos (keywordEach [] X.env)).all (λx=>x.1.isSome)
   && decide ((e::es).length+([]:List Keyword).length+(if ([]:List Keyword).isEmpty then 0 else 1)<30))=true:=by rfl)(hline:(apos.endLine == cpos.line)=true:=by rfl)(hs:starEach (e::es) X.env=(false,eval e X.env)::starEach es X.env:=by rfl)(hplain:(backTo cpos (starEach es X.env)).any (·.1)=false:=by rfl):
  PE X (.Call (.Attribute o name apos) (e::es) [] cpos) (tBM X.K T r to t):=by
 intro pins s σ H Q I h
 refine wpAny_Call_method_late hbase hfew hline rfl (thn (ho pins s σ H _ I h) λv s1 ⟨x,H1,I1,r1,ty,q1⟩=>?_)
 obtain⟨h1,h2⟩:=QkI I1 r1 ty
 refine⟨T,id,pa,slot,hty,h1,h2,?_⟩
 have hA:=ha cpos pins s1 σ H1 _ I1 q1
 rw[hs]at hA ⊢
 refine Calls.callWith_builtin (by show(false || (backTo cpos (starEach es X.env)).any (·.1))=false;rw[hplain] <;> rfl) (Calls.evalArgs_plain ?_)
 exact thn hA λus s2 ⟨vs,H2,I2,r2,q2⟩=>hm pins s2 σ H2 x vs v us Q I2 r1 r2 q2
end
end
section
noncomputable def MtM(X:Cx)(id:String)(r:V->List V->Hp->VK->Prop):Prop :=
 ∀(pins:List (Addr×Obj))(s:Shared)(σ:St)(H:Hp)(x:V)(xs:List V)(v:Value)(us:List Value)(Q:VK),Inv X pins σ H s->RelV x v->Vals xs us->r x xs H Q ->
  wpAny (model X.prog X.w) X.A (call (.builtin id) (v::us)) (EP X pins σ Q) X.xe s
theorem Vals.one:∀{x:V}{us:List Value},Vals [x] us->∃u,us=[u]/\RelV x u
 |_,_,.cons r .nil=>⟨_,rfl,r⟩
theorem Vals.two:∀{x y:V}{us:List Value},Vals [x,y] us->∃u v,us=[u,v]/\RelV x u/\RelV y v
 |_,_,_,.cons r (.cons q .nil)=>⟨_,_,rfl,r,q⟩
theorem Vals.zero:∀{us:List Value},Vals [] us->us=[]
 |_,.nil=>rfl
theorem Vals.dropLast{xs:List V}{us:List Value}(h:Vals xs us):Vals xs.dropLast us.dropLast:=by
 induction h with
 |nil=>exact .nil
 |cons r t ih =>
  cases t with
  |nil=>exact .nil
  |cons q t'=>exact .cons r ih
theorem Vals.eraseIdx:∀{xs:List V}{us:List Value}(i:Nat),Vals xs us->Vals (xs.eraseIdx i) (us.eraseIdx i)
 |_,_,_,.nil=>.nil
 |_,_,0,.cons _ t=>t
 |_,_,i+1,.cons r t=>.cons r (Vals.eraseIdx i t)
theorem Vals.reverse{xs:List V}{us:List Value}(h:Vals xs us):Vals xs.reverse us.reverse:=by
 induction h with
 |nil=>exact .nil
 |cons r t ih=>rw[Ra,Ra];exact Vals.append ih (.cons r .nil)
theorem Vals.rep{xs:List V}{us:List Value}(h:Vals xs us):∀k:Nat,Vals (List.replicate k xs).flatten (List.replicate k us).flatten
 |0=>.nil
 |k+1=>by
  rw[U0,U0,Rb,Rb]
  exact Vals.append h (Vals.rep h k)
theorem Qg5{α:Type}(l:List α):l.eraseIdx (l.length-1)=l.dropLast:=by
 induction l with
 |nil=>rfl
 |cons a r ih =>
  cases r with
  |nil=>rfl
  |cons b r =>
   have e:(a::b::r).length-1=((b::r).length-1)+1:=by
    have h1:(a::b::r).length=r.length+2:=rfl
    have h2:(b::r).length=r.length+1:=rfl
    omega
   rw[e,W4,ih]
   all_goals rfl
theorem Qeu(its:List Value):∀(k:Nat)(acc:List Value),
  List.foldl (λx1 x2=>x1++x2) acc.toArray (List.replicate k its.toArray)=(acc++(List.replicate k its).flatten).toArray
 |0,acc=>by simp
 |k+1,acc=>by
  have e:acc.toArray++its.toArray=(acc++its).toArray:=by simp
  have e2:(acc++its)++(List.replicate k its).flatten=acc++(List.replicate (k+1) its).flatten:=by
   rw[U0,Rb,UG]
  rw[<-e2,<-Qeu its k (acc++its),<-e,U0,List.foldl_cons]
section
variable{X:Cx}{pins:List (Addr×Obj)}{σ:St}{H:Hp}{s:Shared}{l b:Addr}{xs ys zs:List V}
theorem Inv.lset{its its':List Value}{n:Nat}{f:Array Value->Array Value}{t':Nat}(I:Inv X pins σ H s)(hH:H l=some (.lst xs))(e:s.heap.get? l=some {cls:=.type "list",data:=.seq its.toArray n})(hf:f its.toArray=its'.toArray)(hv:Vals ys its')(hz:ys.length<=sizeLine):
  Inv X pins σ (upd H l (.lst ys)) {s with heap:=s.heap.update l (Obj.mapSeq f),toks:=t'}:=by
 have q:=PySem.IsL.update e f
 rw[hf]at q
 refine I.write (x:=l) (e:=l) (by rw[hH];exact trivial) (.inl rfl) (λb' u hb hu=>(U6 s.heap (Obj.mapSeq f) (Ne.symm hb)).trans hu) ⟨_,q⟩ ?_
 exact⟨hz,its',_,hv,q⟩
theorem Inv.lnew{its:List Value}{t':Nat}(I:Inv X pins σ H s)(hv:Vals ys its)(hz:ys.length<=sizeLine):
  Inv X pins σ (upd H s.heap.objs.size (.lst ys)) {s with heap:=s.heap.push {cls:=.type "list",data:=.seq its.toArray},toks:=t'} :=
 I.laid (λ_ _ q=>Ub _ q) (Uc _) ⟨hz,its,0,hv,Up _ rfl⟩
theorem Inv.fresh(I:Inv X pins σ H s):H s.heap.objs.size=none:=I.hok.fresh (Uc _)
theorem Inv.lstM(I:Inv X pins σ H s)(hH:H l=some (.lst xs)):xs.length<=sizeLine/\∃(its:List Value)(n:Nat),Vals xs its/\xs.length=its.length/\s.heap.get? l=some {cls:=.type "list",data:=.seq its.toArray n}:=by
 obtain⟨z,its,n,r,e⟩:=I.hok l _ hH
 exact⟨z,its,n,r,r.length,e⟩
theorem Qf6{n:Nat}(h:n<=sizeLine):Builtin.List.listTooLong n=false:=by
 unfold Builtin.List.listTooLong
 exact UB (by omega)
end
section
variable{X:Cx}
noncomputable def Qlw:V->List V->Hp->VK->Prop:=λx vs H Q=>∃l xs y,x=.ref l/\vs=[y]/\H l=some (.lst xs)/\xs.length<sizeLine/\Q .non (upd H l (.lst (xs++[y])))
theorem QhY:MtM X "list.append" Qlw:=by
 intro pins s σ H x vs v us Q I rx rv h
 obtain⟨l,xs,y,rfl,rfl,hH,hz,q⟩:=h
 cases rx
 obtain⟨u,rfl,ru⟩:=rv.one
 obtain⟨z,its,n,r,hl,e⟩:=I.lstM hH
 refine WN F.slot_list_append ⟨_,e,rfl⟩ F.entry_list_append (F.args_list_append_2 _ _) (PySem.list_append l its.toArray n u (by rw[Uf];omega)) ⟨e,?_⟩
 refine⟨.non,_,I.lset (its':=its++[u]) hH e (by simp) (r.append (.cons ru .nil)) ?_,rfl,q⟩
 rw[Us,Bk]
 omega
noncomputable def Qlx:V->List V->Hp->VK->Prop:=λx vs H Q=>∃l b xs zs,x=.ref l/\vs=[.ref b]/\H l=some (.lst xs)/\H b=some (.lst zs)/\xs.length+zs.length<=sizeLine/\Q .non (upd H l (.lst (xs++zs)))
theorem QhZ:MtM X "list.extend" Qlx:=by
 intro pins s σ H x vs v us Q I rx rv h
 obtain⟨l,b,xs,zs,rfl,rfl,hH,hB,hz,q⟩:=h
 cases rx
 obtain⟨u,rfl,ru⟩:=rv.one
 cases ru
 obtain⟨z,its,n,r,hl,e⟩:=I.lstM hH
 obtain⟨z2,its2,n2,r2,hl2,e2⟩:=I.lstM hB
 have hsz:its.toArray.size+its2.toArray.size<=sizeLine:=by rw[Uf,Uf];omega
 have hlong:¬(!its.toArray.isEmpty && Builtin.List.listTooLong (its.toArray.size+its2.toArray.size))=true:=by
  rw[Qf6 hsz,Bool.and_false]
  exact Ug
 refine WN F.slot_list_extend ⟨_,e,rfl⟩ F.entry_list_extend (F.args_list_extend_2 _ _)
  (AutoSeq1.list_extend_list_list_0 l its.toArray n b its2.toArray n2 hlong (by rw[Uf];omega) (by omega)) ⟨e,e2,?_⟩
 refine⟨.non,_,I.lset (its':=its++its2) hH e (by simp) (r.append r2) ?_,rfl,q⟩
 rw[Us]
 omega
noncomputable def rPop:V->List V->Hp->VK->Prop:=λx vs H Q=>∃l xs y,x=.ref l/\vs=[]/\H l=some (.lst xs)/\xs[xs.length-1]?=some y/\Q y (upd H l (.lst xs.dropLast))
theorem Qnc:MtM X "list.pop" rPop:=by
 intro pins s σ H x vs v us Q I rx rv h
 obtain⟨l,xs,y,rfl,rfl,hH,hy,q⟩:=h
 cases rx
 have hus:=rv.zero
 subst hus
 obtain⟨z,its,n,r,hl,e⟩:=I.lstM hH
 obtain⟨u,hu,ru⟩:=r.get hy
 have hy':its.toArray[its.toArray.size-1]?=some u:=by
  show its.toArray[its.length-1]?=some u
  rw[<-T4,<-hl]
  exact hu
 refine WN F.slot_list_pop ⟨_,e,rfl⟩ F.entry_list_pop (F.args_list_pop_1 _) (MeetsSeq.list_pop_last l its.toArray n u hy' (by rw[Uf];omega)) ⟨e,?_⟩
 refine⟨y,_,I.lset (its':=its.dropLast) hH e ?_ r.dropLast ?_,ru,q⟩
 ·show its.toArray.eraseIdxIfInBounds (its.toArray.size-1)=its.dropLast.toArray
  rw[Uf,List.eraseIdxIfInBounds_toArray,Qg5]
 ·rw[List.length_dropLast]
  omega
noncomputable def rCat:R2:=λx y H Q=>∃l b xs zs,x=.ref l/\y=.ref b/\H l=some (.lst xs)/\H b=some (.lst zs)/\xs.length+zs.length<=sizeLine/\∀p,H p=none->Q (.ref p) (upd H p (.lst (xs++zs)))
theorem Qnd:OpR X (binaryOp .Add) rCat:=by
 intro pins s σ H x y v u Q I rx ry h
 obtain⟨l,b,xs,zs,rfl,rfl,hH,hB,hz,q⟩:=h
 cases rx
 cases ry
 obtain⟨z,its,n,r,hl,e⟩:=I.lstM hH
 obtain⟨z2,its2,n2,r2,hl2,e2⟩:=I.lstM hB
 refine PySem.P.add_list e e2 ?_ (by rw[Uf,Uf];omega)
 have ea:its.toArray++its2.toArray=(its++its2).toArray:=by simp
 rw[ea]
 exact⟨.ref _,_,I.lnew (t':=s.toks) (r.append r2) (by rw[Us];omega),rfl,q _ I.fresh⟩
noncomputable def rRep:R2:=λx y H Q=>∃l k xs,x=.ref l/\y=.int k/\H l=some (.lst xs) /\ -(2^63)<=k/\k<2^63/\xs.length*k.toNat<=sizeLine /\
 ∀p,H p=none->Q (.ref p) (upd H p (.lst (List.replicate k.toNat xs).flatten))
theorem Qly{α:Type}(xs:List α)(k:Nat):(List.replicate k xs).flatten.length=k*xs.length:=by
 induction k with
 |zero=>simp
 |succ k ih=>rw[U0,Rb,Us,ih,Nat.succ_mul,Nat.add_comm]
theorem Qne:OpR X (binaryOp .Mult) rRep:=by
 intro pins s σ H x y v u Q I rx ry h
 obtain⟨l,k,xs,rfl,rfl,hH,h1,h2,hz,q⟩:=h
 cases rx
 obtain⟨t,rfl⟩:=ry
 obtain⟨z,its,n,r,hl,e⟩:=I.lstM hH
 have hlen:its.toArray.size*k.toNat<=sizeLine:=by rw[Uf,<-hl];exact hz
 have hcap:¬its.toArray.size*k.toNat > (2^63-1) / 8:=by
  have:(sizeLine:Nat)<=(2^63-1) / 8:=by decide
  omega
 have hfit:¬(!Builtin.List.listFitsIndex k)=true:=by
  rw[fitsIndex_both h1 h2]
  exact Ug
 have hlong:¬Builtin.List.listTooLong (its.toArray.size*k.toNat)=true:=by
  rw[Qf6 hlen]
  exact Ug
 have hnew:List.foldl (λx1 x2=>x1++x2) #[] (List.replicate (if its.toArray.isEmpty=true then 0 else k.toNat) its.toArray)=(List.replicate k.toNat its).flatten.toArray:=by
  have f0:∀m:Nat,List.foldl (λx1 x2=>x1++x2) #[] (List.replicate m its.toArray)=(List.replicate m its).flatten.toArray:=λm=>by
   have:=Qeu its m []
   rw[RD]at this
   exact this
  rw[f0]
  cases its with
  |nil=>simp
  |cons a r'=>rw[Ue (by simp)]
 refine wpAny_binaryOp_repeat_ref (T:="list") (U:="int") (by decide) ⟨_,e,rfl⟩ (λs'=>typeIs_int s' k t) noFill_list_mul F.fills_int_mul F.slot_int_rmul repeat_list F.slot_int_index.lookup
  (WN F.slot_int_rmul (typeIs_int s k t) F.entry_int_rmul (F.args_int_rmul_2 _ _) (int___rmul___int_list k t l its.toArray n)
   ⟨e,rfl,⟨_,e,rfl⟩,WN F.slot_list_mul ⟨_,e,rfl⟩ F.entry_list_mul (F.args_list_mul_2 _ _) (AutoListH.list___mul___list_int_3 l its.toArray n k t hfit hcap hlong) ⟨e,?_⟩⟩)
 rw[hnew]
 exact⟨.ref _,_,I.lnew (t':=s.toks) (r.rep k.toNat) (by rw[Qly,Nat.mul_comm];exact hz),rfl,q _ I.fresh⟩
end
section
variable{prog:Program}{w:World}{A:Around}{E:Value->Shared->Prop}{s:Shared}
end
section
variable{X:Cx}
end
end
end L2
namespace Att
open PySem PySem.W PySem.Calls PyProof.Rows
theorem Qca{P:Params}{h:Heap}:∀(ns:List Int)(vs:List Value),WellAll P h vs (ns.map WData.int)->IntsAre vs ns:=by
 intro ns
 induction ns with
 |nil =>
  intro vs w
  rw[List.map_nil]at w
  cases w
  exact .nil
 |cons n ns ih =>
  intro vs w
  rw[UI]at w
  cases w with
  |cons a b =>
   cases a
   exact .cons _ _ (ih _ b)
theorem Qh0{l:OpenLaw}{n:Nat}(hn:l.most=some n){P:Params}{h:Heap}{args:List WData}{vals:List Value}(hpre:l.row.toRowW.claim.pre args=true)(hwl:WellAll P h vals args):
  ∃a vs ns,vals=[Value.ref a]/\args=[WData.list (ns.map WData.int)]/\h.get? a=some {cls:=.type "list",data:=.seq vs.toArray}/\IntsAre vs ns/\ns.length<=n:=by
 have hsh:WShape.hasAll [] args [.list .int]=true:=(pre_splitW hpre).1
 have hc:l.pre.holds [] {args:=args}=true:=(pre_splitW hpre).2
 obtain⟨d,r,rfl,h1,h2⟩:=hasAllW_cons hsh
 obtain rfl:=hasAllW_nil h2
 obtain⟨xs,rfl,h3⟩:=hasW_list h1
 obtain⟨ns,rfl⟩:=items_int h3
 have hlen:ns.length<=n:=by
  unfold OpenLaw.pre at hc
  have h4:(WTm.not (.lt (.lit (.int (n:Int))) (.len (.arg 0)))).holds [] {args:=[.list (ns.map .int)]}=true:=by
   have h4:=(holds_andW hc).1
   rw[hn]at h4
   exact h4
  have h5:=condW_of h4 (w_not (w_lt w_lit (w_len_list (w_arg rfl))))
  rw[Ur]at h5
  refine Wc λq=>?_
  have q':(n:Int)<((ns.length:Nat):Int):=by omega
  first
   | (rw[UC q']at h5;exact absurd h5 (by decide))
   | (simp at h5;omega)
 cases hwl with
 |cons w1 w2 =>
  cases w2
  cases w1 with
  |list ho hall=>exact⟨_,_,ns,rfl,rfl,ho,Qca ns _ hall,hlen⟩
theorem Qh1(l:OpenLaw)(args:List WData):l.row.toRowW.claim.post args (.bool true) args=true :=
 postW_of (r:=l.row.toRowW) (X:=(true == true))
  (show WShape.has [] (.bool true) .bool=true by first|rfl|decide|simp[WShape.has,WShape.arms,WShape.armsAll])
  (show(WTm.eq .res (.lit (.bool true))).value [] {args:=args,res:=some (.bool true),after:=args}=some (.bool (true == true)) from w_eq_bool (w_res rfl) w_lit) rfl
theorem attach_call{l:OpenLaw}{n:Nat}{q:Program}{loose:List Str}{XP:(Str->Option Value)->Heap->Prop}{YP:World->Heap->Prop}{d:DefRec}(hn:l.most=some n)(hdf:d.params.defaults=[])(call:∀(w:World) (s₀ s₁:Shared) (mg mb:Str->Option Value) (fa:Addr) (o:Obj) (pm cd doc:Value) (a:Addr) (vs:List Value) (ns:List Int),
   Ground q loose [] XP w s₀ mg mb s₁.heap->YP w s₁.heap ->
   s₁.heap.get? fa=some o->o.data=.func (docDef d.name d.params d.body d.scope pm cd doc)->s₁.heap.CodeRec cd d.name->mg d.name=some (.ref fa) ->
   s₁.heap.get? a=some {cls:=.type "list",data:=.seq vs.toArray}->IntsAre vs ns->ns.length<=n->s₁.gens = #[] ->
   codeAny (model l.prog w) callerA (.call (.ref fa) ⟨[.ref a],[]⟩) (λr s'=>r=.ok (.ret (.bool true))/\OldK s₁.heap s'.heap/\s'.os=s₁.os/\AllBare s'.gens) s₁):
  WalkO q loose XP YP l.row.toRowW d [] (λf vs=>PySem.call f vs):=by
 intro w s₀ s₁ mg mb G Y fa o pm cd doc dV kV ho hd hcd hD hmg hg args vals as hpre hlay hrd hwl hlo
 obtain rfl:dV=.none:=Dflts.none hD hdf
 obtain rfl:kV=.none:=Dflts.noKw hD
 obtain⟨a,vs,ns,rfl,rfl,hobj,hints,hlen⟩:=Qh0 hn hpre hwl
 refine enter_call (Wy (call w s₀ s₁ mg mb fa o pm cd doc a vs ns G Y ho (fd_plain hd) hcd hmg hobj hints hlen hg) λr s' hq=>?_)
 obtain⟨rfl,h2,h3,h4⟩:=hq
 exact⟨.inl ⟨.bool true,.bool true,[],rfl,λ_=>rfl,.bool true,Qh1 l _,λ_=>⟨List.Pairwise.nil,λ_ hm=>(nomatch hm)⟩⟩,h2,h3,h4⟩
section
variable{prog:Program}{w:World}{A:Around}{E:Value->Shared->Prop}{s:Shared}{K:Frag}
end
end Att
namespace L2
open PySem PySem.Spec PyProof.Rows
section
theorem Qev:∀{vs:List Value}{ns:List Int},IntsAre vs ns->Vals (ns.map V.int) vs
 |_,_,.nil=>.nil
 |_,_,.cons n t h=>.cons ⟨t,rfl⟩ (Qev h)
def Only(H:Hp):Prop:=∀b,H b=none\/∃o xs,H b=some (.frz o (.lst xs))
theorem QjJ{P:Program}{w:World}{K:Frag}{mg mb:Str->Option Value}{CX:CXT}{k:Nat}{fa a:Addr}{fd:FuncData}{x:Str}{sp:Sp}{s₁:Shared}{vs:List Value}{ns:List Int}(KX:K.In s₁.heap)(hns:s₁.heap.Ns mainGlobals mg)(hb:s₁.heap.Ns builtinsNs mb)(hbb:∀x:Str,x ≠ "__name__" -> mb x=bootBuiltins x)(hlim:s₁.heap.NoLimit)(hg:s₁.gens = #[])(ha:s₁.heap.get? a=some {cls:=.type "list",data:=.seq vs.toArray})(hi:IntsAre vs ns)(hl:ns.length<=sizeLine)(hr:Room k callerA)(F:∀base:Heap,K.In base->base.Ns mainGlobals mg->FnOk P w K mg base CX k fa fd [x] sp)(hbind:∀(s:Shared) (u:Value),BindsTo s fd ⟨[u],[]⟩ [(x,u)])(hsp:∀H:Hp,Only H->SqL K H a (ns.map V.int)->sp [.ref a] H (λv _=>v=.bl true) λ_ _ _=>False)(hCX:∀H e s',CX [] H s₁ (λ_ _ _=>False) e s'->False):
  codeAny (model P w) callerA (.call (.ref fa) ⟨[.ref a],[]⟩) (λr s'=>r=.ok (.ret (.bool true))/\OldK s₁.heap s'.heap/\s'.os=s₁.os/\AllBare s'.gens) s₁:=by
 have rv:=Qev hi
 have lenV:=hi.length
 -- from an abstract heap in which nothing but the script may be tracked
 have core:∀H:Hp,Only H->SqL K H a (ns.map V.int)->HOk P w H s₁.heap->(∀b,H b≠none->b=a)->(H a≠none->K.lookup a=none) ->
   codeAny (model P w) callerA (.call (.ref fa) ⟨[.ref a],[]⟩) (λr s'=>r=.ok (.ret (.bool true))/\OldK s₁.heap s'.heap/\s'.os=s₁.os/\AllBare s'.gens) s₁:=by
  intro H hO hS hok hA hK
  have base_of:∀{b:Addr}{o:Obj},s₁.heap.get? b=some o->H b=none->(hidT s₁.heap H).get? b=some o:=λe n=>Qjt e n
  have noA:∀{b:Addr}{o:Obj}{es:Array DictEntry}{ep:Nat},s₁.heap.get? b=some o->o.data=.dict es ep->H b=none:=λ{b o es ep} e d=>by
   cases q:H b with
   |none=>rfl
   |some u =>
    have e':b=a:=hA b (by rw[q];simp)
    subst e'
    rw[ha]at e;cases e
    have d':Data.seq vs.toArray _=Data.dict es ep:=d
    cases d'
  have nsK:∀{b:Addr}{m:Str->Option Value},s₁.heap.Ns b m->(hidT s₁.heap H).Ns b m:=λ{b m} ⟨o,es,ep,e,d,r⟩=>⟨o,es,ep,base_of e (noA e d),d,r⟩
  have hKb:K.In (hidT s₁.heap H):=λb o e=>base_of (KX b o e) (by
   cases q:H b with
   |none=>rfl
   |some u =>
    have e':b=a:=hA b (by rw[q];simp)
    subst e'
    rw[hK (by rw[q];simp)]at e;cases e)
  have hM:Mod K mg (hidT s₁.heap H):=⟨hKb,nsK hns,⟨mb,nsK hb,hbb⟩,let ⟨mc,h1,h2⟩:=hlim;⟨mc,nsK h1,h2⟩⟩
  have e0:Env0 P w K mg (hidT s₁.heap H) callerA [] s₁ H:=⟨rfl,hM,λb o e=>Qk7 e,RX (QhH _ _),trivial,λb hb=>absurd (show b∈([]:List Addr) from hb) (by simp),hok,.of_eq hg⟩
  refine Wy ((F _ hKb (nsK hns)).run callerA [] s₁ H ⟨[.ref a],[]⟩ [.ref a] [.ref a] _ _ hr e0 (hbind s₁ (.ref a)) (.cons rfl .nil) (hsp H hO hS)) λr s' h=>?_
  cases r with
  |error e=>exact(hCX H e s' h).elim
  |ok fl =>
   cases fl with
   |next=>exact False.elim h
   |brk=>exact False.elim h
   |cont=>exact False.elim h
   |ret u =>
    obtain⟨v,H',os,bare,un,hok',r',q⟩:=h
    have q':v=.bl true:=q
    subst q'
    obtain rfl:u=Value.bool true:=r'
    refine⟨rfl,OldK.of_keep λb o e=>?_,os,bare⟩
    cases q:H b with
    |none=>exact un.keep b o e q (by intro z;exact absurd (show b∈([]:List Addr) from z) (by simp)) (by simp)
    |some u =>
     rcases hO b with z|⟨ob,xs,z⟩
     ·rw[q]at z;cases z
     ·have z2:=un.frzs b ob _ z
      obtain⟨e1,_⟩:=hok b _ z
      obtain⟨e2,_⟩:=hok' b _ z2
      rw[e]at e1;cases e1
      exact e2
 cases hk:K.lookup a with
 |some o =>
  -- the script is one of the module's own objects
  have e:=KX a o hk
  rw[ha]at e
  cases e
  refine core (λ_=>none) (λ_=>.inl rfl) (.inr ⟨_,vs.toArray,_,hk,rfl,rfl,rfl,by rw[Uf,lenV];exact hl,by simpa using rv⟩) (λb u z=>by have z':(none:Option HO)=some u:=z;cases z') (λb z=>absurd rfl z) λz=>absurd rfl z
 |none =>
  refine core (λb=>if b=a then some (.frz {cls:=.type "list",data:=.seq vs.toArray} (.lst (ns.map V.int))) else none) (λb=>?_) (.inl (.inr ⟨{cls:=.type "list",data:=.seq vs.toArray},Ud rfl⟩)) (λb u z=>?_) (λb z=>?_) λ_=>hk
  ·by_cases hb:b=a
   ·exact .inr ⟨_,_,Ud hb⟩
   ·exact .inl (Ue hb)
  ·by_cases hb:b=a
   ·have z':=(Ud hb).symm.trans z
    cases z'
    subst hb
    exact⟨ha,by rw[Ur];exact hl,vs,_,rv,ha⟩
   ·have z':=(Ue hb).symm.trans z
    cases z'
  ·by_cases hb:b=a
   ·exact hb
   ·exact absurd (Ue hb) z
end
section
theorem walk_of{l:PySem.W.OpenLaw}{n k:Nat}{q:Program}{loose:List Str}{XP:(Str->Option Value)->Heap->Prop}{YP:World->Heap->Prop}{d:DefRec}{K:Params->Frag}{CX:World->CXT}{sp:World->Sp}{x:Str}(hn:l.most=some n)(hn2:n<=sizeLine)(hdf:d.params.defaults=[])(hr:Room k callerA)(hY:∀(w:World) (h:Heap),YP w h->(K w.params).In h)(F:∀(w:World) (mg:Str->Option Value) (fa:Addr) (h:Heap),(K w.params).In h->h.Ns mainGlobals mg->mg d.name=some (.ref fa) ->
   ∃fd:FuncData,(∀(s:Shared) (u:Value),BindsTo s fd ⟨[u],[]⟩ [(x,u)]) /\
    ∀base:Heap,(K w.params).In base->base.Ns mainGlobals mg->FnOk l.prog w (K w.params) mg base (CX w) k fa fd [x] (sp w))(hsp:∀(w:World) (H:Hp) (a:Addr) (ns:List Int),ns.length<=n->Only H->SqL (K w.params) H a (ns.map V.int)->sp w [.ref a] H (λv _=>v=.bl true) λ_ _ _=>False)(hCX:∀(w:World) (H:Hp) (s:Shared) (e:Value) (s':Shared),CX w [] H s (λ_ _ _=>False) e s'->False):
  PySem.W.WalkO q loose XP YP l.row.toRowW d [] (λf vs=>PySem.call f vs):=by
 refine Att.attach_call hn hdf λw s₀ s₁ mg mb fa o pm cd doc a vs ns G Y ho hd hcd hmg hobj hints hlen hg=>?_
 have KX:=hY w _ Y
 obtain⟨fd,hb,hF⟩:=F w mg fa _ KX G.T.g hmg
 exact QjJ KX G.T.g G.T.b G.T.builtins G.T.nolimit hg hobj hints (Ut hlen hn2) hr hF hb (λH hO hS=>hsp w H a ns hlen hO hS) λH e s'=>hCX w H s₁ e s'
end
section
noncomputable def Qcb(s:Stmt)(j:Nat):Stmt:=match s with
 |.ClassDef _ _ _ body _ _ _ _ _ _ _=>body.getD j (.Pass ⟨0,0,0,0⟩)
 |_=>.Pass ⟨0,0,0,0⟩
noncomputable def Zg(s:Stmt):Arguments:=match s with
 |.FunctionDef _ a _ _ _ _ _ _ _ _=>a
 |_=>{posonlyargs:=[],args:=[],vararg:=none,kwonlyargs:=[],kw_defaults:=[],kwarg:=none,defaults:=[]}
noncomputable def QQ(s:Stmt):List Stmt:=match s with
 |.FunctionDef _ _ b _ _ _ _ _ _ _=>b
 |_=>[]
noncomputable def Qf(s:Stmt):Scope:=match s with
 |.FunctionDef _ _ _ _ _ _ sc _ _ _=>sc
 |_=>{kind:=.function,names:=[],isGenerator:=false,isCoroutine:=false}
noncomputable abbrev CX0:CXT:=λ_ _ _ _ _ _=>False
structure Fun(K:Frag)(x qual:Str)(st:Stmt)(f:Addr)(fd:FuncData):Prop where
 ex:∃(oc:Value)(od:Option Addr)(kV doc pm:Value)(an:Option Addr)(cdv ct:Value)(osl:Array (Option Value)),
  fd=fnOf x qual (Zg st) (QQ st) (Qf st) .none kV doc pm an cdv ct/\K.lookup f=some ⟨oc,od,.func fd,osl⟩/\codeIn K cdv qual=true
 kp:keepIn K (.ref f)=true
section
variable{P:Program}{w:World}{K:Frag}{mg:Str->Option Value}{base:Heap}
theorem Fun.ok{x qual:Str}{st:Stmt}{f:Addr}{fd:FuncData}{N ps:List Str}{k:Nat}{sp:Sp}(F:Fun K x qual st f fd)(S:FnScope N ps (Qf st))(len:∀vs H Q E,sp vs H Q E->vs.length=ps.length)(hbody:∀(cdv:Value) (A:Around) (outer:List Env) (s:Shared) (H:Hp) (vs:List V) (Q:VK) (E:XK),Room k (A.deeper (envOfC qual (Qf st) s.heap.objs.size f cdv))->sp vs H Q E ->
   ∃t,PSs (cxOf CX0 P w K mg base N qual (Qf st) f cdv A outer s H E).nox (QQ st) t/\t {nx:=λ_ H'=>Q .non H',rt:=Q} (start N vs) H):FnOk P w K mg base CX0 (k+1) f fd ps sp:=by
 obtain⟨oc,od,kV,doc,pm,an,cdv,ct,osl,rfl,lk,hcd⟩:=F.ex
 refine Qlq lk hcd S len λA outer s H vs Q E hr hsp=>?_
 obtain⟨t,h,q⟩:=hbody cdv A outer s H vs Q E hr hsp
 exact⟨t,h.nox,q⟩
theorem Fun.binds{x qual:Str}{st:Stmt}{f:Addr}{fd:FuncData}{ps:List Str}(F:Fun K x qual st f fd)(h:∀(kV doc pm:Value) (an:Option Addr) (cdv ct:Value) (us:List Value),us.length=ps.length->bindArgs (fnOf x qual (Zg st) (QQ st) (Qf st) .none kV doc pm an cdv ct) ⟨us,[]⟩=pure (ps.zip us)):Binds K fd ps []:=by
 obtain⟨oc,od,kV,doc,pm,an,cdv,ct,osl,rfl,lk,hcd⟩:=F.ex
 exact .all (h kV doc pm an cdv ct)
theorem Qda{x qual:Str}{st:Stmt}{f:Addr}{oc:Value}{od an:Option Addr}{osl:Array (Option Value)}{kV doc pm cdv ct:Value}(l:K.lookup f=some ⟨oc,od,.func (fnOf x qual (Zg st) (QQ st) (Qf st) .none kV doc pm an cdv ct),osl⟩)(c:codeIn K cdv qual=true)(k:keepIn K (.ref f)=true):Fun K x qual st f (fnOf x qual (Zg st) (QQ st) (Qf st) .none kV doc pm an cdv ct):=⟨⟨oc,od,kV,doc,pm,an,cdv,ct,osl,rfl,l,c⟩,k⟩
end
section
variable{X:Cx}
end
def Same(H H':Hp):Prop:=∀b o,H b=some o->H' b=some o
theorem Same.refl(H:Hp):Same H H:=λ_ _ h=>h
theorem Same.trans{H H1 H2:Hp}(a:Same H H1)(b:Same H1 H2):Same H H2:=λc o h=>b c o (a c o h)
theorem Same.free{H H':Hp}(e:Same H H'){l:Addr}(h:H' l=Option.none):H l=Option.none:=by
 cases q:H l with
 |none=>rfl
 |some o =>
  rw[e l o q]at h
  cases h
theorem Same.seq{K:Frag}{H H':Hp}{a:Addr}{xs:List V}(e:Same H H')(h:SqL K H a xs):SqL K H' a xs:=by
 rcases h with(h|⟨o,h⟩)|h
 ·exact .inl (.inl (e _ _ h))
 ·exact .inl (.inr ⟨o,e _ _ h⟩)
 ·exact .inr h
end
end L2
set_option maxHeartbeats 4000000
namespace L3
open PySem
noncomputable abbrev Xc:=Nat×Option Nat
inductive D where
 |non|bl (b:Bool)|int (i:Int)|str (s:Str)|ref (n:Nat)|tup (ds:List D)|fl (ds:List D)
inductive GO where
 |lst (ds:List D)|ins (c:Nat) (fs:List (Str×D))|dct (kvs:List (Sum Int Str×D))|exc (x:Xc)
noncomputable abbrev G:=List GO
noncomputable abbrev S3:=List (Option D)
inductive Res(α:Type) where
 |ok (a:α) (g:G)|raise (x:Xc) (g:G)|stuck
noncomputable def Res.bind{α β:Type}:Res α->(α->G->Res β)->Res β
 |.ok a g,k=>k a g
 |.raise e g,_=>.raise e g
 |.stuck,_=>.stuck
inductive Out where
 |nx (σ:S3) (g:G)|rt (d:D) (g:G)|bk (σ:S3) (g:G)|ct (σ:S3) (g:G)|raise (x:Xc) (σ:S3) (g:G)|stuck
noncomputable abbrev ME:=S3->G->Res D
noncomputable abbrev MT:=S3->G->Res Bool
noncomputable abbrev MA:=S3->G->Res (List D)
noncomputable abbrev MS:=S3->G->Out
noncomputable abbrev MF:=List D->G->Res D
theorem Res.bind_ok{α β:Type}(a:α)(g:G)(k:α->G->Res β):(Res.ok a g).bind k=k a g:=rfl
noncomputable def SZ:Nat:=1000000
noncomputable def mVar(i:Nat):ME:=λσ g=>match σ[i]? with
 |some (some d)=>.ok d g
 |_=>.stuck
noncomputable def mLit(d:D):ME:=λ_ g=>.ok d g
noncomputable def mOp1(f:D->G->Res D)(a:ME):ME:=λσ g=>(a σ g).bind f
noncomputable def mOp2(f:D->D->G->Res D)(a b:ME):ME:=λσ g=>(a σ g).bind λx g1=>(b σ g1).bind λy g2=>f x y g2
noncomputable def mNil:MA:=λ_ g=>.ok [] g
noncomputable def Qb(a:ME)(r:MA):MA:=λσ g=>(a σ g).bind λx g1=>(r σ g1).bind λxs g2=>.ok (x::xs) g2
noncomputable def mOpA(f:List D->G->Res D)(a:MA):ME:=λσ g=>(a σ g).bind f
noncomputable def Qk(a:ME):MT:=λσ g=>(a σ g).bind λd g1=>match d with
 |.bl b=>.ok b g1
 |_=>.stuck
noncomputable def JI(a:MT):MT:=λσ g=>(a σ g).bind λb g1=>.ok (!b) g1
noncomputable def Qat(a b:MT):MT:=λσ g=>(a σ g).bind λc g1=>if c=true then b σ g1 else .ok false g1
noncomputable def mOrT(a b:MT):MT:=λσ g=>(a σ g).bind λc g1=>if c=true then .ok true g1 else b σ g1
noncomputable def mNot(a:ME):ME:=λσ g=>(a σ g).bind λd g1=>match d with
 |.bl b=>.ok (.bl (!b)) g1
 |_=>.stuck
noncomputable def mAnd(a b:ME):ME:=λσ g=>(a σ g).bind λd g1=>match d with
 |.bl c=>if c=true then b σ g1 else .ok (.bl false) g1
 |_=>.stuck
noncomputable def mIfE(c:MT)(a b:ME):ME:=λσ g=>(c σ g).bind λt g1=>if t=true then a σ g1 else b σ g1
noncomputable def JJ(f f':D->D->G->Res D)(a b c:ME):ME:=λσ g=>(a σ g).bind λx g1=>(b σ g1).bind λy g2=>(f x y g2).bind λz g3=>match z with
 |.bl true=>(c σ g3).bind λw g4=>f' y w g4
 |.bl false=>.ok (.bl false) g3
 |_=>.stuck
noncomputable def QN:MS:=λσ g=>.nx σ g
noncomputable def mSeq(a b:MS):MS:=λσ g=>match a σ g with
 |.nx σ' g'=>b σ' g'
 |o=>o
noncomputable def Zq(a:ME):MS:=λσ g=>match a σ g with
 |.ok _ g'=>.nx σ g'
 |.raise e g'=>.raise e σ g'
 |.stuck=>.stuck
noncomputable def mRet(a:ME):MS:=λσ g=>match a σ g with
 |.ok d g'=>.rt d g'
 |.raise e g'=>.raise e σ g'
 |.stuck=>.stuck
noncomputable def Qlz:MS:=λ_ g=>.rt .non g
noncomputable def mIf(c:MT)(a b:MS):MS:=λσ g=>match c σ g with
 |.ok t g'=>if t=true then a σ g' else b σ g'
 |.raise e g'=>.raise e σ g'
 |.stuck=>.stuck
noncomputable def YM:MS:=λ_ _=>.stuck
noncomputable def Qf7(c:Nat)(a:MA):MS:=λσ g=>match a σ g with
 |.ok ds g'=>if ds.length<=SZ then .raise (c,none) σ g' else .stuck
 |.raise e g'=>.raise e σ g'
 |.stuck=>.stuck
structure MH where
 cs:List Nat
 no:List Nat
 nm:Option Nat
 suite:MS
noncomputable def Qnf(i:Nat):Out->Out
 |.nx σ g=>.nx (σ.set i none) g
 |.rt d g=>.rt d g
 |_=>.stuck
noncomputable def runH:List MH->Xc->S3->G->Out
 |[],x,σ,g=>.raise x σ g
 |h::r,x,σ,g=>if x.1∈h.cs then (match h.nm with
  |none=>(match h.suite σ g with
   |.nx σ' g'=>.nx σ' g'
   |.rt d g'=>.rt d g'
   |_=>.stuck)
  |some i=>Qnf i (h.suite (σ.set i (some (.ref g.length))) (g++[.exc x]))) else if x.1∈h.no then runH r x σ g else .stuck
noncomputable def mTry(b:MS)(hs:List MH):MS:=λσ g=>match b σ g with
 |.raise x σ' g'=>runH hs x σ' g'
 |o=>o
noncomputable abbrev MG:=D->S3->Option S3
noncomputable def gSet(i:Nat):MG:=λd σ=>some (σ.set i (some d))
noncomputable def Qew:List MG->List D->S3->Option S3
 |[],[],σ=>some σ
 |t::ts,d::ds,σ=>(t d σ).bind λσ'=>Qew ts ds σ'
 |_,_,_=>none
noncomputable def Yh(ts:List MG):MG:=λd σ=>match d with
 |.tup ds=>Qew ts ds σ
 |_=>none
noncomputable def mAsg(t:MG)(a:ME):MS:=λσ g=>match a σ g with
 |.ok d g'=>(match t d σ with
  |some σ'=>.nx σ' g'
  |none=>.stuck)
 |.raise e g'=>.raise e σ g'
 |.stuck=>.stuck
structure Src where
 at':G->Nat->Option (Option D)
 top:Nat
noncomputable abbrev MI:=S3->G->Res Src
noncomputable def forL(src:Src)(t:MG)(body:MS):Nat->Nat->S3->G->Out
 |0,_,_,_=>.stuck
 |f+1,i,σ,g=>match src.at' g i with
  |some (some d)=>(match t d σ with
   |some σ1=>(match body σ1 g with
    |.nx σ2 g2=>forL src t body f (i+1) σ2 g2
    |.ct σ2 g2=>forL src t body f (i+1) σ2 g2
    |.bk σ2 g2=>.nx σ2 g2
    |o=>o)
   |none=>.stuck)
  |some none=>.nx σ g
  |none=>.stuck
noncomputable def mFor(it:MI)(t:MG)(body:MS):MS:=λσ g=>match it σ g with
 |.ok src g'=>forL src t body (src.top+1) 0 σ g'
 |.raise e g'=>.raise e σ g'
 |.stuck=>.stuck
noncomputable def Zv(c:MT)(body:MS):Nat->S3->G->Out
 |0,_,_=>.stuck
 |f+1,σ,g=>match c σ g with
  |.ok true g1=>(match body σ g1 with
   |.nx σ2 g2=>Zv c body f σ2 g2
   |.ct σ2 g2=>Zv c body f σ2 g2
   |.bk σ2 g2=>.nx σ2 g2
   |o=>o)
  |.ok false g1=>.nx σ g1
  |.raise e g1=>.raise e σ g1
  |.stuck=>.stuck
open Classical in
noncomputable def Qcc(c:MT)(body:MS):MS:=λσ g=>if h:∃f,Zv c body f σ g≠.stuck then Zv c body h.choose σ g else .stuck
noncomputable def Jc(src:Src)(t:MG)(c:MT)(e:ME):Nat->Nat->S3->G->List D->Res (List D)
 |0,_,_,_,_=>.stuck
 |f+1,i,σ,g,acc=>match src.at' g i with
  |some (some d)=>(match t d σ with
   |some σ1=>(match c σ1 g with
    |.ok b g1=>if b=true then (match e σ1 g1 with
     |.ok y g2=>Jc src t c e f (i+1) σ1 g2 (acc++[y])
     |_=>.stuck) else Jc src t c e f (i+1) σ1 g1 acc
    |_=>.stuck)
   |none=>.stuck)
  |some none=>.ok acc g
  |none=>.stuck
noncomputable def capt(n:Nat)(cap:List Nat)(σ:S3):S3:=List.replicate n none++cap.map λi=>(σ[i]?).getD none
noncomputable def newL(ds:List D)(g:G):Res D:=if ds.length<=SZ then .ok (.ref g.length) (g++[.lst ds]) else .stuck
noncomputable def pTup(xs:List D)(g:G):Res D:=if xs.length<=SZ then .ok (.tup xs) g else .stuck
noncomputable def YI(it:MI)(n:Nat)(cap:List Nat)(t:MG)(c:MT)(e:ME):ME:=λσ g=>match it σ g with
 |.ok src g1=>if src.top<=SZ then (match Jc src t c e (src.top+1) 0 (capt n cap σ) g1 []with
  |.ok ds g2=>.ok (.ref g2.length) (g2++[.lst ds])
  |_=>.stuck) else .stuck
 |_=>.stuck
noncomputable def YJ:MT:=λ_ g=>.ok true g
noncomputable def mDef(k n:Nat)(body:MS):MF:=λds g=>if ds.length=k then (match body (ds.map some++List.replicate n none) g with
 |.nx _ g'=>.ok .non g'
 |.rt d g'=>.ok d g'
 |.raise e _ g'=>.raise e g'
 |_=>.stuck) else .stuck
noncomputable def Qn(f:MF)(a:MA):ME:=λσ g=>(a σ g).bind f
noncomputable def QcV(cc:Nat)(m:Str)(f:MF)(o:ME)(a:MA):ME:=λσ g=>(o σ g).bind λx g1=>match x with
 |.ref n=>(match g1[n]? with
  |some (.ins c fs)=>if c=cc/\fs.lookup m=none then (a σ g1).bind λxs g2=>f (.ref n::xs) g2 else .stuck
  |_=>.stuck)
 |_=>.stuck
noncomputable def Qdw(c:Nat)(f:MF)(a:MA):ME:=λσ g=>(a σ g).bind λxs g1=>(f (.ref g1.length::xs) (g1++[.ins c []])).bind λd g2=>match d with
 |.non=>.ok (.ref g1.length) g2
 |_=>.stuck
noncomputable def ZU(cs:List Nat)(f:Str)(o:ME):ME:=mOp1 (λx g=>match x with
 |.ref n=>(match g[n]? with
  |some (.ins c fs)=>if c∈cs then (match fs.lookup f with
   |some d=>.ok d g
   |none=>.stuck) else .stuck
  |_=>.stuck)
 |_=>.stuck) o
noncomputable def putG(f:Str)(v:D):List (Str×D)->List (Str×D)
 |[]=>[(f,v)]
 | (g,x)::r=>if g=f then (g,v)::r else (g,x)::putG f v r
noncomputable def QM(cs:List Nat)(f:Str)(o v:ME):MS:=λσ g=>match v σ g with
 |.ok y g1=>(match o σ g1 with
  |.ok (.ref n) g2=>(match g2[n]? with
   |some (.ins c fs)=>if c∈cs/\fs.length<100 then .nx σ (g2.set n (.ins c (putG f y fs))) else .stuck
   |_=>.stuck)
  |.raise e g'=>.raise e σ g'
  |_=>.stuck)
 |.raise e g'=>.raise e σ g'
 |.stuck=>.stuck
noncomputable def ixD(n:Nat)(i:Int):Option Nat:=if 0<=i then (if i<n then some i.toNat else none) else if -(n:Int)<=i then some (i+n).toNat else none
noncomputable def YN(o i v:ME):MS:=λσ g=>match v σ g with
 |.ok y g1=>(match o σ g1 with
  |.ok (.ref n) g2=>(match i σ g2 with
   |.ok (.int k) g3=>(match g3[n]? with
    |some (.lst ds)=>(match ixD ds.length k with
     |some j=>.nx σ (g3.set n (.lst (ds.set j y)))
     |none=>.stuck)
    |_=>.stuck)
   |.raise e g'=>.raise e σ g'
   |_=>.stuck)
  |.raise e g'=>.raise e σ g'
  |_=>.stuck)
 |.raise e g'=>.raise e σ g'
 |.stuck=>.stuck
noncomputable def Qak(d:D)(g:G):Res Src:=match d with
 |.tup ds=>.ok ⟨λ_ i=>some ds[i]?,ds.length⟩ g
 |.fl ds=>.ok ⟨λ_ i=>some ds[i]?,ds.length⟩ g
 |.ref n=>(match g[n]? with
  |some (.lst ds)=>.ok ⟨λg i=>(match g[n]? with|some (.lst es)=>some es[i]? | _=>none),ds.length⟩ g
  |_=>.stuck)
 |_=>.stuck
noncomputable def QO(a:ME):MI:=λσ g=>(a σ g).bind Qak
noncomputable def Q8(lo:Int)(n:Nat):Src:=⟨λ_ i=>some (if i<n then some (.int (lo+i)) else none),n⟩
def inR(j:Int):Prop:=-(2^62)<=j/\j<2^62
noncomputable instance (j:Int):Decidable (inR j):=inferInstanceAs (Decidable (_/\_))
noncomputable def QC(a:ME):MI:=λσ g=>(a σ g).bind λd g1=>match d with
 |.int j=>if inR j then .ok (Q8 0 j.toNat) g1 else .stuck
 |_=>.stuck
noncomputable def Qv(g:G):D->Option (Bool×List D)
 |.tup ds=>some (false,ds)
 |.fl ds=>some (true,ds)
 |.ref n=>(match g[n]? with
  |some (.lst ds)=>some (true,ds)
  |_=>none)
 |_=>none
noncomputable def Qdb(d1 d2:D)(g:G):Res Src:=match Qv g d1,Qv g d2 with
 |some (_,xs),some (_,ys)=>.ok ⟨λg i=>(match Qv g d1,Qv g d2 with
  |some (_,xs),some (_,ys)=>(match xs[i]?,ys[i]? with
   |some x,some y=>some (some (.tup [x,y]))
   |_,_=>some none)
  |_,_=>none),min xs.length ys.length⟩ g
 |_,_=>.stuck
noncomputable def Qbx(a b:ME):MI:=λσ g=>(a σ g).bind λx g1=>(b σ g1).bind λy g2=>Qdb x y g2
noncomputable def pAdd(x y:D)(g:G):Res D:=match x,y with
 |.int i,.int j=>.ok (.int (i+j)) g
 |.tup xs,.tup ys=>if xs.length+ys.length<=SZ then .ok (.tup (xs++ys)) g else .stuck
 |.ref n,.ref m=>(match g[n]?,g[m]? with
  |some (.lst xs),some (.lst ys)=>if xs.length+ys.length<=SZ then .ok (.ref g.length) (g++[.lst (xs++ys)]) else .stuck
  |_,_=>.stuck)
 |_,_=>.stuck
noncomputable def pSub(x y:D)(g:G):Res D:=match x,y with
 |.int i,.int j=>.ok (.int (i-j)) g
 |_,_=>.stuck
def cM(i:Int):Prop:=-(2^64)<i/\i<2^64
noncomputable instance (j:Int):Decidable (cM j):=inferInstanceAs (Decidable (_/\_))
noncomputable def pMul(x y:D)(g:G):Res D:=match x,y with
 |.int i,.int j=>if cM i\/cM j then .ok (.int (i*j)) g else .stuck
 |.ref n,.int k=>(match g[n]? with
  |some (.lst ds)=>if (0<=k/\k<1073741824)/\ds.length*k.toNat<=SZ then .ok (.ref g.length) (g++[.lst (List.replicate k.toNat ds).flatten]) else .stuck
  |_=>.stuck)
 |_,_=>.stuck
noncomputable def Z7(x y:D)(g:G):Res D:=match x,y with
 |.int i,.int j=>if 0<j/\j<1073741824 then .ok (.int (i/j)) g else .stuck
 |_,_=>.stuck
noncomputable def pMod(x y:D)(g:G):Res D:=match x,y with
 |.int i,.int j=>if 0<j then .ok (.int (i%j)) g else .stuck
 |_,_=>.stuck
noncomputable def pNeg(x:D)(g:G):Res D:=match x with
 |.int i=>.ok (.int (-i)) g
 |_=>.stuck
noncomputable def pCmp(r:Int->Int->Bool)(x y:D)(g:G):Res D:=match x,y with
 |.int i,.int j=>.ok (.bl (r i j)) g
 |_,_=>.stuck
noncomputable def pLt:=pCmp λi j=>decide (i<j)
noncomputable def pLe:=pCmp λi j=>decide (i<=j)
noncomputable def pGt:=pCmp λi j=>decide (j<i)
noncomputable def pGe:=pCmp λi j=>decide (j<=i)
noncomputable def b2I(b:Bool):Int:=if b then 1 else 0
noncomputable def eqGs(eq:D->D->Option Bool):List D->List D->Option Bool
 |[],[]=>some true
 |x::xs,y::ys=>(match eq x y,eqGs eq xs ys with
  |some a,some b=>some (a && b)
  |_,_=>none)
 |_,_=>some false
noncomputable def eqI:Nat->D->D->Option Bool
 |0,x,y=>(match x,y with
  |.int i,.int j=>some (i == j)
  |_,_=>none)
 |f+1,x,y=>(match x,y with
  |.int i,.int j=>some (i == j)
  |.tup xs,.tup ys=>eqGs (eqI f) xs ys
  |_,_=>none)
noncomputable def eqT(g:G)(x y:D):Option Bool:=match x,y with
 |.int i,.int j=>some (i == j)
 |.str s,.str t=>some (s == t)
 |.bl a,.bl b=>some (a == b)
 |.tup xs,.tup ys=>eqGs (eqI 2) xs ys
 |.tup _,.str _=>some false
 |.non,.int _=>some false
 |.ref n,.ref m=>(match g[n]?,g[m]? with
  |some (.lst xs),some (.lst ys)=>if xs.length=ys.length then eqGs (eqI 2) xs ys else some false
  |_,_=>none)
 |_,_=>none
noncomputable def pEq(x y:D)(g:G):Res D:=match eqT g x y with
 |some b=>.ok (.bl b) g
 |none=>.stuck
noncomputable def Qex:List D->Option (List Int)
 |[]=>some []
 |.int i::r=>(Qex r).map (i :: ·)
 |_::_=>none
noncomputable def neT(g:G)(x y:D):Option Bool:=match x,y with
 |.int i,.int j=>some (i == j)
 |.int _,.non=>some false
 |.str s,.str t=>some (s == t)
 |.tup xs,.tup ys=>eqGs (eqI 2) xs ys
 |.bl a,.bl b=>some (a == b)
 |.ref n,.ref m=>(match g[n]?,g[m]? with
  |some (.lst xs),some (.lst ys)=>if xs.length=ys.length then eqGs (eqI 2) xs ys else some false
  |_,_=>none)
 |_,_=>none
noncomputable def pNe(x y:D)(g:G):Res D:=match neT g x y with
 |some b=>.ok (.bl (!b)) g
 |none=>.stuck
noncomputable def isNon:D->Bool
 |.non=>true
 |_=>false
noncomputable def pIs(x y:D)(g:G):Res D:=match y with
 |.non=>.ok (.bl (isNon x)) g
 |_=>.stuck
noncomputable def QaI(x y:D)(g:G):Res D:=match y with
 |.non=>.ok (.bl (!isNon x)) g
 |_=>.stuck
noncomputable def atD{α:Type}(xs:List α)(i:Int):Option α:=(ixD xs.length i).bind λj=>xs[j]?
noncomputable def pIx(x y:D)(g:G):Res D:=match x,y with
 |.tup ds,.int i=>(match atD ds i with
  |some d=>.ok d g
  |none=>.stuck)
 |.fl ds,.int i=>(match atD ds i with
  |some d=>.ok d g
  |none=>.stuck)
 |.ref n,.int i=>(match g[n]? with
  |some (.lst ds)=>(match atD ds i with
   |some d=>.ok d g
   |none=>.stuck)
  |_=>.stuck)
 |.str s,.int i=>if s.length<=SZ then (match atD s.cps.toList i with
  |some c=>.ok (.str ⟨#[c]⟩) g
  |none=>.stuck) else .stuck
 |_,_=>.stuck
noncomputable def sIxD(n d:Nat):Option Int->Nat
 |none=>d
 |some v=>if v<0 then (v+(n:Int)).toNat else min v.toNat n
noncomputable def cutD{α:Type}(xs:List α)(lo hi:Option Int):List α:=(xs.drop (sIxD xs.length 0 lo)).take (sIxD xs.length xs.length hi-sIxD xs.length 0 lo)
noncomputable def QaJ(x:D)(lo hi:Option Int)(g:G):Res D:=match x with
 |.tup ds=>.ok (.tup (cutD ds lo hi)) g
 |.fl ds=>.ok (.ref g.length) (g++[.lst (cutD ds lo hi)])
 |.ref n=>(match g[n]? with
  |some (.lst ds)=>.ok (.ref g.length) (g++[.lst (cutD ds lo hi)])
  |_=>.stuck)
 |_=>.stuck
noncomputable abbrev MO:=S3->G->Res (Option Int)
noncomputable def Yi:MO:=λ_ g=>.ok none g
noncomputable def QaK(a:ME):MO:=λσ g=>(a σ g).bind λd g1=>match d with
 |.int i=>.ok (some i) g1
 |_=>.stuck
noncomputable def Jd(a:ME)(lo hi:MO):ME:=λσ g=>(a σ g).bind λx g1=>(lo σ g1).bind λl g2=>(hi σ g2).bind λh g3=>QaJ x l h g3
noncomputable def pLen(x:D)(g:G):Res D:=match x with
 |.tup ds=>.ok (.int ds.length) g
 |.fl ds=>.ok (.int ds.length) g
 |.ref n=>(match g[n]? with
  |some (.lst ds)=>.ok (.int ds.length) g
  |_=>.stuck)
 |_=>.stuck
noncomputable def YO(x:D)(g:G):Res D:=match x with
 |.tup ds=>.ok (.tup ds) g
 |.fl ds=>.ok (.tup ds) g
 |.ref n=>(match g[n]? with
  |some (.lst ds)=>.ok (.tup ds) g
  |_=>.stuck)
 |_=>.stuck
noncomputable def Qh2(x:D)(g:G):Res D:=match x with
 |.tup ds=>.ok (.ref g.length) (g++[.lst ds])
 |.fl ds=>.ok (.ref g.length) (g++[.lst ds])
 |.ref n=>(match g[n]? with
  |some (.lst ds)=>.ok (.ref g.length) (g++[.lst ds])
  |_=>.stuck)
 |_=>.stuck
noncomputable def ZM(o e:ME):ME:=λσ g=>(o σ g).bind λx g1=>match x with
 |.ref n=>(match g1[n]? with
  |some (.lst _)=>(e σ g1).bind λy g2=>(match g2[n]? with
   |some (.lst ds)=>if ds.length<SZ then .ok .non (g2.set n (.lst (ds++[y]))) else .stuck
   |_=>.stuck)
  |_=>.stuck)
 |_=>.stuck
noncomputable def pPop(x:D)(g:G):Res D:=match x with
 |.ref n=>(match g[n]? with
  |some (.lst ds)=>(match ds[ds.length-1]? with
   |some y=>.ok y (g.set n (.lst ds.dropLast))
   |none=>.stuck)
  |_=>.stuck)
 |_=>.stuck
inductive Ty where
 |non|bool|int|str|tuple|list|dict
 deriving DecidableEq
noncomputable def Ty.name:Ty->String
 |.non => "NoneType" |.bool => "bool" |.int => "int" |.str => "str" |.tuple => "tuple" |.list => "list" |.dict => "dict"
noncomputable def tyLe(t c:Ty):Bool:=t == c || (t == .bool && c == .int)
noncomputable def tyOf(g:G):D->Option Ty
 |.non=>some .non
 |.bl _=>some .bool
 |.int _=>some .int
 |.str _=>some .str
 |.tup _=>some .tuple
 |.fl _=>some .list
 |.ref n=>(match g[n]? with
  |some (.lst _)=>some .list
  |some (.dct _)=>some .dict
  |_=>none)
noncomputable def ZV(c:Ty)(x:D)(g:G):Res D:=match tyOf g x with
 |some t=>.ok (.bl (tyLe t c)) g
 |none=>.stuck
noncomputable def allB:List D->Option Bool
 |[]=>some true
 |.bl b::r=>(allB r).map (b && ·)
 |_::_=>none
noncomputable def pAll(x:D)(g:G):Res D:=match x with
 |.ref n=>(match g[n]? with
  |some (.lst ds)=>(match allB ds with
   |some b=>.ok (.bl b) g
   |none=>.stuck)
  |_=>.stuck)
 |_=>.stuck
noncomputable def QcW:D->Bool
 |.non=>true
 |.bl _=>true
 |.int _=>true
 |.str _=>true
 |_=>false
noncomputable def eqF(x y:D):Bool:=match x,y with
 |.non,.non=>true
 |.bl a,.bl b=>a == b
 |.int i,.int j=>i == j
 |.str s,.str t=>s == t
 |.bl a,.int j=>b2I a == j
 |.int i,.bl b=>i == b2I b
 |_,_=>false
noncomputable def pIn(neg:Bool)(x y:D)(g:G):Res D:=match Qv g y with
 |some (_,ds)=>if QcW x=true/\ds.all QcW=true then .ok (.bl (if neg=true then !(ds.any λd=>eqF d x) else ds.any λd=>eqF d x)) g else .stuck
 |none=>.stuck
end L3
namespace L3
open PySem PySem.Spec PyProof.Rows L2
def SqF(K:Frag)(H:Hp)(a:Addr)(xs:List V):Prop:=(∃o,H a=some (.frz o (.lst xs)))\/SqL K (λ_=>none) a xs
theorem SqF.sq{K:Frag}{H:Hp}{a:Addr}{xs:List V}(h:SqF K H a xs):SqL K H a xs:=by
 rcases h with⟨o,h⟩|(h|⟨o,h⟩)|h
 ·exact .inl (.inr ⟨o,h⟩)
 ·cases h
 ·cases h
 ·exact .inr h
mutual
inductive Den(K:Frag)(μ:List Addr)(H:Hp):V->D->Prop where
 |non:Den K μ H .non .non
 |bl (b:Bool):Den K μ H (.bl b) (.bl b)
 |int (i:Int):Den K μ H (.int i) (.int i)
 |str (x:Str):Den K μ H (.str x) (.str x)
 |ref {n:Nat} {a:Addr} (h:μ[n]?=some a):Den K μ H (.ref a) (.ref n)
 |tup {a:Addr} {vs:List V} {ds:List D} (h:SqT K H a vs) (hs:Dens K μ H vs ds):Den K μ H (.ref a) (.tup ds)
 |fl {a:Addr} {vs:List V} {ds:List D} (h:SqF K H a vs) (hs:Dens K μ H vs ds):Den K μ H (.ref a) (.fl ds)
inductive Dens(K:Frag)(μ:List Addr)(H:Hp):List V->List D->Prop where
 |nil:Dens K μ H [] []
 |cons {v:V} {d:D} {vs:List V} {ds:List D} (h:Den K μ H v d) (hs:Dens K μ H vs ds):Dens K μ H (v::vs) (d::ds)
end
structure Ext(K:Frag)(μ:List Addr)(H:Hp)(μ':List Addr)(H':Hp):Prop where
 pre:∃t,μ'=μ++t
 tup:∀a xs,SqT K H a xs->SqT K H' a xs
 fl:∀a xs,SqF K H a xs->SqF K H' a xs
section
variable{K:Frag}{ca:Nat->Addr}{μ μ' μ'':List Addr}{H H' H'':Hp}
theorem Ext.refl:Ext K μ H μ H:=⟨⟨[],by simp⟩,λ_ _ h=>h,λ_ _ h=>h⟩
theorem Ext.trans(a:Ext K μ H μ' H')(b:Ext K μ' H' μ'' H''):Ext K μ H μ'' H'':=by
 obtain⟨t,e⟩:=a.pre
 obtain⟨u,f⟩:=b.pre
 exact⟨⟨t++u,by rw[f,e,UG]⟩,λx xs h=>b.tup x xs (a.tup x xs h),λx xs h=>b.fl x xs (a.fl x xs h)⟩
theorem Ext.at(e:Ext K μ H μ' H'){n:Nat}{a:Addr}(h:μ[n]?=some a):μ'[n]?=some a:=by
 obtain⟨t,rfl⟩:=e.pre
 have hl:n<μ.length:=(Ul.mp h).1
 rw[UA hl]
 exact h
mutual
theorem Den.mono(e:Ext K μ H μ' H'):∀{v:V}{d:D},Den K μ H v d->Den K μ' H' v d
 |_,_,.non=>.non
 |_,_,.bl b=>.bl b
 |_,_,.int i=>.int i
 |_,_,.str x=>.str x
 |_,_,.ref h=>.ref (e.at h)
 |_,_,.tup h hs=>.tup (e.tup _ _ h) (Dens.mono e hs)
 |_,_,.fl h hs=>.fl (e.fl _ _ h) (Dens.mono e hs)
theorem Dens.mono(e:Ext K μ H μ' H'):∀{vs:List V}{ds:List D},Dens K μ H vs ds->Dens K μ' H' vs ds
 |_,_,.nil=>.nil
 |_,_,.cons h hs=>.cons (Den.mono e h) (Dens.mono e hs)
end
theorem Dens.length:∀{vs:List V}{ds:List D},Dens K μ H vs ds->vs.length=ds.length
 |_,_,.nil=>rfl
 |_,_,.cons _ t=>by rw[US,US,Dens.length t]
theorem Dens.get:∀{vs:List V}{ds:List D}{i:Nat}{d:D},Dens K μ H vs ds->ds[i]?=some d->∃v,vs[i]?=some v/\Den K μ H v d
 |_,_,_,_,.nil,e=>by simp at e
 |_,_,0,_,.cons r _,e=>by simp at e;subst e;exact⟨_,rfl,r⟩
 |_,_,i+1,x,.cons _ t,e=>by
  obtain⟨u,h1,h2⟩:=Dens.get (i:=i) (d:=x) t (by simpa using e)
  exact⟨u,by simpa using h1,h2⟩
theorem Dens.getV:∀{vs:List V}{ds:List D}{i:Nat}{v:V},Dens K μ H vs ds->vs[i]?=some v->∃d,ds[i]?=some d/\Den K μ H v d
 |_,_,_,_,.nil,e=>by simp at e
 |_,_,0,_,.cons r _,e=>by simp at e;subst e;exact⟨_,rfl,r⟩
 |_,_,i+1,x,.cons _ t,e=>by
  obtain⟨u,h1,h2⟩:=Dens.getV (i:=i) (v:=x) t (by simpa using e)
  exact⟨u,by simpa using h1,h2⟩
theorem Dens.append:∀{vs ws:List V}{ds es:List D},Dens K μ H vs ds->Dens K μ H ws es->Dens K μ H (vs++ws) (ds++es)
 |_,_,_,_,.nil,h=>h
 |_,_,_,_,.cons a b,h=>.cons a (Dens.append b h)
theorem Dens.set{x:V}{u:D}(r:Den K μ H x u):∀{xs:List V}{us:List D}(i:Nat),Dens K μ H xs us->Dens K μ H (xs.set i x) (us.set i u)
 |_,_,_,.nil=>.nil
 |_,_,0,.cons _ t=>.cons r t
 |_,_,i+1,.cons q t=>.cons q (Dens.set r i t)
theorem Dens.take:∀{xs:List V}{us:List D}(n:Nat),Dens K μ H xs us->Dens K μ H (xs.take n) (us.take n)
 |_,_,0,_=>.nil
 |_,_,_+1,.nil=>.nil
 |_,_,n+1,.cons r t=>.cons r (Dens.take n t)
theorem Dens.drop:∀{xs:List V}{us:List D}(n:Nat),Dens K μ H xs us->Dens K μ H (xs.drop n) (us.drop n)
 |_,_,0,r=>r
 |_,_,_+1,.nil=>.nil
 |_,_,n+1,.cons _ t=>Dens.drop n t
theorem Dens.ints(ns:List Int):Dens K μ H (ns.map V.int) (ns.map D.int):=by
 induction ns with
 |nil=>exact .nil
 |cons n r ih=>exact .cons (.int n) ih
noncomputable def FRel(K:Frag)(μ:List Addr)(H:Hp):List (Str×V)->List (Str×D)->Prop:=Paired λp q=>p.1=q.1/\Den K μ H p.2 q.2
noncomputable def KRel(K:Frag)(μ:List Addr)(H:Hp):List (Key×V)->List (Key×D)->Prop:=Paired λp q=>p.1=q.1/\Den K μ H p.2 q.2
def XOb(ca:Nat->Addr)(x:Xc)(o:Obj):Prop:=o.cls=.ref (ca x.1)/\o.dict=none
theorem XOb.map{ca:Nat->Addr}{x:Xc}{o:Obj}(h:XOb ca x o)(f:Array Value->Array Value):XOb ca x (o.mapFields f):=by
 obtain⟨c,d,dt,sl⟩:=o
 cases dt <;> exact h
noncomputable def XO(ca:Nat->Addr)(a:Addr)(x:Xc):HO:=.ext λh=>∃o vs,h.get? a=some o/\XOb ca x o/\o.data=.fields vs
noncomputable def ORep(K:Frag)(ca:Nat->Addr)(μ:List Addr)(H:Hp)(a:Addr):GO->Prop
 |.dct ks=>∃kv,H a=some (.dK kv)/\KRel K μ H kv ks
 |.exc x=>H a=some (XO ca a x)
 |.lst ds=>∃vs,H a=some (.lst vs)/\Dens K μ H vs ds
 |.ins c fs=>∃dx fv,H a=some (.ins (ca c) dx fv)/\FRel K μ H fv fs
structure GRep(K:Frag)(ca:Nat->Addr)(μ:List Addr)(H:Hp)(g:G):Prop where
 len:μ.length=g.length
 nd:μ.Nodup
 obj:∀(n:Nat)(a:Addr)(o:GO),μ[n]?=some a->g[n]?=some o->ORep K ca μ H a o
structure Rep(K:Frag)(ca:Nat->Addr)(μ:List Addr)(σ3:S3)(g:G)(σ:L2.St)(H:Hp):Prop where
 g:GRep K ca μ H g
 len:σ.length=σ3.length
 st:∀(i:Nat)(d:D),σ3[i]?=some (some d)->∃v,σ[i]?=some (some v)/\Den K μ H v d
theorem FRel.mono(e:Ext K μ H μ' H'){fv:List (Str×V)}{fs:List (Str×D)}(h:FRel K μ H fv fs):FRel K μ' H' fv fs:=Paired.imp' (λ_ _ q=>⟨q.1,q.2.mono e⟩) h
theorem KRel.mono(e:Ext K μ H μ' H'){fv:List (Key×V)}{fs:List (Key×D)}(h:KRel K μ H fv fs):KRel K μ' H' fv fs:=Paired.imp' (λ_ _ q=>⟨q.1,q.2.mono e⟩) h
theorem Rep.go{σ3:S3}{g g':G}{σ:L2.St}(r:Rep K ca μ σ3 g σ H)(e:Ext K μ H μ' H')(h:GRep K ca μ' H' g'):Rep K ca μ' σ3 g' σ H' :=
 ⟨h,r.len,λi d z=>by obtain⟨v,h1,h2⟩:=r.st i d z;exact⟨v,h1,h2.mono e⟩⟩
theorem GRep.addr{g:G}(r:GRep K ca μ H g){n:Nat}{o:GO}(h:g[n]?=some o):∃a,μ[n]?=some a/\ORep K ca μ H a o:=by
 have hl:n<g.length:=(Ul.mp h).1
 have hm:n<μ.length:=by rw[r.len];exact hl
 exact⟨μ[n],by simp[hm],r.obj n _ o (by simp[hm]) h⟩
theorem ORep.is{a:Addr}{o:GO}(h:ORep K ca μ H a o):∃u,H a=some u:=by
 cases o with
 |lst ds=>obtain⟨_,h,_⟩:=h;exact⟨_,h⟩
 |ins c fs=>obtain⟨_,_,h,_⟩:=h;exact⟨_,h⟩
 |dct ks=>obtain⟨_,h,_⟩:=h;exact⟨_,h⟩
 |exc x=>exact⟨_,h⟩
theorem GRep.known{g:G}(r:GRep K ca μ H g){a:Addr}(h:a∈μ):∃u,H a=some u:=by
 obtain⟨n,hn⟩:=List.getElem?_of_mem h
 have hl:n<μ.length:=(Ul.mp hn).1
 have hg:n<g.length:=by rw[<-r.len];exact hl
 exact(r.obj n a g[n] hn (by simp[hg])).is
theorem QI{p:Addr}{o:HO}(hp:H p=none):Ext K μ H μ (upd H p o):=⟨⟨[],by simp⟩,λa xs h=>by
 rcases h with(h|⟨u,h⟩)|h
 ·exact .inl (.inl (by rw[Qp (QF h hp)];exact h))
 ·exact .inl (.inr ⟨u,by rw[Qp (QF h hp)];exact h⟩)
 ·exact .inr h,λa xs h=>by
 rcases h with⟨u,h⟩|h
 ·exact .inl ⟨u,by rw[Qp (QF h hp)];exact h⟩
 ·exact .inr h⟩
theorem ORep.mono{a:Addr}{o:GO}(e:Ext K μ H μ' H')(ha:∀u,H a=some u->H' a=some u)(h:ORep K ca μ H a o):ORep K ca μ' H' a o:=by
 cases o with
 |lst ds=>obtain⟨vs,h,q⟩:=h;exact⟨vs,ha _ h,q.mono e⟩
 |ins c fs=>obtain⟨dx,fv,h,q⟩:=h;exact⟨dx,fv,ha _ h,q.mono e⟩
 |dct ks=>obtain⟨kv,h,q⟩:=h;exact⟨kv,ha _ h,q.mono e⟩
 |exc x=>exact ha _ h
theorem GRep.new{g:G}{p:Addr}{o:HO}(r:GRep K ca μ H g)(hp:H p=none):GRep K ca μ (upd H p o) g :=
 ⟨r.len,r.nd,λn a u h1 h2=>(r.obj n a u h1 h2).mono (QI hp) λz hz=>by rw[Qp (QF hz hp)];exact hz⟩
theorem Qq{p:Addr}{o:HO}(hp:H p=none):Ext K μ H (μ++[p]) (upd H p o):=⟨⟨[p],rfl⟩,(QI (μ:=μ) hp).tup,(QI (μ:=μ) hp).fl⟩
theorem GRep.push{g:G}{p:Addr}{o:HO}{u:GO}(r:GRep K ca μ H g)(hp:H p=none)(ho:ORep K ca (μ++[p]) (upd H p o) p u):GRep K ca (μ++[p]) (upd H p o) (g++[u]):=by
 have nm:p∉μ:=λh=>by
  obtain⟨z,hz⟩:=r.known h
  rw[hp]at hz;cases hz
 refine⟨by rw[Us,Us,r.len];rfl,?_,λn a w h1 h2=>?_⟩
 ·rw[List.nodup_append]
  exact⟨r.nd,by simp,λx hx y hy e=>nm (by rw[Uw.mp hy]at e;rw[<-e];exact hx)⟩
 ·by_cases hn:n<g.length
  ·rw[UA hn]at h2
   rw[UA (by rw[r.len];exact hn)]at h1
   exact(r.obj n a w h1 h2).mono (Qq hp) λz hz=>by rw[Qp (QF hz hp)];exact hz
  ·rw[Ux (by omega)]at h2
   rw[Ux (by rw[r.len];omega)]at h1
   have e0:n-g.length=0:=by
    have:=(Ul.mp h2).1
    simp at this;omega
   rw[e0]at h2
   rw[r.len,e0]at h1
   simp at h1 h2
   subst h1 h2
   exact ho
theorem JK{a:Addr}{o o':HO}(h:H a=some o)(no:∀xs,o≠.tup xs)(nf:∀b u,o≠.frz b u):Ext K μ H μ (upd H a o'):=⟨⟨[],by simp⟩,λb xs hb=>by
 rcases hb with(z|⟨u,z⟩)|z
 ·exact .inl (.inl (by rw[Qp (Qk6 z h (Ne.symm (no xs)))];exact z))
 ·exact .inl (.inr ⟨u,by rw[Qp (Qk6 z h (Ne.symm (nf u _)))];exact z⟩)
 ·exact .inr z,λb xs hb=>by
 rcases hb with⟨u,z⟩|z
 ·exact .inl ⟨u,by rw[Qp (Qk6 z h (Ne.symm (nf u _)))];exact z⟩
 ·exact .inr z⟩
theorem GRep.set{g:G}{n:Nat}{a:Addr}{o o':HO}{u:GO}(r:GRep K ca μ H g)(hn:μ[n]?=some a)(h:H a=some o)(no:∀xs,o≠.tup xs)(nf:∀b u,o≠.frz b u)(ho:ORep K ca μ (upd H a o') a u):
  GRep K ca μ (upd H a o') (g.set n u):=by
 refine⟨by rw[T9,r.len],r.nd,λm b w h1 h2=>?_⟩
 by_cases e:m=n
 ·subst e
  rw[hn]at h1;cases h1
  have hl:m<g.length:=by
   rw[<-r.len];exact(Ul.mp hn).1
  rw[Tf hl]at h2;cases h2
  exact ho
 ·rw[Uk (Ne.symm e)]at h2
  have nb:b≠a:=λz=>by
   subst z
   have e1:=(Ul.mp h1)
   have e2:=(Ul.mp hn)
   obtain⟨l1,q1⟩:=e1
   obtain⟨l2,q2⟩:=e2
   exact e ((List.getElem_inj r.nd).mp (q1.trans q2.symm))
  exact(r.obj m b w h1 h2).mono (JK h no nf) λz hz=>by rw[Qp nb];exact hz
noncomputable abbrev XS:=Xc->L2.St->Hp->Prop
noncomputable def FpW(X:Cx)(pins:List (Addr×Obj))(H:Hp)(b:Addr):Prop :=
 H b=none/\b≠X.env.locals/\b∉X.fs/\(b∈X.ex\/X.s₀.heap.get? b=none)/\(∀x c,X.env.cells.lookup x=some c->c≠b)/\∀p∈X.pn++pins,p.1≠b
structure Fl(X:Cx)(ca:Nat->Addr)(a:Addr)(x:Xc)(H:Hp)(h:Heap):Prop where
 fp:FpW X [] H a
 ln:x.2=none
 ex:∃oe vs,h.get? a=some oe/\XOb ca x oe/\oe.data=.fields vs/\1<vs.size /\
  (vs[1]?=some .none\/∃T oT ts,vs[1]?=some (.ref T)/\T≠a/\FpW X [] H T/\h.get? T=some oT/\oT.data=.fields ts/\3<ts.size/\(ts[3]?=some .none\/ts[3]?=some (rawInt X.env.locals)))
noncomputable def XE(X:Cx)(ca:Nat->Addr)(Φ:XS):Value->Shared->Prop:=λv s=>∃a x σ H,v=.ref a/\Inv X [] σ H s/\Fl X ca a x H s.heap/\Φ x σ H
noncomputable abbrev xon(X:Cx)(pn:List (Addr×Obj)):Cx:={X with pn:=pn,xe:=λ_ _=>False}
noncomputable abbrev xat(X:Cx)(ca:Nat->Addr)(pn:List (Addr×Obj))(Φ:XS):Cx:={X with pn:=pn,xe:=XE (xon X pn) ca Φ}
def RaP(K:Frag)(ca:Nat->Addr)(Φ:XS)(σ:L2.St)(H:Hp)(μ:List Addr)(x:Xc)(g':G):Prop:=∀H' μ',Ext K μ H μ' H'->GRep K ca μ' H' g'->Φ x σ H'
noncomputable def Post(K:Frag)(ca:Nat->Addr)(Φ:XS)(σ:L2.St)(Q:VK)(H:Hp)(μ:List Addr):Res D->Prop
 |.ok d g'=>∀v H' μ',Ext K μ H μ' H'->GRep K ca μ' H' g'->Den K μ' H' v d->Q v H'
 |.raise x g'=>RaP K ca Φ σ H μ x g'
 |.stuck=>False
noncomputable def PostT(K:Frag)(ca:Nat->Addr)(Φ:XS)(σ:L2.St)(Q:Bool->Hp->Prop)(H:Hp)(μ:List Addr):Res Bool->Prop
 |.ok b g'=>∀H' μ',Ext K μ H μ' H'->GRep K ca μ' H' g'->Q b H'
 |.raise x g'=>RaP K ca Φ σ H μ x g'
 |.stuck=>False
noncomputable def PostA(K:Frag)(ca:Nat->Addr)(Φ:XS)(σ:L2.St)(Q:List V->Hp->Prop)(H:Hp)(μ:List Addr):Res (List D)->Prop
 |.ok ds g'=>∀vs H' μ',Ext K μ H μ' H'->GRep K ca μ' H' g'->Dens K μ' H' vs ds->Q vs H'
 |.raise x g'=>RaP K ca Φ σ H μ x g'
 |.stuck=>False
noncomputable def PostS(K:Frag)(ca:Nat->Addr)(Φ:XS)(E:Ends)(H:Hp)(μ:List Addr):Out->Prop
 |.nx σ3 g'=>∀σ' H' μ',Ext K μ H μ' H'->Rep K ca μ' σ3 g' σ' H'->E.nx σ' H'
 |.bk σ3 g'=>∀σ' H' μ',Ext K μ H μ' H'->Rep K ca μ' σ3 g' σ' H'->E.bk σ' H'
 |.ct σ3 g'=>∀σ' H' μ',Ext K μ H μ' H'->Rep K ca μ' σ3 g' σ' H'->E.ct σ' H'
 |.rt d g'=>∀v H' μ',Ext K μ H μ' H'->GRep K ca μ' H' g'->Den K μ' H' v d->E.rt v H'
 |.raise x σ3 g'=>∀σ' H' μ',Ext K μ H μ' H'->Rep K ca μ' σ3 g' σ' H'->Φ x σ' H'
 |.stuck=>False
noncomputable def up(K:Frag)(ca:Nat->Addr)(Φ:XS)(m:ME):TE:=λσ H Q=>∃σ3 g μ,Rep K ca μ σ3 g σ H/\Post K ca Φ σ Q H μ (m σ3 g)
noncomputable def upT(K:Frag)(ca:Nat->Addr)(Φ:XS)(m:MT):TT:=λσ H Q=>∃σ3 g μ,Rep K ca μ σ3 g σ H/\PostT K ca Φ σ Q H μ (m σ3 g)
noncomputable def upA(K:Frag)(ca:Nat->Addr)(Φ:XS)(m:MA):TA:=λσ H Q=>∃σ3 g μ,Rep K ca μ σ3 g σ H/\PostA K ca Φ σ Q H μ (m σ3 g)
noncomputable def upS(K:Frag)(ca:Nat->Addr)(Φ:XS)(m:MS):TS:=λE σ H=>∃σ3 g μ,Rep K ca μ σ3 g σ H/\PostS K ca Φ E H μ (m σ3 g)
def PE3(ca:Nat->Addr)(X:Cx)(e:Expr)(m:ME):Prop:=∀pn Φ,PE (xat X ca pn Φ) e (up X.K ca Φ m)
def PT3(ca:Nat->Addr)(X:Cx)(e:Expr)(m:MT):Prop:=∀pn Φ,PT (xat X ca pn Φ) e (upT X.K ca Φ m)
def PW3(ca:Nat->Addr)(X:Cx)(e:Expr)(m:MT):Prop:=∀pn Φ,PW (xat X ca pn Φ) e (upT X.K ca Φ m)
def PA3(ca:Nat->Addr)(X:Cx)(es:List Expr)(m:MA):Prop:=∀pn Φ,PA (xat X ca pn Φ) es (upA X.K ca Φ m)
def PS3(ca:Nat->Addr)(X:Cx)(st:Stmt)(m:MS):Prop:=∀pn Φ,PS (xat X ca pn Φ) st (upS X.K ca Φ m)
def PSs3(ca:Nat->Addr)(X:Cx)(sts:List Stmt)(m:MS):Prop:=∀pn Φ,PSs (xat X ca pn Φ) sts (upS X.K ca Φ m)
variable{Φ:XS}{σ:L2.St}
theorem RaP.go{x:Xc}{g':G}(e:Ext K μ H μ' H')(h:RaP K ca Φ σ H μ x g'):RaP K ca Φ σ H' μ' x g':=λH2 μ2 e2=>h H2 μ2 (e.trans e2)
theorem Post.go{Q:VK}{r:Res D}(e:Ext K μ H μ' H')(h:Post K ca Φ σ Q H μ r):Post K ca Φ σ Q H' μ' r:=by
 cases r with
 |ok d g'=>exact λv H2 μ2 e2=>h v H2 μ2 (e.trans e2)
 |raise _ _=>exact RaP.go e h
 |stuck=>exact h
theorem PostT.go{Q:Bool->Hp->Prop}{r:Res Bool}(e:Ext K μ H μ' H')(h:PostT K ca Φ σ Q H μ r):PostT K ca Φ σ Q H' μ' r:=by
 cases r with
 |ok d g'=>exact λH2 μ2 e2=>h H2 μ2 (e.trans e2)
 |raise _ _=>exact RaP.go e h
 |stuck=>exact h
theorem PostA.go{Q:List V->Hp->Prop}{r:Res (List D)}(e:Ext K μ H μ' H')(h:PostA K ca Φ σ Q H μ r):PostA K ca Φ σ Q H' μ' r:=by
 cases r with
 |ok d g'=>exact λv H2 μ2 e2=>h v H2 μ2 (e.trans e2)
 |raise _ _=>exact RaP.go e h
 |stuck=>exact h
theorem PostS.go{E:Ends}{r:Out}(e:Ext K μ H μ' H')(h:PostS K ca Φ E H μ r):PostS K ca Φ E H' μ' r:=by
 cases r with
 |nx _ _=>exact λv H2 μ2 e2=>h v H2 μ2 (e.trans e2)
 |bk _ _=>exact λv H2 μ2 e2=>h v H2 μ2 (e.trans e2)
 |ct _ _=>exact λv H2 μ2 e2=>h v H2 μ2 (e.trans e2)
 |rt _ _=>exact λv H2 μ2 e2=>h v H2 μ2 (e.trans e2)
 |raise _ _ _=>exact λv H2 μ2 e2=>h v H2 μ2 (e.trans e2)
 |stuck=>exact h
theorem Post.pure{Q:VK}{g:G}{v:V}{d:D}(h:Post K ca Φ σ Q H μ (.ok d g))(r:GRep K ca μ H g)(q:Den K μ H v d):Q v H:=h v H μ .refl r q
theorem RaP.stmt{x:Xc}{σ3:S3}{g g':G}{E:Ends}(R:Rep K ca μ σ3 g σ H)(h:PostS K ca Φ E H μ (.raise x σ3 g')):RaP K ca Φ σ H μ x g':=λH' μ' e r=>h σ H' μ' e (R.go e r)
theorem Qfn{m:ME}{α:Type}{k:D->G->Res α}{σ3:S3}{g:G}(R:Rep K ca μ σ3 g σ H){P:Res α->Hp->List Addr->Prop}(hp:P ((m σ3 g).bind k) H μ)(hst:∀H μ,¬P .stuck H μ)(hra:∀e g H μ,P (.raise e g) H μ->RaP K ca Φ σ H μ e g)(hgo:∀r H μ H' μ',Ext K μ H μ' H'->P r H μ->P r H' μ'):
  up K ca Φ m σ H λx H1=>∃d g1 μ1,Ext K μ H μ1 H1/\Rep K ca μ1 σ3 g1 σ H1/\Den K μ1 H1 x d/\P (k d g1) H1 μ1:=by
 refine⟨σ3,g,μ,R,?_⟩
 cases hm:m σ3 g with
 |ok d g1 =>
  rw[hm]at hp
  exact λv H1 μ1 e1 r1 d1=>⟨d,g1,μ1,e1,R.go e1 r1,d1,hgo _ _ _ _ _ e1 hp⟩
 |raise e g1=>rw[hm]at hp;exact hra _ _ _ _ hp
 |stuck=>rw[hm]at hp;exact(hst _ _ hp).elim
theorem Jn{m:ME}{k:D->G->Res D}{σ3:S3}{g:G}{Q:VK}(R:Rep K ca μ σ3 g σ H)(hp:Post K ca Φ σ Q H μ ((m σ3 g).bind k)):
  up K ca Φ m σ H λx H1=>∃d g1 μ1,Ext K μ H μ1 H1/\Rep K ca μ1 σ3 g1 σ H1/\Den K μ1 H1 x d/\Post K ca Φ σ Q H1 μ1 (k d g1) :=
 Qfn (P:=λr H μ=>Post K ca Φ σ Q H μ r) R hp (λ_ _ h=>h) (λ_ _ _ _ h=>h) λ_ _ _ _ _ e h=>h.go e
theorem QlA{m:ME}{k:D->G->Res Bool}{σ3:S3}{g:G}{Q:Bool->Hp->Prop}(R:Rep K ca μ σ3 g σ H)(hp:PostT K ca Φ σ Q H μ ((m σ3 g).bind k)):
  up K ca Φ m σ H λx H1=>∃d g1 μ1,Ext K μ H μ1 H1/\Rep K ca μ1 σ3 g1 σ H1/\Den K μ1 H1 x d/\PostT K ca Φ σ Q H1 μ1 (k d g1) :=
 Qfn (P:=λr H μ=>PostT K ca Φ σ Q H μ r) R hp (λ_ _ h=>h) (λ_ _ _ _ h=>h) λ_ _ _ _ _ e h=>h.go e
theorem QoS{m:ME}{k:D->G->Res (List D)}{σ3:S3}{g:G}{Q:List V->Hp->Prop}(R:Rep K ca μ σ3 g σ H)(hp:PostA K ca Φ σ Q H μ ((m σ3 g).bind k)):
  up K ca Φ m σ H λx H1=>∃d g1 μ1,Ext K μ H μ1 H1/\Rep K ca μ1 σ3 g1 σ H1/\Den K μ1 H1 x d/\PostA K ca Φ σ Q H1 μ1 (k d g1) :=
 Qfn (P:=λr H μ=>PostA K ca Φ σ Q H μ r) R hp (λ_ _ h=>h) (λ_ _ _ _ h=>h) λ_ _ _ _ _ e h=>h.go e
theorem Qf8{m:MT}{α:Type}{k:Bool->G->Res α}{σ3:S3}{g:G}(R:Rep K ca μ σ3 g σ H){P:Res α->Hp->List Addr->Prop}(hp:P ((m σ3 g).bind k) H μ)(hst:∀H μ,¬P .stuck H μ)(hra:∀e g H μ,P (.raise e g) H μ->RaP K ca Φ σ H μ e g)(hgo:∀r H μ H' μ',Ext K μ H μ' H'->P r H μ->P r H' μ'):
  upT K ca Φ m σ H λb H1=>∃g1 μ1,Ext K μ H μ1 H1/\Rep K ca μ1 σ3 g1 σ H1/\P (k b g1) H1 μ1:=by
 refine⟨σ3,g,μ,R,?_⟩
 cases hm:m σ3 g with
 |ok d g1 =>
  rw[hm]at hp
  exact λH1 μ1 e1 r1=>⟨g1,μ1,e1,R.go e1 r1,hgo _ _ _ _ _ e1 hp⟩
 |raise e g1=>rw[hm]at hp;exact hra _ _ _ _ hp
 |stuck=>rw[hm]at hp;exact(hst _ _ hp).elim
theorem Qng{m:MT}{k:Bool->G->Res D}{σ3:S3}{g:G}{Q:VK}(R:Rep K ca μ σ3 g σ H)(hp:Post K ca Φ σ Q H μ ((m σ3 g).bind k)):
  upT K ca Φ m σ H λb H1=>∃g1 μ1,Ext K μ H μ1 H1/\Rep K ca μ1 σ3 g1 σ H1/\Post K ca Φ σ Q H1 μ1 (k b g1) :=
 Qf8 (P:=λr H μ=>Post K ca Φ σ Q H μ r) R hp (λ_ _ h=>h) (λ_ _ _ _ h=>h) λ_ _ _ _ _ e h=>h.go e
theorem Qh3{m:MT}{k:Bool->G->Res Bool}{σ3:S3}{g:G}{Q:Bool->Hp->Prop}(R:Rep K ca μ σ3 g σ H)(hp:PostT K ca Φ σ Q H μ ((m σ3 g).bind k)):
  upT K ca Φ m σ H λb H1=>∃g1 μ1,Ext K μ H μ1 H1/\Rep K ca μ1 σ3 g1 σ H1/\PostT K ca Φ σ Q H1 μ1 (k b g1) :=
 Qf8 (P:=λr H μ=>PostT K ca Φ σ Q H μ r) R hp (λ_ _ h=>h) (λ_ _ _ _ h=>h) λ_ _ _ _ _ e h=>h.go e
theorem Qf9{m:MA}{α:Type}{k:List D->G->Res α}{σ3:S3}{g:G}(R:Rep K ca μ σ3 g σ H){P:Res α->Hp->List Addr->Prop}(hp:P ((m σ3 g).bind k) H μ)(hst:∀H μ,¬P .stuck H μ)(hra:∀e g H μ,P (.raise e g) H μ->RaP K ca Φ σ H μ e g)(hgo:∀r H μ H' μ',Ext K μ H μ' H'->P r H μ->P r H' μ'):
  upA K ca Φ m σ H λxs H1=>∃ds g1 μ1,Ext K μ H μ1 H1/\Rep K ca μ1 σ3 g1 σ H1/\Dens K μ1 H1 xs ds/\P (k ds g1) H1 μ1:=by
 refine⟨σ3,g,μ,R,?_⟩
 cases hm:m σ3 g with
 |ok d g1 =>
  rw[hm]at hp
  exact λv H1 μ1 e1 r1 d1=>⟨d,g1,μ1,e1,R.go e1 r1,d1,hgo _ _ _ _ _ e1 hp⟩
 |raise e g1=>rw[hm]at hp;exact hra _ _ _ _ hp
 |stuck=>rw[hm]at hp;exact(hst _ _ hp).elim
theorem Qdc{m:MA}{k:List D->G->Res D}{σ3:S3}{g:G}{Q:VK}(R:Rep K ca μ σ3 g σ H)(hp:Post K ca Φ σ Q H μ ((m σ3 g).bind k)):
  upA K ca Φ m σ H λxs H1=>∃ds g1 μ1,Ext K μ H μ1 H1/\Rep K ca μ1 σ3 g1 σ H1/\Dens K μ1 H1 xs ds/\Post K ca Φ σ Q H1 μ1 (k ds g1) :=
 Qf9 (P:=λr H μ=>Post K ca Φ σ Q H μ r) R hp (λ_ _ h=>h) (λ_ _ _ _ h=>h) λ_ _ _ _ _ e h=>h.go e
theorem Qnh{m:MA}{k:List D->G->Res (List D)}{σ3:S3}{g:G}{Q:List V->Hp->Prop}(R:Rep K ca μ σ3 g σ H)(hp:PostA K ca Φ σ Q H μ ((m σ3 g).bind k)):
  upA K ca Φ m σ H λxs H1=>∃ds g1 μ1,Ext K μ H μ1 H1/\Rep K ca μ1 σ3 g1 σ H1/\Dens K μ1 H1 xs ds/\PostA K ca Φ σ Q H1 μ1 (k ds g1) :=
 Qf9 (P:=λr H μ=>PostA K ca Φ σ Q H μ r) R hp (λ_ _ h=>h) (λ_ _ _ _ h=>h) λ_ _ _ _ _ e h=>h.go e
theorem QZ{m:ME}{Q Q':VK}(h:up K ca Φ m σ H Q)(i:∀x H1,Q x H1->Q' x H1):up K ca Φ m σ H Q':=by
 obtain⟨σ3,g,μ,R,p⟩:=h
 refine⟨σ3,g,μ,R,?_⟩
 cases hm:m σ3 g with
 |ok d g1=>rw[hm]at p;exact λv H1 μ1 e r q=>i _ _ (p v H1 μ1 e r q)
 |raise e g1=>rw[hm]at p;exact p
 |stuck=>rw[hm]at p;exact p
theorem QbS{m:MT}{Q Q':Bool->Hp->Prop}(h:upT K ca Φ m σ H Q)(i:∀x H1,Q x H1->Q' x H1):upT K ca Φ m σ H Q':=by
 obtain⟨σ3,g,μ,R,p⟩:=h
 refine⟨σ3,g,μ,R,?_⟩
 cases hm:m σ3 g with
 |ok d g1=>rw[hm]at p;exact λH1 μ1 e r=>i _ _ (p H1 μ1 e r)
 |raise e g1=>rw[hm]at p;exact p
 |stuck=>rw[hm]at p;exact p
theorem Jo{m:MA}{Q Q':List V->Hp->Prop}(h:upA K ca Φ m σ H Q)(i:∀x H1,Q x H1->Q' x H1):upA K ca Φ m σ H Q':=by
 obtain⟨σ3,g,μ,R,p⟩:=h
 refine⟨σ3,g,μ,R,?_⟩
 cases hm:m σ3 g with
 |ok d g1=>rw[hm]at p;exact λv H1 μ1 e r q=>i _ _ (p v H1 μ1 e r q)
 |raise e g1=>rw[hm]at p;exact p
 |stuck=>rw[hm]at p;exact p
end
theorem Q3{X:Cx}{e:Expr}{t t':TE}(h:PE X e t)(i:∀σ H Q,t' σ H Q->t σ H Q):PE X e t':=λpins s σ H Q I q=>h pins s σ H Q I (i σ H Q q)
theorem Qdx{X:Cx}{e:Expr}{t t':TT}(h:PT X e t)(i:∀σ H Q,t' σ H Q->t σ H Q):PT X e t':=λpins s σ H Q I q=>h pins s σ H Q I (i σ H Q q)
theorem Qh4{X:Cx}{e:Expr}{t t':TT}(h:PW X e t)(i:∀σ H Q,t' σ H Q->t σ H Q):PW X e t':=λw pins s σ H Q I q=>h w pins s σ H Q I (i σ H Q q)
theorem Qh5{X:Cx}{e:List Expr}{t t':TA}(h:PA X e t)(i:∀σ H Q,t' σ H Q->t σ H Q):PA X e t':=λp pins s σ H Q I q=>h p pins s σ H Q I (i σ H Q q)
theorem ZW{X:Cx}{e:Stmt}{t t':TS}(h:PS X e t)(i:∀D σ H,t' D σ H->t D σ H):PS X e t':=λpins s σ H D I q=>h pins s σ H D I (i D σ H q)
theorem Qga{X:Cx}{e:List Stmt}{t t':TS}(h:PSs X e t)(i:∀D σ H,t' D σ H->t D σ H):PSs X e t':=λpins s σ H D I q=>h pins s σ H D I (i D σ H q)
section
variable{X:Cx}{ca:Nat->Addr}{a b c e:Expr}{es rest:List Expr}{ma mb me:ME}{tc ta tb:MT}{mr:MA}{pos:Pos}
theorem Qa(i:Nat){x:Str}(hN:X.N[i]?=some x:=by rfl)(hv:Vis X.env.scope x:=by first|exact Or.inl rfl|exact Or.inr (Or.inl rfl)|exact Or.inr (Or.inr rfl))(hd:(x == ("__debug__" : Str))=false:=by decide)(hcd:(x == ("__classdict__" : Str))=false:=by decide):PE3 ca X (.Name x pos) (mVar i) :=
 λpn Φ=>Q3 (QmD (X:=xat X ca pn Φ) hN hv hd hcd) λσ H Q hQ=>by
  obtain⟨σ3,g,μ,R,p⟩:=hQ
  unfold mVar at p
  cases e:σ3[i]? with
  |none=>rw[e]at p;exact p.elim
  |some o =>
   cases o with
   |none=>rw[e]at p;exact p.elim
   |some d =>
    rw[e]at p
    obtain⟨v,h1,h2⟩:=R.st i d e
    exact⟨v,h1,p v H μ .refl R.g h2⟩
theorem Qh6{v:V}{d:D}(h:∀pn Φ,PE (xat X ca pn Φ) e (tC v))(hd:∀K μ H,Den K μ H v d):PE3 ca X e (mLit d) :=
 λpn Φ=>Q3 (h pn Φ) λ_ H _ ⟨_,_,μ,R,p⟩=>p v H μ .refl R.g (hd _ _ _)
theorem Qe{i:Int}{j:Nat}:PE3 ca X (.Constant (.int i) j pos) (mLit (.int i)):=Qh6 (λ_ _=>QmE) λ_ _ _=>.int i
theorem Qdy{x:Str}{j:Nat}:PE3 ca X (.Constant (.str x) j pos) (mLit (.str x)):=Qh6 (λ_ _=>QmG) λ_ _ _=>.str x
theorem r_bl{x:Bool}{j:Nat}:PE3 ca X (.Constant (.bool x) j pos) (mLit (.bl x)):=Qh6 (λ_ _=>QoB) λ_ _ _=>.bl x
theorem QaL{j:Nat}:PE3 ca X (.Constant .none j pos) (mLit .non):=Qh6 (λ_ _=>QmF) λ_ _ _=>.non
theorem QkJ{x:Str}{v:V}{u:Value}{d:D}(hm:X.mg x=some u)(r:RelV v u)(hd':∀K μ H,Den K μ H v d)(hg:Gl X x:=by rfl)(hd:(x == ("__debug__" : Str))=false:=by decide):PE3 ca X (.Name x pos) (mLit d) :=
 Qh6 (λpn Φ=>Qk9 (X:=xat X ca pn Φ) hg hm r hd) hd'
noncomputable def Jp(K:Frag)(ca:Nat->Addr)(r:R2)(f:D->D->G->Res D):Prop :=
 ∀(Φ:XS)(σ:L2.St)(H:Hp)(μ:List Addr)(g:G)(x y:V)(dx dy:D)(Q:VK),GRep K ca μ H g->Den K μ H x dx->Den K μ H y dy->Post K ca Φ σ Q H μ (f dx dy g)->r x y H Q
theorem Qgb{K:Frag}{Φ:XS}{r:R2}{f:D->D->G->Res D}(hp:Jp K ca r f)(σ:L2.St)(H:Hp)(Q:VK)(h:up K ca Φ (mOp2 f ma mb) σ H Q):tOp r (up K ca Φ ma) (up K ca Φ mb) σ H Q:=by
 obtain⟨σ3,g,μ,R,p⟩:=h
 refine QZ (Jn R p) λx H1 ⟨dx,g1,μ1,e1,R1,q1,p1⟩=>?_
 refine QZ (Jn R1 p1) λy H2 ⟨dy,g2,μ2,e2,R2,q2,p2⟩=>?_
 exact hp Φ σ H2 μ2 g2 x y dx dy Q R2.g (q1.mono e2) q2 p2
theorem Qg6{op:Operator}{r:R2}{f:D->D->G->Res D}(ho:∀pn Φ,OpR (xat X ca pn Φ) (binaryOp op) r)(hp:Jp X.K ca r f)(ha:PE3 ca X a ma)(hb:PE3 ca X b mb):PE3 ca X (.BinOp a op b pos) (mOp2 f ma mb) :=
 λpn Φ=>Q3 (QoL (ho pn Φ) (ha pn Φ) (hb pn Φ)) (Qgb hp)
theorem Qg7{op:CmpOp}{r:R2}{f:D->D->G->Res D}(ho:∀pn Φ,OpR (xat X ca pn Φ) (compareOp op) r)(hp:Jp X.K ca r f)(ha:PE3 ca X a ma)(hb:PE3 ca X b mb)(hm:behindInMarks op b=false):PE3 ca X (.Compare a [op] [b] pos) (mOp2 f ma mb) :=
 λpn Φ=>Q3 (Qll (ho pn Φ) (ha pn Φ) (hb pn Φ) hm) (Qgb hp)
theorem r_ix{r:R2}{f:D->D->G->Res D}(ho:∀pn Φ,IxR (xat X ca pn Φ) r)(hp:Jp X.K ca r f)(ha:PE3 ca X a ma)(hb:PE3 ca X b mb)(hs:Qds b:=by exact λ_ _=>rfl):PE3 ca X (.Subscript a b pos) (mOp2 f ma mb) :=
 λpn Φ=>Q3 (QoQ (ho pn Φ) (ha pn Φ) (hb pn Φ) hs) (Qgb hp)
theorem r_un{op:UnaryOp}{r:V->Hp->VK->Prop}{f:D->G->Res D}(ho:∀pn Φ,UnR (xat X ca pn Φ) (unaryOp op) r)(hp:∀(Φ:XS) (σ:L2.St) (H:Hp) (μ:List Addr) (g:G) (x:V) (dx:D) (Q:VK),GRep X.K ca μ H g->Den X.K μ H x dx->Post X.K ca Φ σ Q H μ (f dx g)->r x H Q)(ha:PE3 ca X a ma):PE3 ca X (.UnaryOp op a pos) (mOp1 f ma) :=
 λpn Φ=>Q3 (QoM (ho pn Φ) (ha pn Φ)) λσ H Q ⟨σ3,g,μ,R,p⟩=>QZ (Jn R p) λx H1 ⟨dx,g1,μ1,e1,R1,q1,p1⟩=>hp Φ σ H1 μ1 g1 x dx Q R1.g q1 p1
theorem Qj:PA3 ca X [] mNil:=λpn Φ=>Qh5 (Qf4 (X:=xat X ca pn Φ)) λ_ H _ ⟨_,_,μ,R,p⟩=>p [] H μ .refl R.g .nil
theorem Yk(ha:PE3 ca X e me)(hr:PA3 ca X es mr)(hs:starEach (e::es) X.env=(false,eval e X.env)::starEach es X.env:=by rfl):PA3 ca X (e::es) (Qb me mr) :=
 λpn Φ=>Qh5 (Qas (X:=xat X ca pn Φ) (ha pn Φ) (hr pn Φ) hs) λσ H Q ⟨σ3,g,μ,R,p⟩=>QZ (QoS R p) λx H1 ⟨d,g1,μ1,e1,R1,q1,p1⟩ =>
  Jo (Qnh R1 p1) λxs H2 ⟨ds,g2,μ2,e2,R2,q2,p2⟩=>p2 (x::xs) H2 μ2 .refl R2.g (.cons (q1.mono e2) q2)
theorem Yl(ha:PE3 ca X a ma)(he:∀whole,isTrue a X.env whole=(do let v <-whole;standAt a.pos;holding [v] (truthy v)):=by intro _;rfl):PT3 ca X a (Qk ma) :=
 λpn Φ=>Qdx (QmH (X:=xat X ca pn Φ) (ha pn Φ) he) λσ H Q ⟨σ3,g,μ,R,p⟩=>QZ (QlA R p) λx H1 hQ=>by
  obtain⟨d,g1,μ1,e1,R1,q1,p1⟩:=hQ
  cases q1 with
  |bl b=>exact⟨b,rfl,p1 H1 μ1 .refl R1.g⟩
  |_=>exact p1.elim
theorem Qau{op:CmpOp}{r:R2}{f:D->D->G->Res D}(ho:∀pn Φ,OpR (xat X ca pn Φ) (compareOp op) r)(hp:Jp X.K ca r f)(ha:PE3 ca X a ma)(hb:PE3 ca X b mb)(hm:behindInMarks op b=false):PT3 ca X (.Compare a [op] [b] pos) (Qk (mOp2 f ma mb)) :=
 λpn Φ=>Qdx (Qlm (ho pn Φ) (ha pn Φ) (hb pn Φ) hm) λσ H Q hQ=>by
  obtain⟨σ3,g,μ,R,p⟩:=hQ
  have q:up X.K ca Φ (mOp2 f ma mb) σ H λx H'=>∃k,x=.bl k/\Q k H':=QZ (QlA R p) λx H1 hQ=>by
   obtain⟨d,g1,μ1,e1,R1,q1,p1⟩:=hQ
   cases q1 with
   |bl b=>exact⟨b,rfl,p1 H1 μ1 .refl R1.g⟩
   |_=>exact p1.elim
  exact Qgb hp σ H _ q
theorem Qal(ha:PT3 ca X a ta):PT3 ca X (.UnaryOp .Not a pos) (JI ta) :=
 λpn Φ=>Qdx (QmK (X:=xat X ca pn Φ) (ha pn Φ)) λσ H Q ⟨σ3,g,μ,R,p⟩=>QbS (Qh3 R p) λb H1 ⟨g1,μ1,e1,R1,p1⟩=>p1 H1 μ1 .refl R1.g
theorem Qav(ha:PT3 ca X a ta):PW3 ca X (.BoolOp .And [a] pos) ta:=λpn Φ=>Qla (X:=xat X ca pn Φ) (ha pn Φ)
theorem Qam(ha:PT3 ca X a ta):PW3 ca X (.BoolOp .Or [a] pos) ta:=λpn Φ=>QmI (X:=xat X ca pn Φ) (ha pn Φ)
theorem Qby(ha:PT3 ca X a ta)(hb:PW3 ca X (.BoolOp .And (b::rest) pos) tb):PW3 ca X (.BoolOp .And (a::b::rest) pos) (Qat ta tb) :=
 λpn Φ=>Qh4 (QmJ (X:=xat X ca pn Φ) (ha pn Φ) (hb pn Φ)) λσ H Q ⟨σ3,g,μ,R,p⟩=>QbS (Qh3 R p) λb H1 hQ=>by
  obtain⟨g1,μ1,e1,R1,p1⟩:=hQ
  cases b with
  |true=>rw[Ud rfl]at p1 ⊢;exact⟨σ3,g1,μ1,R1,p1⟩
  |false=>rw[Ue Ug]at p1 ⊢;exact p1 H1 μ1 .refl R1.g
theorem QcX(ha:PT3 ca X a ta)(hb:PW3 ca X (.BoolOp .Or (b::rest) pos) tb):PW3 ca X (.BoolOp .Or (a::b::rest) pos) (mOrT ta tb) :=
 λpn Φ=>Qh4 (QoC (X:=xat X ca pn Φ) (ha pn Φ) (hb pn Φ)) λσ H Q ⟨σ3,g,μ,R,p⟩=>QbS (Qh3 R p) λb H1 hQ=>by
  obtain⟨g1,μ1,e1,R1,p1⟩:=hQ
  cases b with
  |true=>rw[Ud rfl]at p1 ⊢;exact p1 H1 μ1 .refl R1.g
  |false=>rw[Ue Ug]at p1 ⊢;exact⟨σ3,g1,μ1,R1,p1⟩
theorem r_w(h:PW3 ca X e ta):PT3 ca X e ta:=λpn Φ=>(h pn Φ).pt
theorem Qni(ha:PE3 ca X a ma):PE3 ca X (.UnaryOp .Not a pos) (mNot ma) :=
 λpn Φ=>Q3 (QmN (X:=xat X ca pn Φ) (ha pn Φ)) λσ H Q ⟨σ3,g,μ,R,p⟩=>QZ (Jn R p) λx H1 hQ=>by
  obtain⟨d,g1,μ1,e1,R1,q1,p1⟩:=hQ
  cases q1 with
  |bl b=>exact⟨b,rfl,p1 _ H1 μ1 .refl R1.g (.bl _)⟩
  |_=>exact p1.elim
theorem Qey{op:BoolOp}(ha:PE3 ca X a ma):PE3 ca X (.BoolOp op [a] pos) ma:=λpn Φ=>QmL (X:=xat X ca pn Φ) (ha pn Φ)
theorem Qcd(ha:PE3 ca X a ma)(hb:PE3 ca X (.BoolOp .And (b::rest) pos) mb):PE3 ca X (.BoolOp .And (a::b::rest) pos) (mAnd ma mb) :=
 λpn Φ=>Q3 (QmM (X:=xat X ca pn Φ) (ha pn Φ) (hb pn Φ)) λσ H Q ⟨σ3,g,μ,R,p⟩=>QZ (Jn R p) λx H1 hQ=>by
  obtain⟨d,g1,μ1,e1,R1,q1,p1⟩:=hQ
  cases q1 with
  |bl b =>
   refine⟨b,rfl,?_⟩
   cases b with
   |true=>rw[Ud rfl];exact⟨σ3,g1,μ1,R1,p1⟩
   |false=>rw[Ue Ug];exact p1 _ H1 μ1 .refl R1.g (.bl _)
  |_=>exact p1.elim
theorem Qdz(hc:PT3 ca X c tc)(ha:PE3 ca X a ma)(hb:PE3 ca X b mb):PE3 ca X (.IfExp c a b pos) (mIfE tc ma mb) :=
 λpn Φ=>Q3 (Qju (X:=xat X ca pn Φ) (hc pn Φ) (ha pn Φ) (hb pn Φ)) λσ H Q ⟨σ3,g,μ,R,p⟩=>QbS (Qng R p) λb H1 hQ=>by
  obtain⟨g1,μ1,e1,R1,p1⟩:=hQ
  cases b with
  |true=>rw[Ud rfl]at p1 ⊢;exact⟨σ3,g1,μ1,R1,p1⟩
  |false=>rw[Ue Ug]at p1 ⊢;exact⟨σ3,g1,μ1,R1,p1⟩
theorem Y3:SZ<=sizeLine:=by rw[Wj];decide
theorem Dens.sz{K:Frag}{μ:List Addr}{H:Hp}{vs:List V}{ds:List D}(h:Dens K μ H vs ds)(z:ds.length<=SZ):vs.length<=sizeLine:=by rw[h.length];exact Ut z Y3
theorem Zt{k:Nat}(h:PA3 ca X es mr):PE3 ca X (.Tuple es k pos) (mOpA pTup mr) :=
 λpn Φ=>Q3 (QkG (X:=xat X ca pn Φ) (h pn Φ)) λσ H Q ⟨σ3,g,μ,R,p⟩=>Jo (Qdc R p) λxs H1 hQ=>by
  obtain⟨ds,g1,μ1,e1,R1,q1,p1⟩:=hQ
  unfold pTup at p1
  by_cases z:ds.length<=SZ
  ·rw[Ud z]at p1
   exact⟨q1.sz z,λt ht=>p1 _ _ μ1 (QI ht) (R1.g.new ht) (.tup (.of Ql) (q1.mono (QI ht)))⟩
  ·rw[Ue z]at p1;exact p1.elim
theorem QbF(h:PA3 ca X es mr):PE3 ca X (.List es pos) (mOpA newL mr) :=
 λpn Φ=>Q3 (Qm5 (X:=xat X ca pn Φ) (h pn Φ)) λσ H Q ⟨σ3,g,μ,R,p⟩=>Jo (Qdc R p) λxs H1 hQ=>by
  obtain⟨ds,g1,μ1,e1,R1,q1,p1⟩:=hQ
  unfold newL at p1
  by_cases z:ds.length<=SZ
  ·rw[Ud z]at p1
   refine⟨q1.sz z,λt ht=>p1 _ _ (μ1++[t]) (Qq ht) (R1.g.push ht ⟨xs,Ql,q1.mono (Qq ht)⟩) (.ref ?_)⟩
   rw[<-R1.g.len];simp
  ·rw[Ue z]at p1;exact p1.elim
end
section
variable{X:Cx}{ca:Nat->Addr}{pins:List (Addr×Obj)}{σ:L2.St}{H:Hp}{s:Shared}{a:Addr}{x:Xc}{E:Value->Shared->Prop}
theorem QkK{pn:List (Addr×Obj)}{Φ:XS}(I:Inv (xat X ca pn Φ) pins σ H s):Inv (xon X pn) pins σ H s:=(Inv.wish I λ_ _=>False)
theorem Qgc{b:Addr}{H':Hp}(I:Inv X pins σ H s)(hb:s.heap.get? b=none)(hn:H' b=none):FpW X pins H' b:=by
 refine⟨hn,λz=>?_,λz=>?_,?_,λx c e z=>?_,λp hp z=>?_⟩
 ·obtain⟨m,⟨o,_,_,ho,_⟩,_⟩:=I.loc
  rw[z,ho]at hb;cases hb
 ·obtain⟨_,o,ho,_⟩:=I.funs.mem z
  rw[ho]at hb;cases hb
 ·by_cases hx:b∈X.ex
  ·exact .inl hx
  ·refine .inr ?_
   cases q:X.s₀.heap.get? b with
   |none=>rfl
   |some o =>
    obtain⟨o',e'⟩:=I.base.there b o q hx
    rw[e']at hb;cases hb
 ·obtain⟨v,o,ho,_⟩:=I.cell x c e
  rw[z,hb]at ho;cases ho
 ·rw[<-z,(I.pin p hp).1]at hb;cases hb
theorem Qh7{H':Hp}{h':Heap}{g':Array GenState}{t':Nat}{d':Drawn}{ch:List Addr}(I:Inv X pins σ H s)(hch:∀b∈ch,(b∈X.ex\/X.s₀.heap.get? b=none)/\b≠X.env.locals/\(∀x c,X.env.cells.lookup x=some c->c≠b)/\∀p∈X.pn++pins,p.1≠b)(keep:∀b o,b≠X.env.locals->b∉X.fs->b∉ch->s.heap.get? b=some o->H b=none->h'.get? b=some o)(slot:∀b o,b≠X.env.locals->b∈X.fs->b∉ch->s.heap.get? b=some o->H b=none->∃sl,h'.get? b=some {o with slots:=sl})(free:∀b o,b∉ch->s.heap.get? b=some o->H b=none->H' b=none)(there:∀b o,b∉ch->s.heap.get? b=some o->∃o',h'.get? b=some o')(tups:∀b xs,H b=some (.tup xs)->H' b=some (.tup xs))(frzs:∀b o u,H b=some (.frz o u)->H' b=some (.frz o u))(tbls:∀b ps,H b=some (.tbl ps)->∃more,H' b=some (.tbl (ps++more)))(ns:∀m,s.heap.Ns X.env.locals m->h'.Ns X.env.locals m)(hok:HOk X.prog X.w H' h')(hg:AllBare g'):
  Inv X pins σ H' {s with heap:=h',gens:=g',drawn:=d',toks:=t'}:=by
 have neL:∀b o,X.s₀.heap.get? b=some o->b≠X.env.locals:=λb o e=>UD (Uq (Ui e) I.ok.above)
 have neC:∀b o,X.s₀.heap.get? b=some o->b∉X.ex->b∉ch:=λb o e hx hb=>by
  rcases(hch b hb).1 with z|z
  ·exact hx z
  ·rw[z]at e;cases e
 have cellK:∀x c,X.env.cells.lookup x=some c->∀v,s.heap.IsCell c v->h'.IsCell c v:=λx c e v hQ=>by
  obtain⟨o,ho,hd⟩:=hQ
  have nch:c∉ch:=λz=>(hch c z).2.2.1 x c e rfl
  by_cases hc:c∈X.fs
  ·obtain⟨sl,q⟩:=slot c o (I.cne x c e) hc nch ho (I.freeC x c e)
   exact⟨_,q,hd⟩
  ·exact⟨o,keep c o (I.cne x c e) hc nch ho (I.freeC x c e),hd⟩
 refine⟨I.ok,I.os,hg,⟨λb o e n hb hx=>?_,λb o e n hb hx=>?_,λb o e n hx=>?_,λb o e hx=>?_,λb xs e=>tups b xs (I.base.tups b xs e),λb o xs e=>frzs b o xs (I.base.frzs b o xs e),λb ps e=>?_⟩,?_,λx c e=>?_,?_,λx c e=>?_,λp hp=>?_,hok,I.len⟩
 ·exact keep b o (neL b o e) hb (neC b o e hx) (I.base.keep b o e n hb hx) (I.base.free b o e n hx)
 ·obtain⟨sl,e1⟩:=I.base.slot b o e n hb hx
  obtain⟨sl',e2⟩:=slot b _ (neL b o e) hb (neC b o e hx) e1 (I.base.free b o e n hx)
  exact⟨sl',e2⟩
 ·obtain⟨o',e1⟩:=I.base.there b o e hx
  exact free b o' (neC b o e hx) e1 (I.base.free b o e n hx)
 ·obtain⟨o',e1⟩:=I.base.there b o e hx
  exact there b o' (neC b o e hx) e1
 ·obtain⟨m1,e1⟩:=I.base.tbls b ps e
  obtain⟨m2,e2⟩:=tbls b _ e1
  exact⟨m1++m2,by rw[e2,RE]⟩
 ·obtain⟨m,hn,hl⟩:=I.loc
  refine⟨m,ns m hn,λi x v e1 e2 e3=>?_⟩
  obtain⟨u,r,l⟩:=hl i x v e1 e2 e3
  refine⟨u,r,?_⟩
  rcases l with l|⟨k,c,e,z⟩
  ·exact .inl l
  ·exact .inr ⟨k,c,e,cellK x c e _ z⟩
 ·obtain⟨v,z⟩:=I.cell x c e
  exact⟨v,cellK x c e v z⟩
 ·obtain⟨m,⟨o,_,_,ho,_⟩,_⟩:=I.loc
  exact free _ o (λz=>(hch _ z).2.1 rfl) ho I.free
 ·obtain⟨v,o,ho,hd⟩:=I.cell x c e
  exact free c o (λz=>(hch c z).2.2.1 x c e rfl) ho (I.freeC x c e)
 ·obtain⟨e,n,ne,nf,d⟩:=I.pin p hp
  have nch:p.1∉ch:=λz=>(hch p.1 z).2.2.2 p hp rfl
  exact⟨keep p.1 p.2 ne nf nch e n,free p.1 p.2 nch e n,ne,nf,d⟩
theorem Qgd{ch:List Addr}{h':Heap}(I:Inv X pins σ H s)(hch:∀b∈ch,FpW X pins H b)(keep:∀b o,b∉ch->b≠X.env.locals->b∉X.fs->s.heap.get? b=some o->h'.get? b=some o)(slot:∀b o,b∉ch->s.heap.get? b=some o->∃sl,h'.get? b=some {o with slots:=sl}):Inv X pins σ H {s with heap:=h'}:=by
 have nl:X.env.locals∉ch:=λz=>(hch _ z).2.1 rfl
 have nt:∀b v,H b=some v->b∉ch:=λb v e z=>by rw[(hch b z).1]at e;cases e
 have nf:∀b v,H b=some v->b∉X.fs:=λb v e z=>by
  obtain⟨_,o,ho,_⟩:=I.ok.funs.mem z
  have:=I.base.free b o ho (I.ok.frf b z) λq=>I.ok.exfs b q z
  rw[this]at e;cases e
 have nL:∀b v,H b=some v->b≠X.env.locals:=λb v e z=>by rw[z,I.free]at e;cases e
 refine Qh7 (h':=h') (H':=H) (g':=s.gens) (t':=s.toks) (d':=s.drawn) (ch:=ch) I (λb hb=>⟨(hch b hb).2.2.2.1,(hch b hb).2.1,(hch b hb).2.2.2.2.1,(hch b hb).2.2.2.2.2⟩) (λb o h1 h2 h3 e _=>keep b o h3 h1 h2 e) (λb o _ _ h3 e _=>slot b o h3 e)
  (λb o _ _ n=>n) (λb o h e=>let ⟨sl,q⟩:=slot b o h e;⟨_,q⟩) (λb v e=>e) (λb o v e=>e) (λb ps e=>⟨#[],by rw[e];simp⟩) (λm hm=>?_) (λb v e=>?_) I.bare
 ·obtain⟨o,es,ep,ho,rr⟩:=hm
  obtain⟨sl,q⟩:=slot _ o nl ho
  exact⟨_,es,ep,q,rr⟩
 ·refine(I.hok b v e).stay (λc' v' hc' q=>?_) (λc' q=>q) λc' xs' q=>q
  rcases hc' with rfl|hc'
  ·exact keep _ _ (nt _ _ e) (nL _ _ e) (nf _ _ e) q
  ·exact keep _ _ (nt _ _ hc') (nL _ _ hc') (nf _ _ hc') q
noncomputable def FlN(X:Cx)(ca:Nat->Addr)(a:Addr)(x:Xc)(H:Hp)(h:Heap):Prop :=
 FpW X [] H a/\x.2=none/\∃oe vs T oT ts,h.get? a=some oe/\XOb ca x oe/\oe.data=.fields vs/\vs[1]?=some (.ref T)/\T≠a/\FpW X [] H T/\h.get? T=some oT/\oT.data=.fields ts/\ts[3]?=some (rawInt X.env.locals)
noncomputable def FlT(X:Cx)(ca:Nat->Addr)(a:Addr)(x:Xc)(H:Hp)(h:Heap):Prop :=
 FpW X [] H a/\x.2=none/\∃oe vs T oT ts,h.get? a=some oe/\XOb ca x oe/\oe.data=.fields vs/\vs[1]?=some (.ref T)/\T≠a/\FpW X [] H T/\h.get? T=some oT/\oT.data=.fields ts/\3<ts.size
theorem FlN.t{h:Heap}(f:FlN X ca a x H h):FlT X ca a x H h:=by
 obtain⟨f1,f2,oe,vs,T,oT,ts,e1,e2,e3,e4,e5,e6,e7,e8,e9⟩:=f
 exact⟨f1,f2,oe,vs,T,oT,ts,e1,e2,e3,e4,e5,e6,e7,e8,(Tq.mp e9).1⟩
theorem FlN.fl{h:Heap}(f:FlN X ca a x H h):Fl X ca a x H h:=by
 obtain⟨f1,f2,oe,vs,T,oT,ts,e1,e2,e3,e4,e5,e6,e7,e8,e9⟩:=f
 exact⟨f1,f2,oe,vs,e1,e2,e3,(Tq.mp e4).1,.inr ⟨T,oT,ts,e4,e5,e6,e7,e8,(Tq.mp e9).1,.inr e9⟩⟩
theorem Qdd{h:Heap}{b:Addr}{o:Obj}{ts:Array Value}(i:Nat)(v:Value)(e:h.get? b=some o)(d:o.data=.fields ts):
  (h.update b (Obj.mapFields (·.setIfInBounds i v))).get? b=some (o.mapFields (·.setIfInBounds i v))/\(o.mapFields (·.setIfInBounds i v)).data=.fields (ts.setIfInBounds i v)/\(o.mapFields (·.setIfInBounds i v)).cls=o.cls :=
 ⟨Rn _ e (Obj.isFreed_of_fields (RG d _)),RG d _,Obj.cls_mapFields _ _⟩
theorem Qge{base:Heap}{env:Env}{outer:List Env}{L:Addr}{oe:Obj}{vs:Array Value}{head:Value}{hn:Bool}{M:Model}{A:Around}{Q:Unit->Shared->Prop}(hfr:A.frames=some (env::outer))(hl:s.heap.FunFrames base (env::outer))(hf:env.frame=some L)(he:s.heap.get? a=some oe)(hd:oe.data=.fields vs)(hsz:1<vs.size)(ha:a∉(env::outer).filterMap (·.frame))(k:∀h₁ (cells:Array Value),Heap.SlotsOnly ((env::outer).filterMap (·.frame)) s.heap h₁->cells[3]?=some (rawInt L) ->
   Q () {s with heap:=(h₁.push {cls:=.type "traceback",dict:=none,data:=.fields cells}).update a (Obj.mapFields (·.setIfInBounds 1 (.ref h₁.objs.size)))}):
  wpAny M A (do let fv <-frameOf env;let pl <-entryPlaceOf L hn;let b <-EntryCells.newEntry head fv .none (rawInt L) .none pl;setField (.ref a) 1 b) Q E s:=by
 refine Ua (wpAny_frameOf_fun hfr hl hf λh₁ so=>Ua (wpAny_entryPlaceOf λpl hpl=>?_))
 unfold EntryCells.newEntry newFields
 refine Ua (U4 ?_ (hpl.sizeOk5 _ _ _ _ _))
 have e1:h₁.get? a=some oe:=(so.2.1 a ha).trans he
 refine RU (Ub _ e1) hd hsz (k h₁ _ so ?_)
 first
  | (simp;done)
  | (rcases hpl with rfl|⟨_,_,_,_,_,_,_,rfl⟩ <;> simp)
theorem Qfo{M:Model}{Q:Unit->Shared->Prop}(I:Inv X [] σ H s)(hk:X.stack=X.env::X.outer)(hf:X.env.frame=some X.env.locals)(fl:Fl X ca a x H s.heap)(k:∀h',Inv X [] σ H {s with heap:=h'}->FlN X ca a x H h'->Q () {s with heap:=h'}):wpAny M X.A (noteFrame (.ref a) X.env) Q E s:=by
 obtain⟨fp,ln,oe,vs,he,hc,hd,hsz,hv⟩:=fl
 have hfr:X.A.frames=some (X.env::X.outer):=by rw[<-hk];exact I.ok.frames
 have hst:s.heap.FunFrames X.base (X.env::X.outer):=by rw[<-hk];exact I.stack
 have hfs:(X.env::X.outer).filterMap (·.frame)=X.env.locals::X.fs:=by rw[TL,hf];rfl
 have ha:a∉(X.env::X.outer).filterMap (·.frame):=by
  rw[hfs]
  intro z
  rcases UE.mp z with z|z
  ·exact fp.2.1 z
  ·exact fp.2.2.1 z
 -- an entry is laid over a heap that differs from s at ch alone
 have fin:∀(h0 h₁:Heap)(cells:Array Value)(ch:List Addr),(∀b∈ch,FpW X [] H b)->(∀b o,b∉ch->s.heap.get? b=some o->h0.get? b=some o)->h0.objs.size=s.heap.objs.size->h0.get? a=some oe ->
   Heap.SlotsOnly ((X.env::X.outer).filterMap (·.frame)) h0 h₁->cells[3]?=some (rawInt X.env.locals) ->
   Q () {s with heap:=(h₁.push {cls:=.type "traceback",dict:=none,data:=.fields cells}).update a (Obj.mapFields (·.setIfInBounds 1 (.ref h₁.objs.size)))}:=by
  intro h0 h₁ cells ch hch hk0 hz he0 so hcl
  have e1:h₁.get? a=some oe:=(so.2.1 a ha).trans he0
  obtain⟨u1,u2,u3⟩:=Qdd 1 (.ref h₁.objs.size) (Ub {cls:=.type "traceback",dict:=none,data:=.fields cells} e1) hd
  have hTa:h₁.objs.size≠a:=RW (Ui e1)
  have oth:∀b o,b≠a->h₁.get? b=some o->((h₁.push {cls:=.type "traceback",dict:=none,data:=.fields cells}).update a (Obj.mapFields (·.setIfInBounds 1 (.ref h₁.objs.size)))).get? b=some o:=λb o hb e =>
   (U6 _ _ (Ne.symm hb)).trans (Ub _ e)
  refine k _ (Qgd (ch:=a::ch) I (λb hb=>?_) (λb o h1 h2 h3 e=>?_) λb o h1 e=>?_) ⟨fp,ln,_,_,h₁.objs.size,_,cells,u1,hc.map _,u2,by simp[hsz],hTa,?_,(U6 _ _ (Ne.symm hTa)).trans (Up _ rfl),rfl,hcl⟩
  ·rcases UE.mp hb with e|e
   ·rw[e];exact fp
   ·exact hch b e
  ·refine oth b o (λz=>h1 (by rw[z];exact Uu)) ?_
   rw[so.2.1 b (by rw[hfs];intro z;rcases UE.mp z with z|z;(· exact h2 z);exact h3 z)]
   exact hk0 b o (λz=>h1 (Uv _ z)) e
  ·obtain⟨sl,q⟩:=so.2.2 b o (hk0 b o (λz=>h1 (Uv _ z)) e)
   exact⟨sl,oth b _ (λz=>h1 (by rw[z];exact Uu)) q⟩
  ·refine Qgc I (Heap.get?_none_of_le ?_) (I.hok.fresh ?_) <;> rw[so.1,hz] <;> exact Uc _
 unfold noteFrame
 simp only[hf]
 rcases hv with hv|⟨T,oT,ts,hv,hTa,fT,hT,hdT,hs3,h3⟩
 ·refine Ua (UV he hd hv ?_)
  rw[Ue (by decide)]
  exact Qge hfr hst hf he hd hsz ha λh₁ cells so hcl=>fin s.heap h₁ cells [] (by simp) (λ_ _ _ e=>e) rfl he so hcl
 ·refine Ua (UV he hd hv ?_)
  rw[Ud (show(Value.ref T != Value.none)=true from by simp)]
  rcases h3 with h3|h3
  ·refine Ua (UV hT hdT h3 ?_)
   rw[Ue (show ¬((Value.none == rawInt X.env.locals)=true) from by simp[rawInt])]
   refine Ua (RU hT hdT hs3 ?_)
   have oth:∀b o,b≠T->s.heap.get? b=some o->(s.heap.update T (Obj.mapFields (·.setIfInBounds 3 Value.none))).get? b=some o:=λb o hb e=>(U6 _ _ (Ne.symm hb)).trans e
   have kp:∀b o,s.heap.get? b=some o->(∀vs,o.data≠.fields vs)->(s.heap.update T (Obj.mapFields (·.setIfInBounds 3 Value.none))).get? b=some o:=λb o e n=>oth b o (λz=>by rw[z,hT]at e;cases e;exact n _ hdT) e
   refine Qge (s:={s with heap:=s.heap.update T (Obj.mapFields (·.setIfInBounds 3 Value.none))}) hfr (hst.of_keeps λb o e n=>⟨o,kp b o e n,rfl⟩) hf (oth a oe (Ne.symm hTa) he) hd hsz ha λh₁ cells so hcl=>?_
   exact fin _ h₁ cells [T] (λb hb=>by rw[Uw.mp hb];exact fT) (λb o hb e=>oth b o (λz=>hb (by simp[z])) e) (Heap.size_after_update ..) (oth a oe (Ne.symm hTa) he) so hcl
  ·refine Ua (UV hT hdT h3 ?_)
   rw[Ud (show(rawInt X.env.locals == rawInt X.env.locals)=true from by simp)]
   exact Uh (k s.heap I ⟨fp,ln,oe,vs,T,oT,ts,he,hc,hd,hv,hTa,fT,hT,hdT,h3⟩)
theorem JM{M:Model}{A:Around}{Q:Unit->Shared->Prop}{fo:Option Addr}(I:Inv X [] σ H s)(fl:FlT X ca a x H s.heap)(k:∀h' T oT ts oe vs,Inv X [] σ H {s with heap:=h'}->h'.get? a=some oe->XOb ca x oe->oe.data=.fields vs->vs[1]?=some (.ref T)->T≠a->FpW X [] H T ->
      h'.get? T=some oT->oT.data=.fields ts->3<ts.size->ts[3]?=some (fo.elim Value.none λf=>rawInt f)->Q () {s with heap:=h'}):wpAny M A (setFlight (.ref a) fo) Q E s:=by
  obtain⟨fp,ln,oe,vs,T,oT,ts,he,hc,hd,hv,hTa,fT,hT,hdT,hs3⟩:=fl
  unfold setFlight
  refine Ua (UV he hd hv ?_)
  rw[Ud (show(Value.ref T != Value.none)=true from by simp)]
  have oth:∀b o,b≠T->s.heap.get? b=some o->(s.heap.update T (Obj.mapFields (·.setIfInBounds 3 (fo.elim Value.none λf=>rawInt f)))).get? b=some o:=λb o hb e=>(U6 _ _ (Ne.symm hb)).trans e
  obtain⟨u1,u2,u3⟩:=Qdd 3 (fo.elim Value.none λf=>rawInt f) hT hdT
  refine RU hT hdT hs3 (k _ T _ _ oe vs (Qgd (ch:=[T]) I (λb hb=>by rw[Uw.mp hb];exact fT) (λb o h1 _ _ e=>oth b o (λz=>h1 (by simp[z])) e) λb o h1 e=>⟨o.slots,oth b o (λz=>h1 (by simp[z])) e⟩)
    (oth a oe (Ne.symm hTa) he) hc hd hv hTa fT u1 u2 (by simpa using hs3) (by simp[hs3]))
theorem QkL(hk:X.stack=X.env::X.outer)(hf:X.env.frame=some X.env.locals)(pn:List (Addr×Obj))(Φ:XS):PassesOwn (model X.prog X.w) X.A X.env (xat X ca pn Φ).xe:=by
 rintro v s ⟨a,x,σ,H,rfl,I,fl,q⟩
 refine Qfo (X:=xon X pn) I hk hf fl λh1 I1 f1=>?_
 unfold cameBackBy
 obtain⟨fp,ln,oe,vs,T,oT,ts,he,hc,hd,hv,hTa,fT,hT,hdT,h3⟩:=id f1
 refine Ua (UV he hd hv ?_)
 rw[Ue (show ¬((Value.ref T == Value.none)=true) from by simp)]
 refine JM (X:=xon X pn) (fo:=X.env.frame) I1 f1.t λh2 T oT ts oe vs I2 a1 a2 a3 a4 a5 a6 a7 a8 a9 a10=>?_
 rw[hf]at a10
 exact⟨a,x,σ,H,rfl,I2,FlN.fl ⟨fp,ln,oe,vs,T,oT,ts,a1,a2,a3,a4,a5,a6,a7,a8,a10⟩,q⟩
end
noncomputable def CXW(P:Program)(w:World)(ca:Nat->Addr):CXT:=λouter H s E v s'=>∃(a:Addr)(x:Xc)(H':Hp),v=.ref a/\s'.os=s.os/\AllBare s'.gens/\Un (frs outer) [] H H' s.heap s'.heap/\HOk P w H' s'.heap/\x.2=none /\
 (∃oe vs T oT ts,s.heap.get? a=none/\H' a=none/\s'.heap.get? a=some oe/\XOb ca x oe/\oe.data=.fields vs/\vs[1]?=some (.ref T)/\T≠a/\s.heap.get? T=none/\H' T=none/\s'.heap.get? T=some oT/\oT.data=.fields ts/\ts[3]?=some .none) /\
 E (.int x.1 0) x.2 H'
section
variable{P:Program}{w:World}{K:Frag}{mg:Str->Option Value}{base:Heap}{ca:Nat->Addr}
theorem QjK{N:List Str}{qual:Str}{scope:Scope}{f:Addr}{cd:Value}{A:Around}{outer:List Env}{s s':Shared}{H:Hp}{E:XK}{v:Value}(h:XE (xon (cxOf (CXW P w ca) P w K mg base N qual scope f cd A outer s H E) []) ca (λx _ H'=>E (.int x.1 0) x.2 H') v s'):(cxOf (CXW P w ca) P w K mg base N qual scope f cd A outer s H E).xe v s':=by
 obtain⟨a,x,σ,H',rfl,I,fl,q⟩:=h
 show wpAny _ _ (leaving _ (.ref a)) _ _ s'
 unfold leaving
 refine Ua (Qfo I rfl rfl fl λh1 I1 f1=>?_)
 obtain⟨fp,ln,_⟩:=id f1
 refine JM (fo:=none) I1 f1.t λh2 T oT ts oe vs I2 a1 a2 a3 a4 a5 a6 a7 a8 a9 a10=>?_
 refine⟨a,x,H',rfl,I2.os,I2.bare,I2.base,I2.hok,ln,⟨oe,vs,T,oT,ts,?_,fp.1,a1,a2,a3,a4,a5,?_,a6.1,a7,a8,a10⟩,q⟩
 ·rcases fp.2.2.2.1 with z|z
  ·exact absurd (show a∈([]:List Addr) from z) (by simp)
  ·exact z
 ·rcases a6.2.2.2.1 with z|z
  ·exact absurd (show T∈([]:List Addr) from z) (by simp)
  ·exact z
end
section
variable{X:Cx}{ca:Nat->Addr}{pn:List (Addr×Obj)}{Φ:XS}
theorem Qfp{pins:List (Addr×Obj)}{σ:L2.St}{H:Hp}{s s':Shared}{v:Value}(I:Inv (xat X ca pn Φ) pins σ H s)(h:CXW X.prog X.w ca X.stack H s (λc l H'=>∀x:Xc,c=.int x.1 0->l=x.2->Φ x σ H') v s'):(xat X ca pn Φ).xe v s':=by
 obtain⟨a,x,H',rfl,os,bare,un,hok,ln,⟨oe,vs,T,oT,ts,e1,e2,e3,e4,e5,e6,e7,e8,e9,e10,e11,e12⟩,q⟩:=h
 have I0:Inv (xon X pn) [] σ H s:=(QkK I).pins_of λp hp=>absurd hp (by simp)
 have I1:Inv (xon X pn) [] σ H' s':=Inv.call' (ch:=[]) I0 os un hok bare λb z=>absurd z (by simp)
 refine⟨a,x,σ,H',rfl,I1,⟨Qgc I0 e1 e2,ln,oe,vs,e3,e4,e5,(Tq.mp e6).1,.inr ⟨T,oT,ts,e6,e7,Qgc I0 e8 e9,e10,e11,(Tq.mp e12).1,.inl e12⟩⟩,q x rfl rfl⟩
end
section
variable{X:Cx}{ca:Nat->Addr}{a b c e:Expr}{st:Stmt}{sts rest:List Stmt}{ma mb me:ME}{tc:MT}{m m':MS}{pos:Pos}
theorem Qz:PSs3 ca X [] QN:=λpn Φ=>Qga (QhJ (X:=xat X ca pn Φ)) λ_ σ H ⟨_,_,μ,R,p⟩=>p σ H μ .refl R
theorem Qnj{K:Frag}{Φ:XS}(E:Ends)(σ:L2.St)(H:Hp)(h:upS K ca Φ (mSeq m m') E σ H):tSeq (upS K ca Φ m) (upS K ca Φ m') E σ H:=by
 obtain⟨σ3,g,μ,R,p⟩:=h
 refine⟨σ3,g,μ,R,?_⟩
 unfold mSeq at p
 cases hm:m σ3 g with
 |nx σ1 g1 =>
  rw[hm]at p
  exact λσ' H' μ' e' R'=>⟨σ1,g1,μ',R',PostS.go e' p⟩
 |rt d g1=>rw[hm]at p;exact p
 |bk _ _=>rw[hm]at p;exact p
 |ct _ _=>rw[hm]at p;exact p
 |raise _ _ _=>rw[hm]at p;exact p
 |stuck=>rw[hm]at p;exact p
theorem Qc(h1:PS3 ca X st m)(h2:PSs3 ca X rest m'):PSs3 ca X (st::rest) (mSeq m m'):=λpn Φ=>Qga (Qjv (X:=xat X ca pn Φ) (h1 pn Φ) (h2 pn Φ)) Qnj
theorem Qh(h1:PS3 ca X st m):PSs3 ca X [st] m:=λpn Φ=>Qlb (X:=xat X ca pn Φ) (h1 pn Φ)
theorem Yu:PS3 ca X st YM:=λpn Φ=>ZW (Qjw (X:=xat X ca pn Φ)) λ_ _ _ ⟨_,_,_,_,p⟩=>p
theorem ZE(he:PE3 ca X e me)(hs:swapsWith e none pos.line X.env=pure false:=by rfl):PS3 ca X (.Expr e pos) (Zq me) :=
 λpn Φ=>ZW (Qlc (X:=xat X ca pn Φ) (he pn Φ) hs) λE σ H ⟨σ3,g,μ,R,p⟩=>⟨σ3,g,μ,R,by
  unfold Zq at p
  cases hm:me σ3 g with
  |ok d g1=>rw[hm]at p;exact λv H' μ' e' r' _=>p σ H' μ' e' (R.go e' r')
  |raise _ _=>rw[hm]at p;exact RaP.stmt R p
  |stuck=>rw[hm]at p;exact p⟩
theorem QV(he:PE3 ca X e me):PS3 ca X (.Return (some e) pos) (mRet me) :=
 λpn Φ=>ZW (QmO (X:=xat X ca pn Φ) (he pn Φ)) λE σ H ⟨σ3,g,μ,R,p⟩=>⟨σ3,g,μ,R,by
  unfold mRet at p
  cases hm:me σ3 g with
  |ok d g1=>rw[hm]at p;exact p
  |raise _ _=>rw[hm]at p;exact RaP.stmt R p
  |stuck=>rw[hm]at p;exact p⟩
theorem Qnk:PS3 ca X (.Return none pos) Qlz:=λpn Φ=>ZW (Qld (X:=xat X ca pn Φ)) λ_ σ H ⟨_,_,μ,R,p⟩=>p .non H μ .refl R.g .non
theorem r_if{sa sb:List Stmt}(hc:PT3 ca X c tc)(ha:PSs3 ca X sa m)(hb:PSs3 ca X sb m'):PS3 ca X (.If c sa sb pos) (mIf tc m m') :=
 λpn Φ=>ZW (QoI (X:=xat X ca pn Φ) (hc pn Φ) (ha pn Φ) (hb pn Φ)) λE σ H ⟨σ3,g,μ,R,p⟩=>⟨σ3,g,μ,R,by
  unfold mIf at p
  cases hm:tc σ3 g with
  |ok d g1 =>
   rw[hm]at p
   cases d with
   |true=>exact λH' μ' e' r'=>by show(if true=true then _ else _);rw[Ud rfl];exact⟨σ3,g1,μ',R.go e' r',PostS.go e' (by simpa using p)⟩
   |false=>exact λH' μ' e' r'=>by show(if false=true then _ else _);rw[Ue Ug];exact⟨σ3,g1,μ',R.go e' r',PostS.go e' (by simpa using p)⟩
  |raise _ _=>rw[hm]at p;exact RaP.stmt R p
  |stuck=>rw[hm]at p;exact p⟩
noncomputable def upG(K:Frag)(ca:Nat->Addr)(f:MG):TG:=λv σ H Q=>∃σ3 g μ d σ3',Rep K ca μ σ3 g σ H/\Den K μ H v d/\f d σ3=some σ3'/\∀σ',Rep K ca μ σ3' g σ' H->Q σ' H
def PG3(ca:Nat->Addr)(X:Cx)(tg:Expr)(f:MG):Prop:=∀pn Φ,PG (xat X ca pn Φ) tg (upG X.K ca f)
theorem Qh8{X:Cx}{tg:Expr}{t t':TG}(h:PG X tg t)(i:∀v σ H Q,t' v σ H Q->t v σ H Q):PG X tg t':=λpins s σ H x u Q I r q=>h pins s σ H x u Q I r (i x σ H Q q)
theorem Rep.set{K:Frag}{μ:List Addr}{σ3:S3}{g:G}{σ:L2.St}{H:Hp}{v:V}{d:D}(R:Rep K ca μ σ3 g σ H)(h:Den K μ H v d)(i:Nat):Rep K ca μ (σ3.set i (some d)) g (σ.set i (some v)) H:=by
 refine⟨R.g,by rw[T9,T9,R.len],λj x hx=>?_⟩
 by_cases e:j=i
 ·subst e
  have hl:j<σ3.length:=by
   have:=(Ul.mp hx).1
   simpa using this
  rw[Tf hl]at hx
  cases hx
  exact⟨v,by rw[Tf (by rw[R.len];exact hl)],h⟩
 ·rw[Uk (Ne.symm e)]at hx
  obtain⟨w,h1,h2⟩:=R.st j x hx
  exact⟨w,by rw[Uk (Ne.symm e)];exact h1,h2⟩
theorem Qy(i:Nat){x:Str}(hN:X.N.Nodup)(hi:X.N[i]?=some x:=by rfl)(hx:Loc X.env.scope x:=by first|exact Or.inl rfl|exact Or.inr rfl)(hf:X.fn x=true\/X.env.scope.names.lookup x=some .local:=by first|exact .inl rfl|exact .inr rfl):PG3 ca X (.Name x pos) (gSet i) :=
 λpn Φ=>Qh8 (Qle (X:=xat X ca pn Φ) hN hi hx hf) λv σ H Q hQ=>by
  obtain⟨σ3,g,μ,d,σ3',R,q,e,k⟩:=hQ
  cases e
  exact k _ (R.set q i)
noncomputable def upGs(K:Frag)(ca:Nat->Addr)(fs:List MG):TGs:=λvs σ H Q=>∃σ3 g μ ds σ3',Rep K ca μ σ3 g σ H/\Dens K μ H vs ds/\Qew fs ds σ3=some σ3'/\∀σ',Rep K ca μ σ3' g σ' H->Q σ' H
def PGs3(ca:Nat->Addr)(X:Cx)(tgs:List Expr)(fs:List MG):Prop:=∀pn Φ,PGs (xat X ca pn Φ) tgs (upGs X.K ca fs)
theorem Qgf{X:Cx}{tg:List Expr}{t t':TGs}(h:PGs X tg t)(i:∀v σ H Q,t' v σ H Q->t v σ H Q):PGs X tg t':=λpins s σ H xs us Q I r q=>h pins s σ H xs us Q I r (i xs σ H Q q)
theorem JN:PGs3 ca X [] []:=λpn Φ=>Qgf (Qlf (X:=xat X ca pn Φ)) λvs σ H Q hQ=>by
 obtain⟨σ3,g,μ,ds,σ3',R,q,e,k⟩:=hQ
 cases q with
 |nil=>cases e;exact⟨rfl,k _ R⟩
 |cons _ _=>cases e
theorem QB{es:List Expr}{f:MG}{fs:List MG}(h1:PG3 ca X e f)(h2:PGs3 ca X es fs)(hs:(assignEach (e::es) X.env).map (·.2)=assign e X.env::(assignEach es X.env).map (·.2):=by rfl):PGs3 ca X (e::es) (f::fs) :=
 λpn Φ=>Qgf (Qjx (X:=xat X ca pn Φ) (h1 pn Φ) (h2 pn Φ) hs) λvs σ H Q hQ=>by
  obtain⟨σ3,g,μ,ds,σ3',R,q,e,k⟩:=hQ
  cases q with
  |nil=>cases e
  |@cons v d vs ds q1 q2 =>
   unfold Qew at e
   cases hf:f d σ3 with
   |none=>rw[hf]at e;cases e
   |some σ4 =>
    rw[hf]at e
    exact⟨v,vs,rfl,σ3,g,μ,d,σ4,R,q1,hf,λσ' R'=>⟨σ4,g,μ,ds,σ3',R',q2,e,k⟩⟩
theorem Qez:∀{fs:List MG}{ds:List D}{σ σ':S3},Qew fs ds σ=some σ'->ds.length=fs.length
 |[],[],_,_,_=>rfl
 |[],_::_,_,_,h=>by cases h
 |_::_,[],_,_,h=>by cases h
 |f::fs,d::ds,σ,σ',h=>by
  unfold Qew at h
  cases hf:f d σ with
  |none=>rw[hf]at h;cases h
  |some σ4 =>
   rw[hf]at h
   rw[US,US,Qez (fs:=fs) h]
theorem JO{es:List Expr}{k:Nat}{fs:List MG}(hc:X.calm=true)(h:PGs3 ca X es fs)(hn:(assignEach es X.env).length=fs.length:=by rfl)(hst:(assignEach es X.env).findIdx? (·.1)=none:=by rfl):PG3 ca X (.Tuple es k pos) (Yh fs) :=
 λpn Φ=>Qh8 (QmR (X:=xat X ca pn Φ) hc (h pn Φ) hn hst) λv σ H Q hQ=>by
  obtain⟨σ3,g,μ,d,σ3',R,q,e,kk⟩:=hQ
  cases q with
  |@tup a vs ds ht hs =>
   exact⟨a,vs,rfl,ht,hs.length.trans (Qez e),σ3,g,μ,ds,σ3',R,hs,e,kk⟩
  |_=>cases e
theorem Qnl{K:Frag}{Φ:XS}{f:MG}(E:Ends)(σ:L2.St)(H:Hp)(h:upS K ca Φ (mAsg f me) E σ H):tAsg (up K ca Φ me) (upG K ca f) E σ H:=by
 obtain⟨σ3,g,μ,R,p⟩:=h
 refine⟨σ3,g,μ,R,?_⟩
 unfold mAsg at p
 cases hm:me σ3 g with
 |ok d g1 =>
  rw[hm]at p
  dsimp only at p
  intro v H' μ' e' r' q'
  cases hf:f d σ3 with
  |none=>rw[hf]at p;exact p.elim
  |some σ4 =>
   rw[hf]at p
   exact⟨σ3,g1,μ',d,σ4,R.go e' r',q',hf,λσ' R'=>p σ' H' μ' e' R'⟩
 |raise _ _=>rw[hm]at p;exact RaP.stmt R p
 |stuck=>rw[hm]at p;exact p
theorem Qh9{tg:Expr}{f:MG}(he:PE3 ca X e me)(hg:PG3 ca X tg f)(hs:swapsWithSole [tg] e pos.line X.env=pure false:=by rfl)(hw:swappedStores [tg] e X.env=pure none:=by rfl)(h1:(assignEach [tg] X.env).map (·.2)=[assign tg X.env]:=by rfl):PS3 ca X (.Assign [tg] e pos) (mAsg f me) :=
 λpn Φ=>ZW (QhK (X:=xat X ca pn Φ) (he pn Φ) (hg pn Φ) hs hw h1) Qnl
theorem QoT(i:Nat){x:Str}{pos':Pos}(hN:X.N.Nodup)(he:PE3 ca X e me)(hi:X.N[i]?=some x:=by rfl)(hx:Loc X.env.scope x:=by first|exact Or.inl rfl|exact Or.inr rfl)(hs:swapsWith e (some (.Name x pos')) pos.line X.env=pure false:=by rfl)(hf:X.fn x=true\/X.env.scope.names.lookup x=some .local:=by first|exact .inl rfl|exact .inr rfl):
  PS3 ca X (.Assign [.Name x pos'] e pos) (mAsg (gSet i) me) :=
 λpn Φ=>ZW (QmS (X:=xat X ca pn Φ) hN hi hx (he pn Φ) hs hf) λE σ H h=>by
  obtain⟨σ3,g,μ,R,p⟩:=h
  refine⟨σ3,g,μ,R,?_⟩
  unfold mAsg gSet at p
  cases hm:me σ3 g with
  |ok d g1 =>
   rw[hm]at p
   exact λv H' μ' e' r' q'=>p _ H' μ' e' ((R.go e' r').set q' i)
  |raise _ _=>rw[hm]at p;exact RaP.stmt R p
  |stuck=>rw[hm]at p;exact p
structure FldOk(K:Frag)(ca:Nat->Addr)(cs:List Nat)(f:Str):Prop where
 cl:∀c∈cs,Cls K (ca c)
 no:∀c∈cs,NoAttr K (ca c) f
theorem FRel.look{K:Frag}{μ:List Addr}{H:Hp}{f:Str}{d:D}:∀{fv:List (Str×V)}{fs:List (Str×D)},FRel K μ H fv fs->fs.lookup f=some d->∃v,fv.lookup f=some v/\Den K μ H v d
 |_,_,.nil,h=>by cases h
 | (k,v)::r,(k',d')::r',.cons ⟨e,q⟩ t,h=>by
  have e:k=k':=e
  subst e
  cases hb:f == k with
  |true =>
   simp only[List.lookup,hb]at h ⊢
   cases h
   exact⟨v,rfl,q⟩
  |false =>
   simp only[List.lookup,hb]at h ⊢
   exact FRel.look t h
theorem FRel.no{K:Frag}{μ:List Addr}{H:Hp}{f:Str}:∀{fv:List (Str×V)}{fs:List (Str×D)},FRel K μ H fv fs->fs.lookup f=Option.none->fv.lookup f=Option.none
 |_,_,.nil,_=>rfl
 | (k,v)::r,(k',d')::r',.cons ⟨e,q⟩ t,h=>by
  have e:k=k':=e
  subst e
  cases hb:f == k with
  |true=>simp only[List.lookup,hb]at h;cases h
  |false =>
   simp only[List.lookup,hb]at h ⊢
   exact FRel.no t h
theorem FRel.put{K:Frag}{μ:List Addr}{H:Hp}{f:Str}{v:V}{d:D}(q:Den K μ H v d):∀{fv:List (Str×V)}{fs:List (Str×D)},FRel K μ H fv fs->FRel K μ H (putF f v fv) (putG f d fs)
 |_,_,.nil=>.cons ⟨rfl,q⟩ .nil
 | (k,w)::r,(k',d')::r',.cons ⟨e,z⟩ t=>by
  have e:k=k':=e
  subst e
  show FRel K μ H (if k=f then (k,v)::r else (k,w)::putF f v r) (if k=f then (k,d)::r' else (k,d')::putG f d r')
  by_cases h:k=f
  ·rw[Ud h,Ud h];exact .cons ⟨rfl,q⟩ t
  ·rw[Ue h,Ue h];exact .cons ⟨rfl,z⟩ (FRel.put q t)
theorem Zw{cs:List Nat}{f:Str}(he:PE3 ca X e me)(ok:FldOk X.K ca cs f)(hb:attributeBase e f X.env (eval e X.env)=eval e X.env:=by rfl):PE3 ca X (.Attribute e f pos) (ZU cs f me) :=
 λpn Φ=>Q3 (Qm3 (X:=xat X ca pn Φ) (he pn Φ) hb) λσ H Q ⟨σ3,g,μ,R,p⟩=>QZ (Jn R p) λx H1 hQ=>by
  obtain⟨d,g1,μ1,e1,R1,q1,p1⟩:=hQ
  cases q1 with
  |@ref n a hn =>
   dsimp only at p1
   cases hg:g1[n]? with
   |none=>rw[hg]at p1;exact p1.elim
   |some o =>
    rw[hg]at p1
    obtain⟨a',ha',ob⟩:=R1.g.addr hg
    rw[hn]at ha';cases ha'
    cases o with
    |ins c fs =>
     dsimp only at p1
     obtain⟨dx,fv,hH,fr⟩:=ob
     by_cases hc:c∈cs
     ·rw[Ud hc]at p1
      cases hl:fs.lookup f with
      |none=>rw[hl]at p1;exact p1.elim
      |some y =>
       rw[hl]at p1
       obtain⟨v,h1,h2⟩:=fr.look hl
       exact⟨a,ca c,dx,fv,v,rfl,hH,ok.cl c hc,ok.no c hc,h1,p1 v H1 μ1 .refl R1.g h2⟩
     ·rw[Ue hc]at p1;exact p1.elim
    |_=>exact p1.elim
  |_=>exact p1.elim
theorem Zx{o:Expr}{mo:ME}{cs:List Nat}{f:Str}{pos':Pos}(ho:PE3 ca X o mo)(he:PE3 ca X e me)(ok:FldOk X.K ca cs f)(hs:swapsWith e (some (.Attribute o f pos')) pos.line X.env=pure false:=by rfl):
  PS3 ca X (.Assign [.Attribute o f pos'] e pos) (QM cs f mo me) :=
 λpn Φ=>ZW (Qm4 (X:=xat X ca pn Φ) (ho pn Φ) (he pn Φ) hs) λE σ H ⟨σ3,g,μ,R,p⟩=>⟨σ3,g,μ,R,by
  unfold QM at p
  cases hm:me σ3 g with
  |ok y g1 =>
   rw[hm]at p
   dsimp only at p
   intro vy H1 μ1 e1 r1 q1
   refine⟨σ3,g1,μ1,R.go e1 r1,?_⟩
   cases hm2:mo σ3 g1 with
   |ok d g2 =>
    rw[hm2]at p
    intro vx H2 μ2 e2 r2 q2
    cases q2 with
    |@ref n a hn =>
     dsimp only at p
     cases hg:g2[n]? with
     |none=>rw[hg]at p;exact p.elim
     |some ob =>
      rw[hg]at p
      obtain⟨a',ha',orp⟩:=r2.addr hg
      rw[hn]at ha';cases ha'
      cases ob with
      |ins c fs =>
       dsimp only at p
       obtain⟨dx,fv,hH,fr⟩:=orp
       by_cases hc:c∈cs/\fs.length<100
       ·rw[Ud hc]at p
        have fl:fv.length=fs.length:=Paired.length fr
        refine⟨a,ca c,dx,fv,rfl,hH,ok.cl c hc.1,ok.no c hc.1,by omega,?_⟩
        have ex:Ext X.K μ2 H2 μ2 (upd H2 a (.ins (ca c) dx (putF f vy fv))):=JK hH (by intro _ z;cases z) (by intro _ _ z;cases z)
        refine p σ _ μ2 ((e1.trans e2).trans ex) ((R.go (e1.trans e2) r2).go ex ?_)
        exact r2.set hn hH (by intro _ z;cases z) (by intro _ _ z;cases z) ⟨dx,_,Ql,FRel.put ((q1.mono e2).mono ex) (fr.mono ex)⟩
       ·rw[Ue hc]at p;exact p.elim
      |_=>exact p.elim
    |_=>exact p.elim
   |raise _ _=>rw[hm2]at p;exact(RaP.stmt R p).go e1
   |stuck=>rw[hm2]at p;exact p
  |raise _ _=>rw[hm]at p;exact RaP.stmt R p
  |stuck=>rw[hm]at p;exact p⟩
theorem Qce{o i:Expr}{mo mi:ME}{pos':Pos}(ho:PE3 ca X o mo)(hi:PE3 ca X i mi)(he:PE3 ca X e me)(hs:swapsWithSole [.Subscript o i pos'] e pos.line X.env=pure false:=by rfl)(hw:swappedStores [.Subscript o i pos'] e X.env=pure none:=by rfl)(h1:(assignEach [.Subscript o i pos'] X.env).map (·.2)=[assign (.Subscript o i pos') X.env]:=by rfl)(ha:∀v,assign (.Subscript o i pos') X.env v=(do
   let ov <-holding [v] (eval o X.env)
   let iv <-holding [v,ov] (eval i X.env)
   standAt pos'
   holding [v,ov,iv] (setItem ov iv v)
   release [v,ov,iv] []):=by intro _;rfl):PS3 ca X (.Assign [.Subscript o i pos'] e pos) (YN mo mi me) :=
 λpn Φ=>ZW (QhK (X:=xat X ca pn Φ) (he pn Φ) (QkE (X:=xat X ca pn Φ) (ho pn Φ) (hi pn Φ) QjH ha) hs hw h1) λE σ H ⟨σ3,g,μ,R,p⟩=>⟨σ3,g,μ,R,by
  unfold YN at p
  cases hm:me σ3 g with
  |ok y g1 =>
   rw[hm]at p
   dsimp only at p
   intro vy H1 μ1 e1 r1 q1
   refine⟨σ3,g1,μ1,R.go e1 r1,?_⟩
   cases hm2:mo σ3 g1 with
   |ok d g2 =>
    rw[hm2]at p
    intro vx H2 μ2 e2 r2 q2
    cases q2 with
    |@ref n a hn =>
     dsimp only at p
     refine⟨σ3,g2,μ2,R.go (e1.trans e2) r2,?_⟩
     cases hm3:mi σ3 g2 with
     |ok di g3 =>
      rw[hm3]at p
      intro vi H3 μ3 e3 r3 q3
      cases q3 with
      |int k =>
       dsimp only at p
       cases hg:g3[n]? with
       |none=>rw[hg]at p;exact p.elim
       |some ob =>
        rw[hg]at p
        obtain⟨a',ha',orp⟩:=r3.addr hg
        rw[e3.at hn]at ha';cases ha'
        cases ob with
        |lst ds =>
         dsimp only at p
         obtain⟨vs,hH,q⟩:=orp
         cases hj:ixD ds.length k with
         |none=>rw[hj]at p;exact p.elim
         |some j =>
          rw[hj]at p
          have ex:Ext X.K μ3 H3 μ3 (upd H3 a (.lst (vs.set j vy))):=JK hH (by intro _ z;cases z) (by intro _ _ z;cases z)
          refine⟨a,vs,k,j,rfl,rfl,hH,by rw[q.length];exact hj,?_⟩
          refine p σ _ μ3 (((e1.trans e2).trans e3).trans ex) ((R.go ((e1.trans e2).trans e3) r3).go ex ?_)
          exact r3.set (e3.at hn) hH (by intro _ z;cases z) (by intro _ _ z;cases z) ⟨_,Ql,Dens.set (((q1.mono e2).mono e3).mono ex) j (q.mono ex)⟩
        |_=>exact p.elim
      |_=>exact p.elim
     |raise _ _=>rw[hm3]at p;exact(RaP.stmt R p).go (e1.trans e2)
     |stuck=>rw[hm3]at p;exact p
    |_=>exact p.elim
   |raise _ _=>rw[hm2]at p;exact(RaP.stmt R p).go e1
   |stuck=>rw[hm2]at p;exact p
  |raise _ _=>rw[hm]at p;exact RaP.stmt R p
  |stuck=>rw[hm]at p;exact p⟩
noncomputable def Sim(K:Frag)(ca:Nat->Addr)(μ0:List Addr)(H0:Hp)(src:Src)(J:It):Prop :=
 ∀(i:Nat)(H:Hp)(μ:List Addr)(g:G),Ext K μ0 H0 μ H->GRep K ca μ H g->match src.at' g i with
  |some (some d)=>J.go i H/\∀x H',J.yld i H x H'->Ext K μ H μ H'/\GRep K ca μ H' g/\Den K μ H' x d
  |some none=>J.stop i H
  |none=>True
noncomputable def upI(K:Frag)(ca:Nat->Addr)(Φ:XS)(m:MI):TI:=λσ H R=>∃σ3 g μ,Rep K ca μ σ3 g σ H/\match m σ3 g with
 |.ok src g'=>∀J H' μ',Ext K μ H μ' H'->GRep K ca μ' H' g'->Sim K ca μ' H' src J->R J H'
 |.raise x g'=>RaP K ca Φ σ H μ x g'
 |.stuck=>False
def PI3(ca:Nat->Addr)(X:Cx)(tg iter:Expr)(m:MI):Prop:=∀pn Φ,PI (xat X ca pn Φ) tg iter (upI X.K ca Φ m)
theorem QbG{tg iter:Expr}{body:List Stmt}{mi:MI}{f:MG}(hc:X.calm=true)(hi:PI3 ca X tg iter mi)(hg:PG3 ca X tg f)(hb:PSs3 ca X body m)(hs:∀x,foldedSetIterable iter X.env x=pure x:=by intro _;rfl)(hk:X.stack=X.env::X.outer:=by rfl)(hf:X.env.frame=some X.env.locals:=by rfl):
  PS3 ca X (.For tg iter body [] pos) (mFor mi f m) :=
 λpn Φ=>ZW (QmV (X:=xat X ca pn Φ) (QkL hk hf pn Φ) hc (hi pn Φ) (hg pn Φ) (hb pn Φ) hs) λE σ H ⟨σ3,g,μ,R,p⟩=>⟨σ3,g,μ,R,by
  unfold mFor at p
  cases hm:mi σ3 g with
  |ok src g' =>
   rw[hm]at p
   dsimp only at p ⊢
   intro J H' μ' e' r' sim
   refine⟨λi n σ1 H1=>∃σ4 g1 μ1,Ext X.K μ' H' μ1 H1/\Rep X.K ca μ1 σ4 g1 σ1 H1/\PostS X.K ca Φ E H1 μ1 (forL src f m n i σ4 g1),⟨src.top+1,σ3,g',μ',.refl,R.go e' r',p.go e'⟩,?_⟩
   rintro i n σ1 H1 ⟨σ4,g1,μ1,e1,R1,p1⟩
   have s1:=sim i H1 μ1 g1 e1 R1.g
   cases n with
   |zero=>exact p1.elim
   |succ n =>
    unfold forL at p1
    cases ha:src.at' g1 i with
    |none=>rw[ha]at p1;exact p1.elim
    |some od =>
     rw[ha]at p1 s1
     cases od with
     |none=>exact .inl ⟨s1,p1 σ1 H1 μ1 .refl R1⟩
     |some d =>
      dsimp only at p1 s1
      obtain⟨go,yl⟩:=s1
      refine .inr ⟨go,λσ2 H2=>∃σ5 g2 μ2,Ext X.K μ' H' μ2 H2/\Rep X.K ca μ2 σ5 g2 σ2 H2/\PostS X.K ca Φ E H2 μ2 (forL src f m n (i+1) σ5 g2),λσ2 H2 z=>⟨n,TC n,z⟩,λx H2 y=>?_⟩
      obtain⟨e2,r2,q2⟩:=yl x H2 y
      cases hf:f d σ4 with
      |none=>rw[hf]at p1;exact p1.elim
      |some σ5 =>
       rw[hf]at p1
       dsimp only at p1
       refine⟨σ4,g1,μ1,d,σ5,R1.go e2 r2,q2,hf,λσ6 R6=>⟨σ5,g1,μ1,R6,?_⟩⟩
       cases hb:m σ5 g1 with
       |nx σ7 g7 =>
        rw[hb]at p1
        exact λσ' H3 μ3 e3 R3=>⟨σ7,g7,μ3,(e1.trans e2).trans e3,R3,PostS.go (e2.trans e3) p1⟩
       |ct σ7 g7 =>
        rw[hb]at p1
        exact λσ' H3 μ3 e3 R3=>⟨σ7,g7,μ3,(e1.trans e2).trans e3,R3,PostS.go (e2.trans e3) p1⟩
       |bk σ7 g7 =>
        rw[hb]at p1
        exact λσ' H3 μ3 e3 R3=>p1 σ' H3 μ3 (e2.trans e3) R3
       |rt d7 g7 =>
        rw[hb]at p1
        exact λv H3 μ3 e3 r3 q3=>p1 v H3 μ3 (e2.trans e3) r3 q3
       |raise _ _ _ =>
        rw[hb]at p1
        exact λσ' H3 μ3 e3 R3=>p1 σ' H3 μ3 (e2.trans e3) R3
       |stuck=>rw[hb]at p1;exact p1
  |raise _ _=>rw[hm]at p;exact RaP.stmt R p
  |stuck=>rw[hm]at p;exact p⟩
theorem Qia{body:List Stmt}(hc:PT3 ca X c tc)(hb:PSs3 ca X body m)(hk:X.stack=X.env::X.outer:=by rfl)(hf:X.env.frame=some X.env.locals:=by rfl):PS3 ca X (.While c body [] pos) (Qcc tc m) :=
 λpn Φ=>ZW (Qjy (X:=xat X ca pn Φ) (QkL hk hf pn Φ) (hc pn Φ) (hb pn Φ)) λE σ H hQ=>by
  obtain⟨σ3,g,μ,R,p⟩:=hQ
  unfold Qcc at p
  by_cases hh:∃f,Zv tc m f σ3 g≠.stuck
  ·rw[dif_pos hh]at p
   generalize hh.choose=k at p
   refine⟨λn σ1 H1=>∃σ4 g1 μ1,Ext X.K μ H μ1 H1/\Rep X.K ca μ1 σ4 g1 σ1 H1/\PostS X.K ca Φ E H1 μ1 (Zv tc m n σ4 g1),⟨k,σ3,g,μ,.refl,R,p⟩,?_⟩
   rintro n σ1 H1 ⟨σ4,g1,μ1,e1,R1,p1⟩
   cases n with
   |zero=>exact p1.elim
   |succ n =>
    unfold Zv at p1
    refine⟨σ4,g1,μ1,R1,?_⟩
    cases ht:tc σ4 g1 with
    |ok t g2 =>
     rw[ht]at p1
     cases t with
     |true =>
      dsimp only at p1
      intro H2 μ2 e2 r2
      rw[Ud rfl]
      refine⟨λσ2 H3=>∃σ5 g3 μ3,Ext X.K μ H μ3 H3/\Rep X.K ca μ3 σ5 g3 σ2 H3/\PostS X.K ca Φ E H3 μ3 (Zv tc m n σ5 g3),λσ2 H3 z=>⟨n,TC n,z⟩,σ4,g2,μ2,R1.go e2 r2,?_⟩
      cases hb:m σ4 g2 with
      |nx σ7 g7 =>
       rw[hb]at p1
       exact λσ' H3 μ3 e3 R3=>⟨σ7,g7,μ3,(e1.trans e2).trans e3,R3,PostS.go (e2.trans e3) p1⟩
      |ct σ7 g7 =>
       rw[hb]at p1
       exact λσ' H3 μ3 e3 R3=>⟨σ7,g7,μ3,(e1.trans e2).trans e3,R3,PostS.go (e2.trans e3) p1⟩
      |bk σ7 g7 =>
       rw[hb]at p1
       exact λσ' H3 μ3 e3 R3=>p1 σ' H3 μ3 (e2.trans e3) R3
      |rt d7 g7 =>
       rw[hb]at p1
       exact λv H3 μ3 e3 r3 q3=>p1 v H3 μ3 (e2.trans e3) r3 q3
      |raise _ _ _ =>
       rw[hb]at p1
       exact λσ' H3 μ3 e3 R3=>p1 σ' H3 μ3 (e2.trans e3) R3
      |stuck=>rw[hb]at p1;exact p1
     |false =>
      intro H2 μ2 e2 r2
      rw[Ue Ug]
      exact p1 σ1 H2 μ2 e2 (R1.go e2 r2)
    |raise _ _=>rw[ht]at p1;exact RaP.stmt R1 p1
    |stuck=>rw[ht]at p1;exact p1
  ·rw[dif_neg hh]at p;exact p.elim
end
noncomputable def spM(K:Frag)(ca:Nat->Addr)(n:Nat)(F:MF):Sp:=λvs H Q E=>vs.length=n/\∃ds g μ,GRep K ca μ H g/\Dens K μ H vs ds/\match F ds g with
 |.ok d g'=>∀v H' μ',Ext K μ H μ' H'->GRep K ca μ' H' g'->Den K μ' H' v d->Q v H'
 |.raise x g'=>∀H' μ',Ext K μ H μ' H'->GRep K ca μ' H' g'->E (.int x.1 0) x.2 H'
 |.stuck=>False
theorem QeA{K:Frag}{ca:Nat->Addr}{μ:List Addr}{H:Hp}{g:G}{vs:List V}{ds:List D}(N:List Str)(r:GRep K ca μ H g)(q:Dens K μ H vs ds):Rep K ca μ (ds.map some++List.replicate (N.length-vs.length) none) g (L2.start N vs) H:=by
 unfold L2.start
 refine⟨r,?_,λi d h=>?_⟩
 ·rw[Us,Us,Ur,Ur,q.length,U9,U9]
 ·by_cases hi:i<ds.length
  ·rw[UA (by simpa using hi),Uy]at h
   cases hd:ds[i]? with
   |none=>rw[hd]at h;cases h
   |some d' =>
    rw[hd]at h;cases h
    obtain⟨v,h1,h2⟩:=q.get hd
    refine⟨v,?_,h2⟩
    rw[UA (by simpa[q.length]using hi),Uy,h1];rfl
  ·rw[Ux (by simpa using hi),Rf]at h
   split at h <;> cases h
structure FnH(P:Program)(w:World)(K:Frag)(mg:Str->Option Value)(base:Heap)(ca:Nat->Addr)(x:Str)(k n:Nat)(F:MF):Prop where
 ex:∃(f:Addr)(fd:FuncData)(ps:List Str),FnOk P w K mg base (CXW P w ca) k f fd ps (spM K ca n F)/\mg x=some (.ref f)/\keepIn K (.ref f)=true/\Binds K fd ps []
 st:∀ds g,ds.length≠n->F ds g=.stuck
structure MtH(P:Program)(w:World)(K:Frag)(mg:Str->Option Value)(base:Heap)(ca:Nat->Addr)(c:Nat)(x:Str)(k n:Nat)(F:MF):Prop where
 ex:∃(f:Addr)(fd:FuncData)(ps:List Str),FnOk P w K mg base (CXW P w ca) k f fd ps (spM K ca n F)/\Meth K (ca c) x f/\Cls K (ca c)/\Binds K fd ps []
 st:∀ds g,ds.length≠n->F ds g=.stuck
structure MkH(P:Program)(w:World)(K:Frag)(mg:Str->Option Value)(base:Heap)(ca:Nat->Addr)(c:Nat)(x:Str)(k n:Nat)(F:MF):Prop where
 ex:∃(f:Addr)(fd:FuncData)(ps:List Str),FnOk P w K mg base (CXW P w ca) k f fd ps (spM K ca n F)/\Mk K (ca c) f/\mg x=some (.ref (ca c))/\Binds K fd ps []
 st:∀ds g,ds.length≠n->F ds g=.stuck
theorem JP(k n:Nat)(m:MS):∀ds g,ds.length≠k->mDef k n m ds g=.stuck:=λds g h=>by unfold mDef;rw[Ue h]
theorem FnH.mono{P:Program}{w:World}{K:Frag}{mg:Str->Option Value}{base:Heap}{ca:Nat->Addr}{x:Str}{j k n:Nat}{F:MF}(h:FnH P w K mg base ca x j n F)(hj:j<=k):FnH P w K mg base ca x k n F:=by
 obtain⟨f,fd,ps,a,b⟩:=h.ex
 exact⟨⟨f,fd,ps,a.mono hj,b⟩,h.st⟩
section
variable{P:Program}{w:World}{K:Frag}{mg:Str->Option Value}{base:Heap}{ca:Nat->Addr}
theorem QeB{N:List Str}{qual:Str}{scope:Scope}{f:Addr}{cd:Value}{A:Around}{outer:List Env}{s:Shared}{H:Hp}{E:XK}{body:List Stmt}{t:TS}(h:PSs (xat (cxOf (CXW P w ca) P w K mg base N qual scope f cd A outer s H E) ca [] (λx _ H'=>E (.int x.1 0) x.2 H')) body t):PSs (cxOf (CXW P w ca) P w K mg base N qual scope f cd A outer s H E) body t:=λpins s1 σ H1 D I q =>
 U8 (h pins s1 σ H1 D (Inv.wish I _) q) (λ_ _ z=>SP.unwish (X:=cxOf (CXW P w ca) P w K mg base N qual scope f cd A outer s H E) z) λ_ _ z=>QjK z
theorem QeC{x qual:Str}{st:Stmt}{f:Addr}{fd:FuncData}{N ps:List Str}{k n j:Nat}{m:MS}(F:Fun K x qual st f fd)(S:FnScope N ps (Qf st))(hj:ps.length=j)(hn:N.length-ps.length=n)(h:∀(cdv:Value) (A:Around) (outer:List Env) (s:Shared) (H:Hp) (E:XK),Room k (A.deeper (envOfC qual (Qf st) s.heap.objs.size f cdv)) ->
   PSs3 ca (cxOf (CXW P w ca) P w K mg base N qual (Qf st) f cdv A outer s H E) (QQ st) m):FnOk P w K mg base (CXW P w ca) (k+1) f fd ps (spM K ca j (mDef j n m)):=by
 subst hj
 obtain⟨oc,od,kV,doc,pm,an,cdv,ct,osl,rfl,lk,hcd⟩:=F.ex
 refine Qlq lk hcd S (λvs H Q E q=>q.1) λA outer s H vs Q E hr hsp=>?_
 obtain⟨hl,ds,g,μ,r,q,p⟩:=hsp
 refine⟨_,QeB (h cdv A outer s H E hr [] _),ds.map some++List.replicate n none,g,μ,?_,?_⟩
 ·have z:=QeA N r q
  rw[hl,hn]at z
  exact z
 ·unfold mDef at p
  rw[Ud (by rw[<-q.length,hl])]at p
  cases hm:m (ds.map some++List.replicate n none) g with
  |nx σ' g'=>rw[hm]at p;exact λσ'' H' μ' e' R'=>p .non H' μ' e' R'.g .non
  |rt d g'=>rw[hm]at p;exact p
  |bk _ _=>rw[hm]at p;exact p.elim
  |ct _ _=>rw[hm]at p;exact p.elim
  |raise _ _ _=>rw[hm]at p;exact λσ'' H' μ' e' R'=>p H' μ' e' R'.g
  |stuck=>rw[hm]at p;exact p.elim
noncomputable def EK(Φ:XS)(σ:L2.St):XK:=λc l H'=>∀x:Xc,c=.int x.1 0->l=x.2->Φ x σ H'
theorem QeD{F:MF}{n:Nat}{Φ:XS}{σ:L2.St}{Q:VK}{H:Hp}{μ:List Addr}{vs:List V}{ds:List D}{g:G}(st:∀ds g,ds.length≠n->F ds g=.stuck)(r:GRep K ca μ H g)(q:Dens K μ H vs ds)(p:Post K ca Φ σ Q H μ (F ds g)):spM K ca n F vs H Q (EK Φ σ):=by
 have hl:vs.length=n:=by
  rw[q.length]
  apply T5
  intro h
  rw[st ds g h]at p
  exact p
 refine⟨hl,ds,g,μ,r,q,?_⟩
 cases hF:F ds g with
 |ok d g'=>rw[hF]at p;exact p
 |raise x g' =>
  rw[hF]at p
  intro H' μ' e r' y e1 e2
  have:x=y:=by
   obtain⟨a,b⟩:=x
   obtain⟨c,d⟩:=y
   injection e1 with e1
   have e1:(a:Int)=(c:Int):=e1
   have e3:a=c:=by omega
   rw[e3,show b=d from e2]
  rw[<-this]
  exact p H' μ' e r'
 |stuck=>rw[hF]at p;exact p
end
section
variable{X:Cx}{ca:Nat->Addr}{e o:Expr}{es:List Expr}{me mo:ME}{mr:MA}{p pos apos:Pos}{k n:Nat}{F:MF}{pn:List (Addr×Obj)}{Φ:XS}
theorem Qib{f:Addr}{fd:FuncData}{ps:List Str}{pins:List (Addr×Obj)}{σ:L2.St}{H:Hp}{s:Shared}{Q:VK}{us:List Value}{vs:List V}(G:FnOk X.prog X.w X.K X.mg X.base (CXW X.prog X.w ca) k f fd ps (spM X.K ca n F))(hr:Room k X.A)(hb:Binds X.K fd ps [])(I:Inv (xat X ca pn Φ) pins σ H s)(r:Vals vs us)(h:spM X.K ca n F vs H Q (EK Φ σ)):wpAny (model X.prog X.w) X.A (call (.ref f) us) (EP (xat X ca pn Φ) pins σ Q) (xat X ca pn Φ).xe s:=by
 have hl:(us++[]).length=ps.length:=by rw[UM,<-r.length];exact G.len _ _ _ _ h
 have b:=hb s us I.kIn hl
 rw[UM]at b
 refine wpAny_call (Wy (G.run X.A X.stack s H ⟨us,[]⟩ us vs Q (EK Φ σ) hr I.env0 b r h) λres s' hq=>?_)
 cases res with
 |error z=>exact Qfp I hq
 |ok fl =>
  cases fl with
  |ret u=>exact I.after hq
  |_=>exact False.elim hq
theorem Qo{x:Str}(h:FnH X.prog X.w X.K X.mg X.base ca x k n F)(hr:Room k X.A)(ha:PA3 ca X (e::es) mr)(hg:Gl X x:=by rfl)(hdb:(x == ("__debug__" : Str))=false:=by decide)(he:starEach (e::es) X.env=(false,eval e X.env)::starEach es X.env:=by rfl)(hpl:(backTo pos (starEach es X.env)).any (·.1)=false:=by rfl):PE3 ca X (.Call (.Name x p) (e::es) [] pos) (Qn F mr):=by
 obtain⟨f,fd,ps,F1,m1,k1,b1⟩:=h.ex
 intro pn Φ pins s σ H Q I ⟨σ3,g,μ,R,q⟩
 refine Rk (Qbe I hg m1 ?_ hdb)
 have z:upA X.K ca Φ mr σ H λvs H1=>spM X.K ca n F vs H1 Q (EK Φ σ):=Jo (Qdc R q) λxs H1 ⟨ds,g1,μ1,e1,R1,q1,p1⟩=>QeD h.st R1.g q1 p1
 refine RH (h₀:=X.base) I.ok.mod.kin k1 (thn (ha pn Φ pos pins s σ H _ I z) λus s1 ⟨vs,H1,I1,r,q1⟩=>⟨I1.kIn,?_⟩) he hpl
 exact Qib F1 hr b1 I1 r q1
theorem Qic{K:Frag}{c:Nat}{m:Str}{σ:L2.St}{H:Hp}{Q:VK}{α:Type}{kk:Nat->G->Res α}{R:Res α->Hp->List Addr->Prop}{d:D}{g:G}{μ:List Addr}{v:V}(r:GRep K ca μ H g)(hst:¬R .stuck H μ)(p:R (match d with
   |.ref i=>(match g[i]? with
    |some (.ins c' fs)=>if c'=c/\fs.lookup m=none then kk i g else .stuck
    |_=>.stuck)
   |_=>.stuck) H μ)(q:Den K μ H v d):∃a dx fv i,d=.ref i/\v=.ref a/\μ[i]?=some a/\H a=some (.ins (ca c) dx fv)/\fv.lookup m=none/\R (kk i g) H μ:=by
 cases q with
 |@ref i a hn =>
  dsimp only at p
  cases hg:g[i]? with
  |none=>rw[hg]at p;exact(hst p).elim
  |some ob =>
   rw[hg]at p
   obtain⟨a',ha',orp⟩:=r.addr hg
   rw[hn]at ha';cases ha'
   cases ob with
   |ins c' fs =>
    dsimp only at p
    obtain⟨dx,fv,hH,fr⟩:=orp
    by_cases hc:c'=c/\fs.lookup m=none
    ·rw[Ud hc]at p
     obtain⟨rfl,hl⟩:=hc
     exact⟨a,dx,fv,i,rfl,rfl,hn,hH,fr.no hl,p⟩
    ·rw[Ue hc]at p;exact(hst p).elim
   |_=>exact(hst p).elim
 |_=>exact(hst p).elim
theorem Qnm{c:Nat}{m:Str}{pl:Sem Bool}(h:MtH X.prog X.w X.K X.mg X.base ca c m k n F)(hr:Room k X.A)(ho:PE3 ca X o mo)(ha:PA3 ca X (e::es) mr)(hst:starEach (e::es) X.env=(false,eval e X.env)::starEach es X.env:=by rfl)(hpl:(backTo pos (starEach es X.env)).any (·.1)=false:=by rfl)(ht:eval (.Call (.Attribute o m apos) (e::es) [] pos) X.env=(do
   let ov <-eval o X.env
   standAt apos.atName
   let (f,first) <-holding [ov] (getMethod ov m pl)
   callWith pos f first (backTo pos (starEach (e::es) X.env)) (backToKw pos (keywordEach [] X.env))):=by rfl):PE3 ca X (.Call (.Attribute o m apos) (e::es) [] pos) (QcV c m F mo mr):=by
 obtain⟨f,fd,ps,F1,m1,k1,b1⟩:=h.ex
 intro pn Φ pins s σ H Q I ⟨σ3,g,μ,R,q⟩
 refine Bm (pl:=pl) (thn (ho pn Φ pins s σ H _ I (Jn R q)) λu s1 ⟨x,H1,I1,rx,d,g1,μ1,e1,R1,q1,p1⟩=>?_) ht
 obtain⟨a,dx,fv,i,rfl,rfl,hn,hH,hl,p2⟩:=Qic (Q:=Q) (σ:=σ) (R:=λr H μ=>Post X.K ca Φ σ Q H μ r) (kk:=λi g=>(mr σ3 g).bind λxs g2=>F (.ref i::xs) g2) R1.g (λz=>z) p1 q1
 obtain rfl:u=Value.ref a:=rx
 refine Qc8 I1 hH k1 m1 hl ?_
 have z:upA X.K ca Φ mr σ H1 λvs H2=>spM X.K ca n F (.ref a::vs) H2 Q (EK Φ σ):=Jo (Qdc R1 p2) λxs H2 ⟨ds,g2,μ2,e2,R2,q2,p3⟩=>QeD h.st R2.g (.cons (.ref (e2.at hn)) q2) p3
 refine RH (first:=[.ref a]) (h₀:=X.base) I.ok.mod.kin m1.kp (thn (ha pn Φ pos pins s1 σ H1 _ I1 z) λus s2 ⟨vs,H2,I2,r,q2⟩=>⟨I2.kIn,?_⟩) hst hpl
 exact Qib (us:=.ref a::us) (vs:=.ref a::vs) F1 hr b1 I2 (.cons rfl r) q2
theorem Qfq{c:Nat}{m:Str}{pl:Sem Bool}(h:MtH X.prog X.w X.K X.mg X.base ca c m k n F)(hr:Room k X.A)(ho:PE3 ca X o mo)(ht:eval (.Call (.Attribute o m apos) [] [] pos) X.env=(do
   let ov <-eval o X.env
   standAt apos.atName
   let (f,first) <-holding [ov] (getMethod ov m pl)
   callWith pos f first (backTo pos (starEach [] X.env)) (backToKw pos (keywordEach [] X.env))):=by rfl):PE3 ca X (.Call (.Attribute o m apos) [] [] pos) (QcV c m F mo mNil):=by
 obtain⟨f,fd,ps,F1,m1,k1,b1⟩:=h.ex
 intro pn Φ pins s σ H Q I ⟨σ3,g,μ,R,q⟩
 refine Bm (pl:=pl) (thn (ho pn Φ pins s σ H _ I (Jn R q)) λu s1 ⟨x,H1,I1,rx,d,g1,μ1,e1,R1,q1,p1⟩=>?_) ht
 obtain⟨a,dx,fv,i,rfl,rfl,hn,hH,hl,p2⟩:=Qic (Q:=Q) (σ:=σ) (R:=λr H μ=>Post X.K ca Φ σ Q H μ r) (kk:=λi g=>(mNil σ3 g).bind λxs g2=>F (.ref i::xs) g2) R1.g (λz=>z) p1 q1
 obtain rfl:u=Value.ref a:=rx
 refine Qc8 I1 hH k1 m1 hl ?_
 exact callWith_K0 (first:=[.ref a]) I1.kIn m1.kp (Qib (us:=[.ref a]) (vs:=[.ref a]) F1 hr b1 I1 (.cons rfl .nil) (QeD h.st R1.g (.cons (.ref hn) .nil) p2))
theorem QkM{c:Nat}{x:Str}(h:MkH X.prog X.w X.K X.mg X.base ca c x k n F)(hr:Room (k+1) X.A)(ha:PA3 ca X (e::es) mr)(hg:Gl X x:=by rfl)(hdb:(x == ("__debug__" : Str))=false:=by decide)(he:starEach (e::es) X.env=(false,eval e X.env)::starEach es X.env:=by rfl)(hpl:(backTo pos (starEach es X.env)).any (·.1)=false:=by rfl):PE3 ca X (.Call (.Name x p) (e::es) [] pos) (Qdw c F mr):=by
 obtain⟨f,fd,ps,F1,m1,k1,b1⟩:=h.ex
 intro pn Φ pins s σ H Q I ⟨σ3,g,μ,R,q⟩
 refine Rk (Qbe I hg k1 ?_ hdb)
 have z:upA X.K ca Φ mr σ H λvs H1=>∀y dy,H1 y=none->H1 dy=none->dy≠y->spM X.K ca n F (.ref y::vs) (upd (upd H1 dy (.own y)) y (.ins (ca c) dy [])) (λv H2=>v=.non/\Q (.ref y) H2) (EK Φ σ) :=
  Jo (Qdc R q) λxs H1 ⟨ds,g1,μ1,e1,R1,q1,p1⟩ y dy hy hdy ne=>by
   have hy2:(upd H1 dy (.own y)) y=none:=by rw[Qp (Ne.symm ne)];exact hy
   have ex1:Ext X.K μ1 H1 μ1 (upd H1 dy (.own y)):=QI hdy
   have g2:=R1.g.new (o:=.own y) hdy
   have ex2:Ext X.K μ1 (upd H1 dy (.own y)) (μ1++[y]) (upd (upd H1 dy (.own y)) y (.ins (ca c) dy [])):=Qq hy2
   have g3:GRep X.K ca (μ1++[y]) (upd (upd H1 dy (.own y)) y (.ins (ca c) dy [])) (g1++[.ins c []]):=g2.push hy2 ⟨dy,[],Ql,.nil⟩
   have ey:(μ1++[y])[g1.length]?=some y:=by rw[<-R1.g.len];simp
   refine QeD (Φ:=Φ) (σ:=σ) h.st g3 (.cons (.ref ey) ((q1.mono ex1).mono ex2)) ?_
   cases hF:F (D.ref g1.length::ds) (g1++[.ins c []]) with
   |stuck=>rw[hF]at p1;exact p1.elim
   |raise _ _=>rw[hF]at p1;exact RaP.go (ex1.trans ex2) p1
   |ok d g4 =>
    rw[hF,Res.bind_ok]at p1
    intro v H' μ' e' r' q'
    cases q' with
    |non=>exact⟨rfl,p1 _ H' μ' ((ex1.trans ex2).trans e') r' (.ref (e'.at ey))⟩
    |_=>exact p1.elim
 refine RH (h₀:=X.base) I.ok.mod.kin m1.kp (thn (ha pn Φ pos pins s σ H _ I z) λus s1 ⟨vs,H1,I1,r,q1⟩=>⟨I1.kIn,?_⟩) he hpl
 have hq:=q1 (s1.heap.objs.size+1) s1.heap.objs.size (I1.hok.fresh (Wk _)) (I1.hok.fresh (Uc _)) (UD (TC _))
 have I2:=Inv.made (C:=ca c) I1
 have r2:Vals (V.ref (s1.heap.objs.size+1)::vs) (Value.ref (s1.heap.objs.size+1)::us):=.cons rfl r
 have hl:(Value.ref (s1.heap.objs.size+1)::us++[]).length=ps.length:=by
  have w:=r2.length
  rw[F1.len _ _ _ _ hq]at w
  rw[UM]
  exact w.symm
 have b2:=b1 _ (Value.ref (s1.heap.objs.size+1)::us) I2.kIn hl
 rw[UM]at b2
 refine wpAny_call (QjE (f:=f) I1.kIn m1.makes m1.init (TQ.mp m1.fn) (Wy (F1.run _ X.stack _ _ ⟨Value.ref (s1.heap.objs.size+1)::us,[]⟩ (Value.ref (s1.heap.objs.size+1)::us) _ _ (EK Φ σ) (hr.make (ca c) us [])
  (I2.env0.make (ca c) us []) b2 r2 hq) λres s' hq'=>?_))
 cases res with
 |error z=>exact Qfp I2 hq'
 |ok fl =>
  cases fl with
  |ret u =>
   obtain⟨v,H',I3,rv,ev,q3⟩:=I2.after hq'
   subst ev
   exact⟨rv,⟨V.ref (s1.heap.objs.size+1),H',I3,rfl,q3⟩⟩
  |_=>exact False.elim hq'
end
section
variable{X:Cx}{ca:Nat->Addr}{tg e:Expr}{me:ME}{mr:MA}{p pos:Pos}
theorem QdA{X:Cx}{tg iter:Expr}{t t':TI}(h:PI X tg iter t)(i:∀σ H R,t' σ H R->t σ H R):PI X tg iter t':=λpins s σ H R I q=>h pins s σ H R I (i σ H R q)
theorem Qid(K:Frag)(μ:List Addr)(H:Hp)(lo:Int)(n:Nat):Sim K ca μ H (Q8 lo n) (Itr lo n):=by
 intro i H1 μ1 g1 e r
 unfold Q8
 dsimp only
 by_cases h:i<n
 ·rw[Ud h]
  exact⟨h,λx H' y=>by obtain⟨rfl,rfl⟩:=y;exact⟨.refl,r,.int _⟩⟩
 ·rw[Ue h]
  exact Wc h
theorem QlB{K:Frag}{μ:List Addr}{H:Hp}{a:Addr}{vs:List V}{ds:List D}(h:SqT K H a vs)(q:Dens K μ H vs ds):Sim K ca μ H ⟨λ_ i=>some ds[i]?,ds.length⟩ (Itt K a):=by
 intro i H1 μ1 g1 e r
 dsimp only
 cases hd:ds[i]? with
 |none =>
  refine⟨vs,e.tup _ _ h,?_⟩
  rw[q.length]
  exact UW.mp hd
 |some d =>
  obtain⟨v,h1,h2⟩:=q.get hd
  refine⟨⟨vs,v,e.tup _ _ h,h1⟩,λx H' y=>?_⟩
  obtain⟨rfl,y⟩:=y
  have:=y vs (e.tup _ _ h)
  rw[h1]at this;cases this
  exact⟨.refl,r,h2.mono e⟩
theorem QlC{K:Frag}{μ:List Addr}{H:Hp}{a:Addr}{n t:Nat}(hn:μ[n]?=some a):Sim K ca μ H ⟨λg i=>(match g[n]? with|some (.lst es)=>some es[i]? | _=>none),t⟩ (Itl K a):=by
 intro i H1 μ1 g1 e r
 dsimp only
 cases hg:g1[n]? with
 |none=>trivial
 |some o =>
  cases o with
  |lst ds =>
   dsimp only
   obtain⟨a',ha',vs,hH,q⟩:=r.addr hg
   rw[e.at hn]at ha';cases ha'
   cases hd:ds[i]? with
   |none =>
    refine⟨vs,.of hH,?_⟩
    rw[q.length]
    exact UW.mp hd
   |some d =>
    obtain⟨v,h1,h2⟩:=q.get hd
    refine⟨⟨vs,v,.of hH,h1⟩,λx H' y=>?_⟩
    obtain⟨rfl,y⟩:=y
    have:=y vs (.of hH)
    rw[h1]at this;cases this
    exact⟨.refl,r,h2⟩
  |_=>trivial
theorem Qnn{K:Frag}{μ:List Addr}{H:Hp}{a:Addr}{vs:List V}{ds:List D}(h:SqF K H a vs)(q:Dens K μ H vs ds):Sim K ca μ H ⟨λ_ i=>some ds[i]?,ds.length⟩ (Itl K a):=by
 intro i H1 μ1 g1 e r
 dsimp only
 have sq:SqL K H1 a vs:=(e.fl _ _ h).sq
 cases hd:ds[i]? with
 |none =>
  refine⟨vs,sq,?_⟩
  rw[q.length]
  exact UW.mp hd
 |some d =>
  obtain⟨v,h1,h2⟩:=q.get hd
  refine⟨⟨vs,v,sq,h1⟩,λx H' y=>?_⟩
  obtain⟨rfl,y⟩:=y
  have:=y vs sq
  rw[h1]at this;cases this
  exact⟨.refl,r,h2.mono e⟩
theorem Qno{l:Expr}{tl:TE}(hl:PE X l tl):PI X tg l (λσ H R=>tl σ H λx H1=>(∃a,x=.ref a/\(∃xs,SqL X.K H1 a xs)/\R (Itl X.K a) H1)\/∃a,x=.ref a/\(∃xs,SqT X.K H1 a xs)/\R (Itt X.K a) H1):=by
 intro pins s σ H R I h
 refine thn (hl pins s σ H _ I h) λv s1 ⟨x,H1,I1,r1,q1⟩=>?_
 rcases q1 with⟨a,e,⟨xs,hq⟩,q⟩|⟨a,e,⟨xs,hq⟩,q⟩
 ·subst e
  cases r1
  obtain⟨its,rv,p,hz⟩:=I1.list hq
  refine RQ p.isList ?_
  refine⟨s1.heap.objs.size,[s1.heap.objs.size],_,_,H1,rfl,I1.kept (t':=s1.toks) λb o e=>Ub _ e,QhL a _,⟨_,Up _ rfl,rfl,rfl⟩,λb hb=>?_,q⟩
  have e:b=s1.heap.objs.size:=by simpa using hb
  subst e
  exact I1.fpOk (Uc _) (I1.hok.fresh (Uc _))
 ·subst e
  cases r1
  obtain⟨its,rv,p,hz⟩:=I1.tuple hq
  refine wpAny_pyIter_tuple (show s1.heap.IsTuple a its.toArray from p) ?_
  refine⟨s1.heap.objs.size,[s1.heap.objs.size],_,_,H1,rfl,I1.kept (t':=s1.toks) λb o e=>Ub _ e,QgW a _,⟨_,Up _ rfl,rfl,rfl⟩,λb hb=>?_,q⟩
  have e:b=s1.heap.objs.size:=by simpa using hb
  subst e
  exact I1.fpOk (Uc _) (I1.hok.fresh (Uc _))
theorem Yv(he:PE3 ca X e me):PI3 ca X tg e (QO me) :=
 λpn Φ=>QdA (Qno (X:=xat X ca pn Φ) (he pn Φ)) λσ H R hQ=>by
  obtain⟨σ3,g,μ,Rp,p⟩:=hQ
  unfold QO at p
  refine⟨σ3,g,μ,Rp,?_⟩
  cases hm:me σ3 g with
  |raise _ _=>rw[hm]at p;exact p
  |stuck=>rw[hm]at p;exact p.elim
  |ok d g1 =>
   rw[hm,Res.bind_ok]at p
   intro v H1 μ1 e1 r1 q1
   unfold Qak at p
   cases q1 with
   |@tup a vs ds ht hs =>
    exact .inr ⟨a,rfl,⟨vs,ht⟩,p _ H1 μ1 e1 r1 (QlB ht hs)⟩
   |@fl a vs ds ht hs=>exact .inl ⟨a,rfl,⟨vs,ht.sq⟩,p _ H1 μ1 e1 r1 (Qnn ht hs)⟩
   |@ref n a hn =>
    dsimp only at p
    cases hg:g1[n]? with
    |none=>rw[hg]at p;exact p.elim
    |some o =>
     rw[hg]at p
     obtain⟨a',ha',orp⟩:=r1.addr hg
     rw[hn]at ha';cases ha'
     cases o with
     |lst ds=>obtain⟨vs,hH,q⟩:=orp;exact .inl ⟨a,rfl,⟨vs,.of hH⟩,p _ H1 μ1 e1 r1 (QlC hn)⟩
     |_=>exact p.elim
   |_=>exact p.elim
theorem J7(hm:X.mg "range" = none)(he:PE3 ca X e me)(hg:Gl X "range":=by rfl)(hs:starEach [e] X.env=[(false,eval e X.env)]:=by rfl):PI3 ca X tg (.Call (.Name "range" p) [e] [] pos) (QC me) :=
 λpn Φ=>QdA (QhM (X:=xat X ca pn Φ) hg hm (Yk he Qj hs pn Φ) hs) λσ H R hQ=>by
  obtain⟨σ3,g,μ,Rp,p⟩:=hQ
  refine⟨σ3,g,μ,Rp,?_⟩
  unfold QC at p
  unfold Qb mNil
  cases hm:me σ3 g with
  |raise _ _=>rw[hm]at p;exact p
  |stuck=>rw[hm]at p;exact p.elim
  |ok d g1 =>
   rw[hm,Res.bind_ok]at p
   rw[Res.bind_ok,Res.bind_ok]
   intro vs H1 μ1 e1 r1 q1
   cases q1 with
   |cons h1 h2 =>
    cases h2
    cases h1 with
    |int j =>
     dsimp only at p
     by_cases hj:inR j
     ·rw[Ud hj]at p
      exact⟨j,rfl,hj.1,hj.2,p _ H1 μ1 e1 r1 (Qid X.K μ1 H1 0 j.toNat)⟩
     ·rw[Ue hj]at p;exact p.elim
    |_=>exact p.elim
end
noncomputable def blk(X:Cx)(scope:Scope)(cl:List (Str×Addr))(C:Addr)(Nb:List Str)(s3:Shared)(H3:Hp)(ex:List Addr):Cx :=
 {X with env:=compEnvC scope cl C X.env,N:=Nb,s₀:=s3,H₀:=H3,outer:=X.stack,stack:=X.stack,ex:=ex,fn:=λ_=>false,pn:=[],xe:=λ_ _=>False}
structure BScope(X:Cx)(scope:Scope)(Nb:List Str)(no:Nat)(cap:List Nat):Prop where
 kind:scope.kind=.function
 cell:∀y∈scope.names,y.2≠.cell
 loc:∀y∈scope.names,y.2=.local->scope.names.lookup y.1=some .local
 free:∀y∈scope.names,y.2=.free->X.env.kindOf y.1=some .cell\/X.env.kindOf y.1=some .free
 len:Nb.length=no+cap.length
 cap:∀(j i:Nat),cap[j]?=some i->∃x,Nb[no+j]?=some x/\X.N[i]?=some x/\scope.names.lookup x=some .free/\Vis X.env.scope x/\X.env.kindOf x≠some .local
noncomputable def clOf(cells:List (Str×Addr)):List (Str×NameKind)->List (Str×Addr)->Option (List (Str×Addr))
 |[],cs=>some cs
 | (n,k)::r,cs=>if (k == .free)=true then (match cells.lookup n with
  |some a=>clOf cells r ((n,a)::cs)
  |none=>none) else clOf cells r cs
theorem Qbf{env:Env}:∀(names:List (Str×NameKind))(cs cl:List (Str×Addr)),clOf env.cells names cs=some cl ->
  (forIn names cs λ(x:Str×NameKind)(r:List (Str×Addr))=>(match x with
   | (name,kind)=>if (kind == .free)=true then (do let a <-cellOf env name;pure (ForInStep.yield ((name,a)::r))) else pure (ForInStep.yield r):Sem (ForInStep (List (Str×Addr)))))=(pure cl:Sem (List (Str×Addr)))
 |[],cs,cl,h=>by cases h;rfl
 | (n,k)::r,cs,cl,h=>by
  unfold clOf at h
  rw[Wo]
  by_cases hk:(k == .free)=true
  ·rw[Ud hk]at h
   cases hl:env.cells.lookup n with
   |none=>rw[hl]at h;cases h
   |some a =>
    rw[hl]at h
    dsimp only at h ⊢
    rw[Ud hk]
    unfold cellOf
    rw[hl]
    exact Qbf r _ cl h
  ·rw[Ue hk]at h
   dsimp only
   rw[Ue hk]
   exact Qbf r _ cl h
theorem QaM{scope:Scope}{env:Env}{cl:List (Str×Addr)}(h:clOf env.cells scope.names []=some cl):closureFor scope env=pure cl:=by
 have q:=Qbf (env:=env) scope.names [] cl h
 unfold closureFor
 exact Rz (λt=>t >>= λr=>(pure r:Sem _)) q
theorem QaN{cells:List (Str×Addr)}:∀(names:List (Str×NameKind))(cs:List (Str×Addr)),(∀y∈names,y.2=.free->∃c,cells.lookup y.1=some c)->∃cl,clOf cells names cs=some cl
 |[],cs,_=>⟨cs,rfl⟩
 | (n,k)::r,cs,h=>by
  unfold clOf
  by_cases hk:(k == .free)=true
  ·rw[Ud hk]
   obtain⟨c,e⟩:=h (n,k) Uu (TQ.mp hk)
   rw[show cells.lookup n=some c from e]
   exact QaN r _ λy hy=>h y (Uv _ hy)
  ·rw[Ue hk]
   exact QaN r _ λy hy=>h y (Uv _ hy)
theorem YQ{cells:List (Str×Addr)}:∀(names:List (Str×NameKind))(cs cl:List (Str×Addr)),clOf cells names cs=some cl->(∀x c,cs.lookup x=some c->cells.lookup x=some c)->∀x c,cl.lookup x=some c->cells.lookup x=some c
 |[],cs,cl,h,hc=>by cases h;exact hc
 | (n,k)::r,cs,cl,h,hc=>by
  unfold clOf at h
  by_cases hk:(k == .free)=true
  ·rw[Ud hk]at h
   cases hl:cells.lookup n with
   |none=>rw[hl]at h;cases h
   |some a =>
    rw[hl]at h
    refine YQ r _ cl h λx c e=>?_
    by_cases z:x=n
    ·subst z
     simp only[List.lookup,Wd]at e
     cases e
     exact hl
    ·have zb:(x == n)=false:=Ts.mpr z
     simp only[List.lookup,zb]at e
     exact hc x c e
  ·rw[Ue hk]at h
   exact YQ r _ cl h hc
theorem QbT{cells:List (Str×Addr)}:∀(names:List (Str×NameKind))(cs cl:List (Str×Addr)),clOf cells names cs=some cl->∀x,(x∈names.filterMap λy=>if (y.2 == .free)=true then some y.1 else none)\/(∃c,cs.lookup x=some c)->∃c,cl.lookup x=some c
 |[],cs,cl,h,x,hx=>by
  cases h
  rcases hx with hx|hx
  ·simp at hx
  ·exact hx
 | (n,k)::r,cs,cl,h,x,hx=>by
  unfold clOf at h
  by_cases hk:(k == .free)=true
  ·rw[Ud hk]at h
   cases hl:cells.lookup n with
   |none=>rw[hl]at h;cases h
   |some a =>
    rw[hl]at h
    refine QbT r _ cl h x ?_
    by_cases z:x=n
    ·subst z
     exact .inr ⟨a,by simp[List.lookup]⟩
    ·have zb:(x == n)=false:=Ts.mpr z
     rcases hx with hx|⟨c,hx⟩
     ·rw[TL]at hx
      simp only[hk,Wu]at hx
      rcases UE.mp hx with e|e
      ·exact absurd e z
      ·exact .inl e
     ·exact .inr ⟨c,by simp only[List.lookup,zb];exact hx⟩
  ·rw[Ue hk]at h
   refine QbT r _ cl h x ?_
   rcases hx with hx|hx
   ·rw[TL]at hx
    simp only[hk]at hx
    exact .inl (by simpa using hx)
   ·exact .inr hx
theorem Qcf{names:List (Str×NameKind)}{x:Str}(h:names.lookup x=some .free):x∈names.filterMap λy=>if (y.2 == .free)=true then some y.1 else none :=
 WD.mpr ⟨(x,.free),TM h,by simp⟩
theorem JQ{env:Env}:∀{names:List (Str×NameKind)}{x:Str}{k:NameKind},(∀y∈names,y.2≠.cell) ->
  (names.map λ(n,k)=>if (k == NameKind.free && env.scope.kind == .function && env.kindOf n == some .cell) then (n,NameKind.cell) else (n,k)).lookup x=some k->(k=.cell\/k=.free)->names.lookup x=some .free
 |[],_,_,_,h,_=>by cases h
 | (n,k0)::r,x,k,hn,h,hk=>by
  have ih:=@JQ env r x k λy hy=>hn y (Uv _ hy)
  rw[UI]at h
  by_cases hc:(k0 == NameKind.free && env.scope.kind == .function && env.kindOf n == some .cell)=true
  ·have k0f:k0=.free:=by
    simp only[UT]at hc
    exact TQ.mp hc.1.1
   dsimp only at h
   rw[Ud hc]at h
   cases hx:x == n with
   |true=>simp only[List.lookup,hx];rw[k0f]
   |false=>simp only[List.lookup,hx]at h ⊢;exact ih h hk
  ·dsimp only at h
   rw[Ue hc]at h
   cases hx:x == n with
   |true =>
    simp only[List.lookup,hx]at h ⊢
    cases h
    rcases hk with e|e
    ·exact absurd e (hn (n,k0) Uu)
    ·rw[e]
   |false=>simp only[List.lookup,hx]at h ⊢;exact ih h hk
theorem QeE{prog:Program}{w:World}{A:Around}{R:Result->Shared->Prop}{s:Shared}{elt target iter:Expr}{ifs:List Expr}{scope:Scope}{pos:Pos}{it acc:Value}{env:Env}(I:Nat->Shared->Prop)(turn:∀n s,I n s->wpAny (model prog w) A (pyNext it) (λr s₁=>match r with
   |none=>R (.ok .next) s₁
   |some v=>wpAny (model prog w) A (letOwnedTupleGo target it v) (λ_ s1'=>wpAny (model prog w) A (assign target env v) (λ_ s₂ =>
     wpAny (model prog w) A (forIn ifs true λc r=>if r=true then do let ok <-isTrue c env (eval c env);pure (ForInStep.yield ok) else pure (ForInStep.yield r)) (λok s₃ =>
      if ok=true then wpAny (model prog w) A (eval elt env) (λx s₄ =>
       wpAny (model prog w) A (call (.builtin "list.append") [acc,x]) (λ_ s₅=>∃m,m<n/\I m s₅) (λ_ _=>False) s₄) (λ_ _=>False) s₃
      else ∃m,m<n/\I m s₃) (λ_ _=>False) s₂) (λ_ _=>False) s1') (λ_ _=>False) s₁) (λ_ _=>False) s)(n:Nat)(h:I n s):codeAny (model prog w) A (.compLoop (.ListComp elt [⟨target,iter,ifs,0⟩] scope pos) 0 it acc env) R s:=by
 refine codeAny_loop rfl I (λn s hI=>?_) n h
 show wpAny _ A ((compTurn (.ListComp elt [⟨target,iter,ifs,0⟩] scope pos) 0 it acc env).onRaise (λx=>do noteFrame x env;theTreesLotGoes x)) _ _ s
 refine wpAny_noted ?_
 rw[compTurn_list]
 refine Ua (WZ (Ua (U8 (turn n s hI) (λr s₁ h₁=>?_) λ_ _ h'=>h'.elim)))
 cases r with
 |none=>exact Uh h₁
 |some v =>
  refine Ua (U8 h₁ (λ_ s1' h1'=>?_) λ_ _ h'=>h'.elim)
  refine Ua (U8 h1' (λ_ s₂ h₂=>Ua (U8 h₂ (λok s₃ h₃=>?_) λ_ _ h'=>h'.elim)) λ_ _ h'=>h'.elim)
  cases ok with
  |false=>exact Uh ⟨rfl,h₃⟩
  |true =>
   exact Ua (Ua (U8 h₃ (λx s₄ h₄=>Ua (U8 h₄ (λ_ s₅ h₅=>Uh (Uh ⟨rfl,h₅⟩)) λ_ _ h'=>h'.elim)) λ_ _ h'=>h'.elim))
theorem Inv.track{X:Cx}{pins:List (Addr×Obj)}{σ:L2.St}{H:Hp}{s:Shared}{a:Addr}{o:HO}(I:Inv X pins σ H s)(ha:FpOk X pins H a)(new:ObjOk X.prog X.w (upd H a o) s.heap a o):Inv X pins σ (upd H a o) s:=by
 obtain⟨f0,f1,f2,f3,f4,f5⟩:=ha
 have ne:∀b u,H b=some u->b≠a:=λb u e=>QF e f0
 refine I.step (h':=s.heap) (g':=s.gens) (t':=s.toks) (d':=s.drawn) (ch:=[a]) (λb hb=>?_) (λb o _ _ _ e _=>e) (λb o _ _ _ e _=>⟨o.slots,e⟩) (λb o hb e n=>?_) (λb o _ e=>⟨o,e⟩)
  (λb xs e=>by rw[Qp (ne b _ e)];exact e) (λb o u e=>by rw[Qp (ne b _ e)];exact e) (λb ps e=>⟨#[],by rw[Qp (ne b _ e),e];simp⟩) (λ_ h=>h) (λb u e=>?_) I.bare
 ·have e:b=a:=by simpa using hb
  subst e
  exact⟨f3,f1,f4,f5⟩
 ·rw[Qp (λz=>hb (by simp[z]))];exact n
 ·by_cases hb:b=a
  ·subst hb;rw[Ql]at e;cases e;exact new
  ·rw[Qp hb]at e
   exact(I.hok b u e).stay (λ_ _ _ q=>q) (λc q=>by rw[Qp (ne c _ q)];exact q) λc xs q=>by rw[Qp (ne c _ q)];exact q
theorem FpOk.mono{X:Cx}{pins:List (Addr×Obj)}{H H':Hp}{b:Addr}(h:FpOk X pins H b)(n:H' b=none):FpOk X pins H' b:=⟨n,h.2⟩
noncomputable abbrev F0:XS:=λ_ _ _=>False
theorem noX{α:Type}{M:Model}{A:Around}{X:Cx}{ca:Nat->Addr}{t:Sem α}{Q:α->Shared->Prop}{s:Shared}(h:wpAny M A t Q (XE X ca F0) s):wpAny M A t Q (λ_ _=>False) s:=U8 h (λ_ _ z=>z) λ_ _ ⟨_,_,_,_,_,_,_,z⟩=>z
noncomputable def PIf(ca:Nat->Addr)(X:Cx)(ifs:List Expr)(m:MT):Prop :=
 ∀(pins:List (Addr×Obj))(s:Shared)(σ:L2.St)(H:Hp)(Q:Bool->Hp->Prop),Inv (xat X ca [] F0) pins σ H s->upT X.K ca F0 m σ H Q ->
  wpAny (model X.prog X.w) X.A (forIn ifs true λc r=>if r=true then do let ok <-isTrue c X.env (eval c X.env);pure (ForInStep.yield ok) else pure (ForInStep.yield r)) (TP (xat X ca [] F0) pins σ Q) (λ_ _=>False) s
theorem Qfr{X:Cx}{ca:Nat->Addr}:PIf ca X [] YJ:=by
 intro pins s σ H Q I ⟨_,_,μ,R,p⟩
 rw[WK]
 exact Uh ⟨H,I,p H μ .refl R.g⟩
theorem QoU{X:Cx}{ca:Nat->Addr}{c:Expr}{m:MT}(h:PT3 ca X c m):PIf ca X [c] m:=by
 intro pins s σ H Q I q
 exact wpAny_tests_one (noX (h [] F0 pins s σ H Q I q))
section
variable{X:Cx}{ca:Nat->Addr}{pn:List (Addr×Obj)}
theorem Qnp{scope:Scope}{Nb:List Str}{no:Nat}{cap:List Nat}{cl:List (Str×Addr)}{pins:List (Addr×Obj)}{σ:L2.St}{H:Hp}{s:Shared}{ex:List Addr}(B:BScope X scope Nb no cap)(hcl:clOf X.env.cells scope.names []=some cl)(I:Inv (xat X ca pn F0) pins σ H s)(hex:∀b∈ex,FpOk (xat X ca pn F0) pins H b)(hlt:∀b∈ex,b<s.heap.objs.size):(xat (blk X scope cl s.heap.objs.size Nb s H ex) ca [] F0).Ok where
 mod:=I.ok.mod
 kind:=B.kind
 glob:=I.ok.glob
 blt:=I.ok.blt
 above:=Uc _
 inj:=λx y c h1 h2=>I.ok.inj x y c (YQ _ _ _ hcl (λ_ _ z=>by cases z) x c h1) (YQ _ _ _ hcl (λ_ _ z=>by cases z) y c h2)
 has:=λx hx=>QbT _ _ _ hcl x (.inl (Qcf (by
  rcases hx with hx|hx
  ·exact JQ B.cell hx (.inl rfl)
  ·exact JQ B.cell hx (.inr rfl))))
 cab:=λ_ _ z=>by cases z
 hd:=I.ok.hd
 frames:=I.ok.frames
 stk:=.inl rfl
 exf:=λb hb=>⟨UD (hlt b hb),λx c e z=>(hex b hb).2.2.2.2.1 x c (YQ _ _ _ hcl (λ_ _ z=>by cases z) x c e) z⟩
 bs:=I.bs
 bsz:=Ut I.ok.bsz I.sz
 noex:=λb o e hb=>by
  rcases(hex b hb).2.2.2.1 with z|z
  ·exact I.ok.noex b o e z
  ·exact absurd (Uq (Ui e) (Ut I.ok.bsz z)) (Te _)
 exfs:=λb hb z=>by
  rcases UE.mp (I.stkSub b z) with e|e
  ·exact(hex b hb).2.1 e
  ·exact(hex b hb).2.2.1 e
 funs:=I.stack
 frf:=I.stkFree
theorem Je{env:Env}:∀{names:List (Str×NameKind)}{x:Str},names.lookup x=some .free ->
  (names.map λ(n,k)=>if (k == NameKind.free && env.scope.kind == .function && env.kindOf n == some .cell) then (n,NameKind.cell) else (n,k)).lookup x=some .local->False
 |[],_,h,_=>by cases h
 | (n,k0)::r,x,h,h'=>by
  have ih:=@Je env r x
  rw[UI]at h'
  dsimp only at h'
  by_cases hc:(k0 == NameKind.free && env.scope.kind == .function && env.kindOf n == some .cell)=true
  ·rw[Ud hc]at h'
   cases hx:x == n with
   |true=>simp only[List.lookup,hx]at h';cases h'
   |false=>simp only[List.lookup,hx]at h h';exact ih h h'
  ·rw[Ue hc]at h'
   cases hx:x == n with
   |true=>simp only[List.lookup,hx]at h h';rw[h']at h;cases h
   |false=>simp only[List.lookup,hx]at h h';exact ih h h'
theorem QjL{K:Frag}{ca:Nat->Addr}{μ2:List Addr}{σ3:S3}{g1:G}{σ:L2.St}{H2:Hp}(no:Nat)(cap:List Nat)(R2:Rep K ca μ2 σ3 g1 σ H2):Rep K ca μ2 (capt no cap σ3) g1 (List.replicate no none++cap.map λi=>(σ[i]?).getD none) H2:=by
 refine⟨R2.g,?_,λi d h=>?_⟩
 ·unfold capt
  rw[Us,Us,U9,U9,Ur,Ur]
 ·unfold capt at h
  have hi:no<=i:=by
   apply Wc
   intro hlt
   rw[UA (by simpa using hlt),Rf,Ud hlt]at h
   cases h
  rw[Ux (by simpa using hi),U9,Uy]at h ⊢
  cases hcp:cap[i-no]? with
  |none=>rw[hcp]at h;cases h
  |some j =>
   rw[hcp]at h
   have h:(σ3[j]?).getD none=some d:=by simpa using h
   have hs:σ3[j]?=some (some d):=by
    cases z:σ3[j]? with
    |none=>rw[z]at h;cases h
    |some w=>rw[z]at h;have h:w=some d:=h;rw[h]
   obtain⟨v,h1,h2⟩:=R2.st j d hs
   exact⟨v,by simp[h1],h2⟩
theorem QeF{tg iter elt:Expr}{ifs:List Expr}{scope:Scope}{pos:Pos}{Nb:List Str}{no:Nat}{cap:List Nat}{cl:List (Str×Addr)}{f:MG}{tc:MT}{me:ME}{src:Src}{pins:List (Addr×Obj)}{σ:L2.St}{σ3:S3}{H2:Hp}{s2:Shared}{μ2:List Addr}{g1 g2:G}{ds:List D}{it:Addr}{fp:List Addr}{tn:Nat->Heap->Prop}{J:It}{RR:Value->Addr->Result->Shared->Prop}{E:Value->Shared->Prop}(B:BScope X scope Nb no cap)(hc:X.calm=true)(hb:∀cl C s3 H3 ex,PG3 ca (blk X scope cl C Nb s3 H3 ex) tg f/\PIf ca (blk X scope cl C Nb s3 H3 ex) ifs tc/\PE3 ca (blk X scope cl C Nb s3 H3 ex) elt me)(hcl:clOf X.env.cells scope.names []=some cl)(I2:Inv (xat X ca pn F0) pins σ H2 s2)(T:Turn X.prog X.w X.K tg J fp it tn)(st2:tn 0 s2.heap)(f2:∀b∈fp,FpOk (xat X ca pn F0) pins H2 b)(R2:Rep X.K ca μ2 σ3 g1 σ H2)(sim:Sim X.K ca μ2 H2 src J)(hz:src.top<=SZ)(hL:Jc src f tc me (src.top+1) 0 (capt no cap σ3) g1 []=.ok ds g2)(fin:∀(D C:Addr) (s':Shared) (H4:Hp) (μ4:List Addr) (accV:List V) (its:List Value) (k:Nat),Inv (xat X ca pn F0) pins σ H4 s'->(∃m,s'.heap.Ns C m)->FpOk (xat X ca pn F0) pins H4 C->FpOk (xat X ca pn F0) pins H4 D->D≠C ->
   s'.heap.get? D=some {cls:=.type "list",data:=.seq its.toArray k}->Vals accV its->accV.length<=sizeLine->Ext X.K μ2 H2 μ4 H4->GRep X.K ca μ4 H4 g2->Dens X.K μ4 H4 accV ds->RR (.ref D) C (.ok .next) s'):
  wpAny (model X.prog X.w) X.A (newList []) (λacc s₃=>wpAny (model X.prog X.w) X.A (newFunctionEnv scope X.env.globals cl [] X.env.qual none .none (some X.env)) (λcenv s₄ =>
   codeAny (model X.prog X.w) X.A (.compStart (.ListComp elt [⟨tg,iter,ifs,0⟩] scope pos) 0 (.ref it) acc {cenv with scope:=relabel scope X.env}) (RR acc cenv.locals) s₄) E s₃) E s2:=by
 refine U4 (wpAny_newFunctionEnv B.cell (by intro y hy;simp at hy) (λh₁ hns₁ hsb₁=>?_) B.kind)
 dsimp only at hns₁ hsb₁ ⊢
 generalize hH2:s2.heap.push {cls:=.type "list",dict:=none,data:=.seq ([]:List Value).toArray}=hp at hns₁ hsb₁ ⊢
 have hC:hp.objs.size=s2.heap.objs.size+1:=by rw[<-hH2,Tv]
 have I3:Inv (xat X ca pn F0) pins σ H2 {s2 with heap:=hp}:=by rw[<-hH2];exact I2.kept (t':=s2.toks) λb o e=>Ub _ e
 have hD3:hp.get? s2.heap.objs.size=some {cls:=.type "list",data:=.seq ([]:List Value).toArray}:=by rw[<-hH2];exact Up _ rfl
 have fD:FpOk (xat X ca pn F0) pins H2 s2.heap.objs.size:=I2.fpOk (Uc _) (I2.hok.fresh (Uc _))
 have fC:FpOk (xat X ca pn F0) pins H2 hp.objs.size:=I3.fpOk (Uc _) (I3.hok.fresh (Uc _))
 have fplt:∀b∈fp,b<s2.heap.objs.size:=λb hb=>by
  obtain⟨o,e,_⟩:=T.obj 0 _ st2 b hb
  exact Ui e
 have DnF:s2.heap.objs.size∉fp:=λh=>Te _ (fplt _ h)
 have DnC:s2.heap.objs.size≠hp.objs.size:=by rw[hC];exact UD (TC _)
 have exOk:∀b∈s2.heap.objs.size::fp,FpOk (xat X ca pn F0) pins H2 b:=λb hb=>by
  rcases UE.mp hb with e|e
  ·rw[e];exact fD
  ·exact f2 b e
 have exLt:∀b∈s2.heap.objs.size::fp,b<hp.objs.size:=λb hb=>by
  rcases UE.mp hb with e|e
  ·rw[e,hC];exact TC _
  ·rw[hC];exact Nat.lt_succ_of_lt (fplt b e)
 have okb:(xat (blk X scope cl hp.objs.size Nb {s2 with heap:=hp} H2 (s2.heap.objs.size::fp)) ca [] F0).Ok:=Qnp (s:={s2 with heap:=hp}) B hcl I3 exOk exLt
 obtain⟨hgB,hiB,heB⟩:=hb cl hp.objs.size {s2 with heap:=hp} H2 (s2.heap.objs.size::fp)
 have old:∀b o,hp.get? b=some o->h₁.get? b=some o:=λb o e=>hsb₁.extBut b o (UD (Ui e)) (Ub _ e)
 -- the block's first state
 have Ib:Inv (xat (blk X scope cl hp.objs.size Nb {s2 with heap:=hp} H2 (s2.heap.objs.size::fp)) ca [] F0) [] (List.replicate no none++cap.map λi=>(σ[i]?).getD none) H2 {s2 with heap:=h₁,toks:=s2.toks+([]:List (Str×Value)).length}:=by
  refine⟨okb,rfl,I3.bare,Un.kept old,⟨_,hns₁,λi x v h1 h2 h3=>?_⟩,λx c e=>?_,fC.1,λx c e=>?_,λp hp=>absurd (show p∈([]:List (Addr×Obj)) from hp) (by simp),I3.hok.kept old,?_⟩
  ·have hi:no<=i:=by
    apply Wc
    intro hlt
    rw[UA (by simpa using hlt),Rf,Ud hlt]at h2
    cases h2
   rw[Ux (by simpa using hi),U9,Uy]at h2
   cases hcp:cap[i-no]? with
   |none=>rw[hcp]at h2;cases h2
   |some j =>
    rw[hcp]at h2
    have h2:(σ[j]?).getD none=some v:=by simpa using h2
    have hs:σ[j]?=some (some v):=by
     cases z:σ[j]? with
     |none=>rw[z]at h2;cases h2
     |some w=>rw[z]at h2;have h2:w=some v:=h2;rw[h2]
    obtain⟨y,n1,n2,n3,n4,n5⟩:=B.cap (i-no) j hcp
    have e0:no+(i-no)=i:=by omega
    rw[e0]at n1
    have h1:Nb[i]?=some x:=h1
    have hxy:y=x:=Option.some.inj (n1.symm.trans h1)
    subst hxy
    obtain⟨m,hn,hl⟩:=I3.loc
    obtain⟨u,ru,lk⟩:=hl j y v n2 hs n4
    refine⟨u,ru,.inr ⟨?_,?_⟩⟩
    ·rcases h3 with z|z|z
     ·exact(Je n3 z).elim
     ·exact .inl z
     ·exact .inr z
    ·rcases lk with⟨k1,_⟩|⟨_,c,k2,k3⟩
     ·exact absurd k1 n5
     ·obtain⟨c',hc'⟩:=QbT _ _ _ hcl y (.inl (Qcf n3))
      have:=YQ _ _ _ hcl (λ_ _ z=>by cases z) y c' hc'
      have k2:X.env.cells.lookup y=some c:=k2
      have hcc:c'=c:=Option.some.inj (this.symm.trans k2)
      subst hcc
      exact⟨c',hc',k3.keeps old⟩
  ·obtain⟨v,z⟩:=I3.cell x c (YQ _ _ _ hcl (λ_ _ z=>by cases z) x c e)
   exact⟨v,z.keeps old⟩
  ·exact I3.freeC x c (YQ _ _ _ hcl (λ_ _ z=>by cases z) x c e)
  ·rw[Us,U9,Ur];exact B.len.symm
 have RbR:=QjL no cap R2
 have eK:(xat (blk X scope cl hp.objs.size Nb {s2 with heap:=hp} H2 (s2.heap.objs.size::fp)) ca [] F0).K=X.K:=rfl
 have eP:(xat (blk X scope cl hp.objs.size Nb {s2 with heap:=hp} H2 (s2.heap.objs.size::fp)) ca [] F0).prog=X.prog:=rfl
 have eW:(xat (blk X scope cl hp.objs.size Nb {s2 with heap:=hp} H2 (s2.heap.objs.size::fp)) ca [] F0).w=X.w:=rfl
 have eA:(xat (blk X scope cl hp.objs.size Nb {s2 with heap:=hp} H2 (s2.heap.objs.size::fp)) ca [] F0).A=X.A:=rfl
 have eE:(xat (blk X scope cl hp.objs.size Nb {s2 with heap:=hp} H2 (s2.heap.objs.size::fp)) ca [] F0).env=compEnvC scope cl hp.objs.size X.env:=rfl
 have eC:(xat (blk X scope cl hp.objs.size Nb {s2 with heap:=hp} H2 (s2.heap.objs.size::fp)) ca [] F0).calm=true:=hc
 have eX:∀b∈s2.heap.objs.size::fp,b∈(xat (blk X scope cl hp.objs.size Nb {s2 with heap:=hp} H2 (s2.heap.objs.size::fp)) ca [] F0).ex:=λb hb=>hb
 have eN:∀{pl:List (Addr×Obj)}{p:Addr×Obj},p∈(xat (blk X scope cl hp.objs.size Nb {s2 with heap:=hp} H2 (s2.heap.objs.size::fp)) ca [] F0).pn++pl->p∈pl:=λh=>h
 have toUn:∀{pl:List (Addr×Obj)}{σ':L2.St}{H':Hp}{s':Shared},Inv (xat (blk X scope cl hp.objs.size Nb {s2 with heap:=hp} H2 (s2.heap.objs.size::fp)) ca [] F0) pl σ' H' s'->Un (frs (xat X ca pn F0).stack) (s2.heap.objs.size::fp) H2 H' hp s'.heap:=λI=>I.base
 have toOs:∀{pl:List (Addr×Obj)}{σ':L2.St}{H':Hp}{s':Shared},Inv (xat (blk X scope cl hp.objs.size Nb {s2 with heap:=hp} H2 (s2.heap.objs.size::fp)) ca [] F0) pl σ' H' s'->s'.os=s2.os:=λI=>I.os
 generalize blk X scope cl hp.objs.size Nb {s2 with heap:=hp} H2 (s2.heap.objs.size::fp)=Xb at okb hgB hiB heB Ib eK eP eW eA eE eC eX eN toUn toOs
 -- the iterator's records,through the block
 have FpB:∀{H:Hp}{pl:List (Addr×Obj)},(∀b∈fp,H b=none)->(∀p∈pl,p.1∉fp)->∀b∈fp,FpOk (xat Xb ca [] F0) pl H b:=λ{H pl} hn hpl b hb=>by
  have e0:=okb.exf b (eX b (Uv _ hb))
  refine⟨hn b hb,e0.1,?_,.inl (eX b (Uv _ hb)),e0.2,λp hp z=>?_⟩
  ·exact okb.exfs b (eX b (Uv _ hb))
  ·have hp':p∈pl:=eN hp
   exact hpl p hp' (z ▸ hb)
 have FpD:∀{H:Hp},H s2.heap.objs.size=none->FpOk (xat Xb ca [] F0) [] H s2.heap.objs.size:=λ{H} hn=>by
  have e0:=okb.exf s2.heap.objs.size (eX _ Uu)
  refine⟨hn,e0.1,?_,.inl (eX _ Uu),e0.2,λp hp=>?_⟩
  ·exact okb.exfs s2.heap.objs.size (eX _ Uu)
  ·exact absurd (eN hp) (by simp)
 have st4:tn 0 h₁:=T.keep _ _ _ st2 λb hb o e=>old b o (by rw[<-hH2];exact Ub _ e)
 -- the invariant
 have loop:∀s4:Shared,s4 = {s2 with heap:=h₁,toks:=s2.toks+([]:List (Str×Value)).length} ->
   codeAny (model X.prog X.w) X.A (.compLoop (.ListComp elt [⟨tg,iter,ifs,0⟩] scope pos) 0 (.ref it) (.ref s2.heap.objs.size) (compEnvC scope cl hp.objs.size X.env)) (RR (.ref s2.heap.objs.size) hp.objs.size) s4:=by
  rintro s4 rfl
  refine QeE (λn s'=>∃(i:Nat)(σ4:S3)(g4:G)(μ4:List Addr)(σ5:L2.St)(H4:Hp)(acc:List D)(accV:List V)(its:List Value)(k:Nat),Inv (xat Xb ca [] F0) [] σ5 H4 s'/\tn i s'.heap/\(∀b∈fp,H4 b=none)/\H4 s2.heap.objs.size=none /\
   s'.heap.get? s2.heap.objs.size=some {cls:=.type "list",data:=.seq its.toArray k}/\Vals accV its/\Ext X.K μ2 H2 μ4 H4/\Rep X.K ca μ4 σ4 g4 σ5 H4/\Dens X.K μ4 H4 accV acc/\Jc src f tc me n i σ4 g4 acc=.ok ds g2 /\
   acc.length<=i/\i+n<=SZ+1) ?_ (src.top+1) ⟨0,capt no cap σ3,g1,μ2,_,H2,[],[],[],_,Ib,st4,λb hb=>(f2 b hb).1,fD.1,old _ _ hD3,.nil,.refl,RbR,.nil,hL,Uc _,by omega⟩
  rintro n s5 ⟨i,σ4,g4,μ4,σ5,H4,acc,accV,its,k,I5,st5,fr5,frD,hD5,va,e5,R5,da,hl5,ha5,hn5⟩
  cases n with
  |zero=>cases hl5
  |succ n =>
   unfold Jc at hl5
   have s1:=sim i H4 μ4 g4 e5 R5.g
   have pinD:Inv (xat Xb ca [] F0) [(s2.heap.objs.size,{cls:=.type "list",data:=.seq its.toArray k})] σ5 H4 s5:=I5.pins_of λp hp=>by
    rw[Uw.mp hp]
    have z:=FpD frD
    exact⟨hD5,frD,z.2.1,z.2.2.1,λv q=>by cases q⟩
   have nofp:∀p∈[(s2.heap.objs.size,({cls:=.type "list",data:=.seq its.toArray k}:Obj))],p.1∉fp:=λp hp=>by rw[Uw.mp hp];exact DnF
   have getD:∀{σ':L2.St}{H':Hp}{s':Shared}{pl:List (Addr×Obj)},Inv (xat Xb ca [] F0) ([(s2.heap.objs.size,({cls:=.type "list",data:=.seq its.toArray k}:Obj))]++pl) σ' H' s'->s'.heap.get? s2.heap.objs.size=some {cls:=.type "list",data:=.seq its.toArray k}/\H' s2.heap.objs.size=none:=λ{σ' H' s' pl} I'=>by
    have z:=I'.pin (s2.heap.objs.size,{cls:=.type "list",data:=.seq its.toArray k}) (Uz _ (TF _ (Uw.mpr rfl)))
    exact⟨z.1,z.2.1⟩
   cases hat:src.at' g4 i with
   |none=>rw[hat]at hl5;cases hl5
   |some od =>
    rw[hat]at hl5 s1
    cases od with
    |none =>
     cases hl5
     have dn:=T.done (xat Xb ca [] F0) eP eW eK eC i _ s5 σ5 H4 (λ_ _=>False) pinD (FpB fr5 nofp) st5 s1
     rw[eA]at dn
     refine thn dn λr s6 ⟨hr,I6⟩=>?_
     subst hr
     obtain⟨hD6,frD6⟩:=getD (pl:=[]) (by rw[UM];exact I6)
     have un:Un (frs (xat X ca pn F0).stack) (s2.heap.objs.size::fp) H2 H4 hp s6.heap:=toUn I6
     have hok:HOk (xat X ca pn F0).prog (xat X ca pn F0).w H4 s6.heap:=by have:=I6.hok;rw[eP,eW]at this;exact this
     have os:s6.os=s2.os:=toOs I6
     have I7:Inv (xat X ca pn F0) pins σ H4 s6:=Inv.call' (s':=s6) (ch:=s2.heap.objs.size::fp) I3 os un hok I6.bare λb hb=>⟨(exOk b hb).2.2.2.1,(exOk b hb).2.1,(exOk b hb).2.2.2.2.1,(exOk b hb).2.2.2.2.2⟩
     have hCn:H4 hp.objs.size=none:=by have:=I6.free;rw[eE]at this;exact this
     have nsC:∃m,s6.heap.Ns hp.objs.size m:=by obtain⟨m,hm,_⟩:=I6.loc;rw[eE]at hm;exact⟨m,hm⟩
     refine fin _ _ s6 H4 μ4 accV its k I7 nsC (FpOk.mono fC hCn) (FpOk.mono fD frD6) DnC hD6 va ?_ e5 R5.g da
     rw[da.length]
     have:=Y3
     omega
    |some d =>
     obtain⟨go,yl⟩:=s1
     dsimp only at hl5
     cases hf:f d σ4 with
     |none=>rw[hf]at hl5;cases hl5
     |some σ6 =>
      rw[hf]at hl5
      dsimp only at hl5
      have im:=T.item (xat Xb ca [] F0) eP eW eK eC i _ s5 σ5 H4 (λ_ _=>False) pinD (FpB fr5 nofp) st5 go
      rw[eA]at im
      refine thn im λr s6 ⟨u,hr,h6⟩=>?_
      subst hr
      refine thn h6 λ_ s7 ⟨x,H7,I7,r7,y7,st7,fr7⟩=>?_
      obtain⟨e7,g7,q7⟩:=yl x H7 y7
      have I7':=I7.pinned (FpB fr7 nofp) (T.obj _ _ st7)
      have R7:=R5.go e7 g7
      have asg:=hgB [] F0 _ s7 σ5 H7 x u (λσ' H'=>H'=H7/\Rep X.K ca μ4 σ6 g4 σ' H7) I7' r7 (by
       have:Xb.K=X.K:=eK
       rw[this]
       exact⟨σ4,g4,μ4,d,σ6,R7,q7,hf,λσ' R'=>⟨rfl,R'⟩⟩)
      rw[eP,eW,eA,eE]at asg
      refine thn (noX asg) λ_ s8 ⟨σ8,H8,I8,e8,R8⟩=>?_
      subst e8
      cases ht:tc σ6 g4 with
      |raise _ _=>rw[ht]at hl5;cases hl5
      |stuck=>rw[ht]at hl5;cases hl5
      |ok b g9 =>
       rw[ht]at hl5
       have hl5:(if b=true then (match me σ6 g9 with | .ok y g2=>Jc src f tc me n (i+1) σ6 g2 (acc++[y])|_=>.stuck) else Jc src f tc me n (i+1) σ6 g9 acc)=.ok ds g2:=hl5
       have tst:=hiB _ s8 σ8 _ (λb' H'=>b'=b/\∃μ9,Ext X.K μ4 H8 μ9 H'/\Rep X.K ca μ9 σ6 g9 σ8 H') I8 (by
        have:Xb.K=X.K:=eK
        rw[this]
        refine⟨σ6,g4,μ4,R8,?_⟩
        rw[ht]
        exact λH' μ' e' r'=>⟨rfl,μ',e',R8.go e' r'⟩)
       have eP':Xb.prog=X.prog:=eP
       have eW':Xb.w=X.w:=eW
       have eA':Xb.A=X.A:=eA
       have eE':Xb.env=compEnvC scope cl hp.objs.size X.env:=eE
       rw[eP',eW',eA',eE']at tst
       refine thn tst λok s9 ⟨H9,I9,eb,μ9,e9,R9⟩=>?_
       subst eb
       have again:∀{σ':L2.St}{H':Hp}{s':Shared},Inv (xat Xb ca [] F0) ([(s2.heap.objs.size,({cls:=.type "list",data:=.seq its.toArray k}:Obj))]++Qem fp s7.heap) σ' H' s'->Inv (xat Xb ca [] F0) [] σ' H' s'/\tn (i+1) s'.heap/\∀b∈fp,H' b=none:=λ{σ' H' s'} I'=>by
        refine⟨I'.pins_of λp hp=>absurd hp (by simp),T.keep _ _ _ st7 λb hb o e=>(I'.pin (b,o) (Uz _ (Uz _ (J6 hb e)))).1,λb hb=>?_⟩
        obtain⟨o,e,_⟩:=T.obj _ _ st7 b hb
        exact(I'.pin (b,o) (Uz _ (Uz _ (J6 hb e)))).2.1
       cases ok with
       |false =>
        rw[Ue Ug]at hl5 ⊢
        obtain⟨J1,J2,J3⟩:=again I9
        obtain⟨K1,K2⟩:=getD I9
        refine⟨n,TC n,i+1,σ6,g9,μ9,σ8,H9,acc,accV,its,k,J1,J2,J3,K2,K1,va,(e5.trans e7).trans e9,R9,(da.mono e7).mono e9,hl5,by omega,by omega⟩
       |true =>
        rw[Ud rfl]at hl5 ⊢
        cases hm:me σ6 g9 with
        |raise _ _=>rw[hm]at hl5;cases hl5
        |stuck=>rw[hm]at hl5;cases hl5
        |ok y g10 =>
         rw[hm]at hl5
         have hl5:Jc src f tc me n (i+1) σ6 g10 (acc++[y])=.ok ds g2:=hl5
         have el:=heB [] F0 _ s9 σ8 H9 (λvy H'=>∃μ10,Ext X.K μ9 H9 μ10 H'/\Rep X.K ca μ10 σ6 g10 σ8 H'/\Den X.K μ10 H' vy y) I9 (by
          have:Xb.K=X.K:=eK
          rw[this]
          refine⟨σ6,g9,μ9,R9,?_⟩
          rw[hm]
          exact λv H' μ' e' r' q'=>⟨μ',e',R9.go e' r',q'⟩)
         rw[eP,eW,eA,eE]at el
         refine thn (noX el) λuy s10 ⟨vy,H10,I10,ry,μ10,e10,R10,qy⟩=>?_
         obtain⟨K1,K2⟩:=getD I10
         obtain⟨J1,J2,J3⟩:=again I10
         have hlen:its.length=acc.length:=by rw[<-va.length,da.length]
         refine WN F.slot_list_append ⟨_,K1,rfl⟩ F.entry_list_append (F.args_list_append_2 _ _) (PySem.list_append s2.heap.objs.size its.toArray k uy (by rw[Uf,Wj];have:SZ=1000000:=rfl;omega)) ⟨K1,?_⟩
         have up:=PySem.IsL.update K1 (·.push uy)
         rw[show its.toArray.push uy=(its++[uy]).toArray by simp]at up
         have upo:∀b o,b≠s2.heap.objs.size->s10.heap.get? b=some o->(s10.heap.update s2.heap.objs.size (Obj.mapSeq (·.push uy))).get? b=some o:=λb o hb e=>(U6 s10.heap (Obj.mapSeq (·.push uy)) (Ne.symm hb)).trans e
         obtain⟨d0,d1,d2,d3,d4,d5⟩:=FpD K2
         refine⟨n,TC n,i+1,σ6,g10,μ10,σ8,H10,acc++[y],accV++[vy],its++[uy],_,J1.turned (t':=s10.toks) upo d0 d1 d3 d4 d5,T.keep _ _ _ J2 λb hb o e=>upo b o (λz=>DnF (z ▸ hb)) e,J3,K2,up,va.append (.cons ry .nil),
          ((e5.trans e7).trans e9).trans e10,R10,((da.mono e7).mono e9).mono e10 |>.append (.cons qy .nil),hl5,by rw[Us,Bk];omega,by omega⟩
 exact codeAny_compStart_list (loop _ rfl) (T.self _ 0 _ _ _ st4 (loop _ rfl))
end
section
variable{X:Cx}{ca:Nat->Addr}
theorem QjM{K:Frag}{Φ:XS}{σ:L2.St}{Q:VK}{H:Hp}{μ:List Addr}{mi:MI}{no:Nat}{cap:List Nat}{f:MG}{tc:MT}{me:ME}{σ3:S3}{g:G}(p:Post K ca Φ σ Q H μ (YI mi no cap f tc me σ3 g)):
  ∃src g1 ds g2,mi σ3 g=.ok src g1/\src.top<=SZ/\Jc src f tc me (src.top+1) 0 (capt no cap σ3) g1 []=.ok ds g2/\Post K ca Φ σ Q H μ (.ok (.ref g2.length) (g2++[.lst ds])):=by
 unfold YI at p
 cases hm:mi σ3 g with
 |raise _ _=>rw[hm]at p;exact p.elim
 |stuck=>rw[hm]at p;exact p.elim
 |ok src g1 =>
  rw[hm]at p
  dsimp only at p
  by_cases hz:src.top<=SZ
  ·rw[Ud hz]at p
   cases hL:Jc src f tc me (src.top+1) 0 (capt no cap σ3) g1 []with
   |raise _ _=>rw[hL]at p;exact p.elim
   |stuck=>rw[hL]at p;exact p.elim
   |ok ds g2=>rw[hL]at p;exact⟨src,g1,ds,g2,rfl,hz,hL,p⟩
  ·rw[Ue hz]at p;exact p.elim
theorem Qcg{tg iter elt:Expr}{ifs:List Expr}{scope:Scope}{pos:Pos}{Nb:List Str}{no:Nat}{cap:List Nat}{mi:MI}{f:MG}{tc:MT}{me:ME}(B:BScope X scope Nb no cap)(hc:X.calm=true)(hi:PI3 ca X tg iter mi)(hb:∀cl C s3 H3 ex,PG3 ca (blk X scope cl C Nb s3 H3 ex) tg f/\PIf ca (blk X scope cl C Nb s3 H3 ex) ifs tc/\PE3 ca (blk X scope cl C Nb s3 H3 ex) elt me)(hs:∀x,foldedSetIterable iter X.env x=pure x:=by intro _;rfl):PE3 ca X (.ListComp elt [⟨tg,iter,ifs,0⟩] scope pos) (YI mi no cap f tc me):=by
 intro pn Φ pins s σ H Q I' ⟨σ3,g,μ,R,p⟩
 obtain⟨src,g1,ds,g2,hm,hz,hL,p⟩:=QjM p
 have I:Inv (xat X ca pn F0) pins σ H s:=Inv.wish I' _
 suffices hh:wpAny (model X.prog X.w) X.A (eval (.ListComp elt [⟨tg,iter,ifs,0⟩] scope pos) X.env) (EP (xat X ca pn F0) pins σ Q) (λ_ _=>False) s from
  U8 hh (λu s' ⟨v,H',J,r,q⟩=>⟨v,H',Inv.wish J _,r,q⟩) λ_ _ z=>z.elim
 obtain⟨cl,hcl⟩:=QaN (cells:=X.env.cells) scope.names [] λy hy hf=>I.ok.has y.1 (B.free y hy hf)
 rw[eval_ListComp]
 refine wpAny_comprehension_free (env:=X.env) (use:=none) rfl hs (QaM hcl) B.kind B.loc ?_
 refine thn (noX (hi pn F0 pins s σ H (λJ H'=>∃μ',Ext X.K μ H μ' H'/\GRep X.K ca μ' H' g1/\Sim X.K ca μ' H' src J) I ⟨σ3,g,μ,R,?_⟩)) λv s1 h1=>thn (noX h1) λitv s2 h2=>?_
 ·rw[hm]
  exact λJ H' μ' e r sm=>⟨μ',e,r,sm⟩
 ·obtain⟨it,fp,tn,J,H2,e,I2,T,st2,f2,μ2,e2,r2,sim⟩:=h2
  subst e
  refine QeF (X:=X) (pn:=pn) (RR:=λacc C=>compPost (model X.prog X.w) X.A (λ_ _=>False) none (EP (xat X ca pn F0) pins σ Q) acc C) B hc hb hcl I2 T st2 f2 (R.go e2 r2) sim hz hL ?_
  intro D C s' H4 μ4 accV its k I4 nsC fC fD dc hD va hl e4 r4 da
  obtain⟨m,nsC⟩:=nsC
  refine⟨m,nsC,λh'' hs''=>?_⟩
  have I5:Inv (xat X ca pn F0) pins σ H4 {s' with heap:=h''}:=I4.turned (t':=s'.toks) (λb o hb e=>hs''.extBut b o hb e) fC.1 fC.2.1 fC.2.2.2.1 fC.2.2.2.2.1 fC.2.2.2.2.2
  have hD':=hs''.extBut _ _ dc hD
  have I6:=Inv.track (o:=.lst accV) I5 fD ⟨hl,its,k,va,hD'⟩
  refine⟨.ref D,_,I6,rfl,p _ _ (μ4++[D]) ((e2.trans e4).trans (Qq fD.1)) (r4.push fD.1 ⟨accV,Ql,da.mono (Qq fD.1)⟩) (.ref ?_)⟩
  rw[<-r4.len];simp
theorem Qie(i:Nat){x:Str}{py spos:Pos}{tg iter elt:Expr}{ifs:List Expr}{scope:Scope}{pos:Pos}{Nb:List Str}{no:Nat}{cap:List Nat}{mi:MI}{f:MG}{tc:MT}{me:ME}(hN:X.N.Nodup)(B:BScope X scope Nb no cap)(hc:X.calm=true)(hi:PI3 ca X tg iter mi)(hb:∀cl C s3 H3 ex,PG3 ca (blk X scope cl C Nb s3 H3 ex) tg f/\PIf ca (blk X scope cl C Nb s3 H3 ex) ifs tc/\PE3 ca (blk X scope cl C Nb s3 H3 ex) elt me)(hs:∀x,foldedSetIterable iter X.env x=pure x:=by intro _;rfl)(hn:X.N[i]?=some x:=by rfl)(hx:Loc X.env.scope x:=by first|exact Or.inl rfl|exact Or.inr rfl)(hf:X.fn x=true\/X.env.scope.names.lookup x=some .local:=by first|exact .inl rfl|exact .inr rfl)(hsw:swapsWith (.ListComp elt [⟨tg,iter,ifs,0⟩] scope pos) (some (.Name x py)) spos.line X.env=pure true:=by rfl):
  PS3 ca X (.Assign [.Name x py] (.ListComp elt [⟨tg,iter,ifs,0⟩] scope pos) spos) (mAsg (gSet i) (YI mi no cap f tc me)):=by
 intro pn Φ pins s σ H En I' ⟨σ3,g,μ,R,p⟩
 have pp:∃src g1 ds g2,mi σ3 g=.ok src g1/\src.top<=SZ/\Jc src f tc me (src.top+1) 0 (capt no cap σ3) g1 []=.ok ds g2/\PostS X.K ca Φ En H μ (.nx (σ3.set i (some (.ref g2.length))) (g2++[.lst ds])):=by
  unfold mAsg YI gSet at p
  cases hm:mi σ3 g with
  |raise _ _=>rw[hm]at p;exact p.elim
  |stuck=>rw[hm]at p;exact p.elim
  |ok src g1 =>
   rw[hm]at p
   dsimp only at p
   by_cases hz:src.top<=SZ
   ·rw[Ud hz]at p
    cases hL:Jc src f tc me (src.top+1) 0 (capt no cap σ3) g1 []with
    |raise _ _=>rw[hL]at p;exact p.elim
    |stuck=>rw[hL]at p;exact p.elim
    |ok ds g2=>rw[hL]at p;exact⟨src,g1,ds,g2,rfl,hz,hL,p⟩
   ·rw[Ue hz]at p;exact p.elim
 obtain⟨src,g1,ds,g2,hm,hz,hL,p⟩:=pp
 have I:Inv (xat X ca pn F0) pins σ H s:=Inv.wish I' _
 suffices hh:wpAny (model X.prog X.w) X.A (exec (.Assign [.Name x py] (.ListComp elt [⟨tg,iter,ifs,0⟩] scope pos) spos) X.env) (SP (xat X ca pn F0) pins En) (λ_ _=>False) s from
  U8 hh (λu s' z=>SP.unwish (X:=xat X ca pn Φ) (E:=(xat X ca pn F0).xe) z) λ_ _ z=>z.elim
 obtain⟨cl,hcl⟩:=QaN (cells:=X.env.cells) scope.names [] λy hy hf=>I.ok.has y.1 (B.free y hy hf)
 rw[exec_Assign_Name_used _ _ _ _ hsw]
 refine Ua (WZ (Ua ?_))
 show wpAny _ _ (do let _ <-comprehension (.ListComp elt [⟨tg,iter,ifs,0⟩] scope pos) scope X.env _ (newList []) false (eval iter X.env) (some (assign (.Name x py) X.env))) _ _ s
 refine Ua (U8 (wpAny_comprehension_free (env:=X.env) (use:=some (assign (.Name x py) X.env)) (Q:=λ_ s'=>SP (xat X ca pn F0) pins En .next s') rfl hs (QaM hcl) B.kind B.loc ?_) (λ_ s' hq=>Uh (Uh hq)) λ_ _ e=>e)
 refine thn (noX (hi pn F0 pins s σ H (λJ H'=>∃μ',Ext X.K μ H μ' H'/\GRep X.K ca μ' H' g1/\Sim X.K ca μ' H' src J) I ⟨σ3,g,μ,R,?_⟩)) λv s1 h1=>thn (noX h1) λitv s2 h2=>?_
 ·rw[hm]
  exact λJ H' μ' e r sm=>⟨μ',e,r,sm⟩
 ·obtain⟨it,fp,tn,J,H2,e,I2,T,st2,f2,μ2,e2,r2,sim⟩:=h2
  subst e
  refine QeF (X:=X) (pn:=pn) (RR:=λacc C=>compPost (model X.prog X.w) X.A (λ_ _=>False) (some (assign (.Name x py) X.env)) (λ_ s'=>SP (xat X ca pn F0) pins En .next s') acc C) B hc hb hcl I2 T st2 f2 (R.go e2 r2) sim hz hL ?_
  intro D C s' H4 μ4 accV its k I4 nsC fC fD dc hD va hl e4 r4 da
  obtain⟨m,oC,es,ep,hoC,hdC,kk⟩:=nsC
  have I4':Inv (xat X ca pn F0) (pins++[(C,oC)]) σ H4 s':=I4.pins_of λq hq=>by
   rcases UX.mp hq with z|z
   ·exact I4.pin q (Uz _ z)
   ·rw[Uw.mp z]
    exact⟨hoC,fC.1,fC.2.1,fC.2.2.1,λv w=>by rw[show oC.data=_ from hdC]at w;cases w⟩
  have fD':FpOk (xat X ca pn F0) (pins++[(C,oC)]) H4 D:=⟨fD.1,fD.2.1,fD.2.2.1,fD.2.2.2.1,fD.2.2.2.2.1,λq hq=>by
   rcases UX.mp hq with z|z
   ·exact fD.2.2.2.2.2 q (TF _ z)
   ·rcases UX.mp z with z|z
    ·exact fD.2.2.2.2.2 q (Uz _ z)
    ·rw[Uw.mp z];exact Ne.symm dc⟩
  have I6:=Inv.track (o:=.lst accV) I4' fD' ⟨hl,its,k,va,hD⟩
  show wpAny (model X.prog X.w) X.A (assign (.Name x py) X.env (.ref D)) _ _ s'
  refine wpAny_assign_Name (QaH (X:=xat X ca pn F0) I6 hN hn hx (v:=.ref D) rfl (λs'' I7=>?_) hf)
  have pC:=I7.pin (C,oC) (Uz _ (Uz _ (Uw.mpr rfl)))
  refine⟨m,⟨oC,es,ep,pC.1,hdC,kk⟩,λh'' hs''=>?_⟩
  have I8:Inv (xat X ca pn F0) pins (σ.set i (some (.ref D))) (upd H4 D (.lst accV)) {s'' with heap:=h''} :=
   (I7.pins_of (pins':=pins) λq hq=>I7.pin q (Uz _ (TF _ hq))).turned (t':=s''.toks) (λb o hb e=>hs''.extBut b o hb e) (by rw[Qp (Ne.symm dc)];exact fC.1) fC.2.1 fC.2.2.2.1 fC.2.2.2.2.1 fC.2.2.2.2.2
  refine⟨_,_,I8,p _ _ (μ4++[D]) ((e2.trans e4).trans (Qq fD.1)) (Rep.set ((R.go (e2.trans e4) r4).go (Qq fD.1) (r4.push (o:=.lst accV) (u:=.lst ds) fD.1 ⟨accV,Ql,da.mono (Qq fD.1)⟩)) (.ref ?_) i)⟩
  rw[<-r4.len];simp
end
section
variable{X:Cx}{ca:Nat->Addr}{a b:Expr}{ma mb:ME}{pos:Pos}
theorem QjN:OpR X (binaryOp .Add) (λx y H Q=>∃a b ys,x=.ref a/\y=.ref b/\SqT X.K H a []/\SqT X.K H b ys/\Q (.ref b) H):=by
 intro pins s σ H x y v u Q I rx ry h
 obtain⟨a,b,ys,rfl,rfl,ha,hb,q⟩:=h
 cases rx
 cases ry
 obtain⟨us,r1,p1,_⟩:=I.tuple ha
 obtain⟨ts,r2,p2,_⟩:=I.tuple hb
 cases r1
 obtain⟨⟨cls,dd,data,sl⟩,ho,hc,n,hd⟩:=id p1
 obtain⟨⟨cls2,dd2,data2,sl2⟩,ho2,hc2,n2,hd2⟩:=id p2
 simp only at hc hd hc2 hd2
 subst hc hd hc2 hd2
 exact concat_meets ⟨_,ho,rfl⟩ ⟨_,ho2,rfl⟩ W7 seq_tuple_add RM RI (RB _ _)
   (tuple_addW0 a b _ _ n n2 dd dd2 sl sl2 (by simp)) ⟨ho,ho2,⟨.ref b,H,I,rfl,q⟩⟩
theorem QjO{K:Frag}:Jp K ca (λx y H Q=>(((∃i j,x=.int i/\y=.int j/\Q (.int (i+j)) H)\/Qm7 K x y H Q)\/rCat x y H Q)\/(∃a b ys,x=.ref a/\y=.ref b/\SqT K H a []/\SqT K H b ys/\Q (.ref b) H)) pAdd:=by
 intro Φ σ H μ g x y dx dy Q r qx qy p
 unfold pAdd at p
 cases qx with
 |int i =>
  cases qy with
  |int j=>exact .inl (.inl (.inl ⟨i,j,rfl,rfl,p _ H μ .refl r (.int _)⟩))
  |_=>exact p.elim
 |@tup ax xs dsx hx hsx =>
  cases qy with
  |@tup ay ys dsy hy hsy =>
   dsimp only at p
   by_cases z:dsx.length+dsy.length<=SZ
   ·rw[Ud z]at p
    by_cases hx0:dsx=[]
    ·subst hx0
     cases hsx
     exact .inr ⟨ax,ay,ys,rfl,rfl,hx,hy,p _ H μ .refl r (.tup hy hsy)⟩
    ·refine .inl (.inl (.inr ⟨ax,ay,xs,ys,rfl,rfl,hx,hy,?_,by rw[hsx.length,hsy.length];exact Ut z Y3,λe=>?_,λ_ t ht=>p _ _ μ (QI ht) (r.new ht) (.tup (.of Ql) ((hsx.append hsy).mono (QI ht)))⟩))
     ·rintro rfl
      cases hsx
      exact hx0 rfl
     ·subst e
      cases hsy
      rw[UM]at p
      exact p _ H μ .refl r (.tup hx hsx)
   ·rw[Ue z]at p;exact p.elim
  |_=>exact p.elim
 |@ref n an hn =>
  cases qy with
  |@ref m am hm =>
   dsimp only at p
   cases hg:g[n]? with
   |none=>rw[hg]at p;exact p.elim
   |some o =>
    cases hg2:g[m]? with
    |none=>rw[hg,hg2]at p;cases o <;> exact p.elim
    |some o2 =>
     rw[hg,hg2]at p
     obtain⟨a1,ha1,or1⟩:=r.addr hg
     obtain⟨a2,ha2,or2⟩:=r.addr hg2
     rw[hn]at ha1;cases ha1
     rw[hm]at ha2;cases ha2
     cases o with
     |lst xs =>
      cases o2 with
      |lst ys =>
       dsimp only at p
       obtain⟨vs,hH,q⟩:=or1
       obtain⟨ws,hH2,q2⟩:=or2
       by_cases z:xs.length+ys.length<=SZ
       ·rw[Ud z]at p
        refine .inl (.inr ⟨an,am,vs,ws,rfl,rfl,hH,hH2,by rw[q.length,q2.length];exact Ut z Y3,λt ht=>p _ _ (μ++[t]) (Qq ht) (r.push ht ⟨_,Ql,(q.append q2).mono (Qq ht)⟩) (.ref ?_)⟩)
        rw[<-r.len];simp
       ·rw[Ue z]at p;exact p.elim
      |_=>exact p.elim
     |_=>cases o2 <;> exact p.elim
  |_=>exact p.elim
 |_=>cases qy <;> exact p.elim
theorem Z8(ha:PE3 ca X a ma)(hb:PE3 ca X b mb):PE3 ca X (.BinOp a .Add b pos) (mOp2 pAdd ma mb) :=
 Qg6 (λ_ _=>((op_add.or Qlu).or Qnd).or QjN) QjO ha hb
theorem Qfs{K:Frag}{C:Int->Int->Prop}{h:Int->Int->V}{f:D->D->G->Res D}(hf:∀Φ σ i j g Q H μ,GRep K ca μ H g->Post K ca Φ σ Q H μ (f (.int i) (.int j) g)->C i j/\Q (h i j) H)(hn:∀Φ σ x y g Q H μ,Post K ca Φ σ Q H μ (f x y g)->∃i j,x=.int i/\y=.int j):Jp K ca (rI C h) f:=by
 intro Φ σ H μ g x y dx dy Q r qx qy p
 obtain⟨i,j,rfl,rfl⟩:=hn Φ σ dx dy g Q H μ p
 cases qx
 cases qy
 obtain⟨c,q⟩:=hf Φ σ i j g Q H μ r p
 exact⟨i,j,rfl,rfl,c,q⟩
theorem Qgg{K:Frag}{h:Int->Int->V}{f:D->D->G->Res D}(hf:∀Φ σ i j g Q H μ,GRep K ca μ H g->Post K ca Φ σ Q H μ (f (.int i) (.int j) g)->Q (h i j) H)(hn:∀Φ σ x y g Q H μ,Post K ca Φ σ Q H μ (f x y g)->∃i j,x=.int i/\y=.int j):Jp K ca (rI0 h) f:=by
 intro Φ σ H μ g x y dx dy Q r qx qy p
 obtain⟨i,j,rfl,rfl⟩:=hn Φ σ dx dy g Q H μ p
 cases qx
 cases qy
 exact⟨i,j,rfl,rfl,hf Φ σ i j g Q H μ r p⟩
theorem QaO{K:Frag}{f:D->D->G->Res D}(h:∀x y g,(∃i j,x=D.int i/\y=D.int j)\/f x y g=.stuck)(Φ:XS)(σ:L2.St)(x y:D)(g:G)(Q:VK)(H:Hp)(μ:List Addr)(p:Post K ca Φ σ Q H μ (f x y g)):∃i j,x=.int i/\y=.int j:=by
 rcases h x y g with z|z
 ·exact z
 ·rw[z]at p;exact p.elim
theorem Qaw(ha:PE3 ca X a ma)(hb:PE3 ca X b mb):PE3 ca X (.BinOp a .Sub b pos) (mOp2 pSub ma mb) :=
 Qg6 (λ_ _=>QmW) (Qgg (λΦ σ i j g Q H μ r p=>p _ H μ .refl r (.int _)) (QaO λx y g=>by cases x <;> cases y <;> first|exact .inl ⟨_,_,rfl,rfl⟩|exact .inr rfl)) ha hb
theorem Qan(ha:PE3 ca X a ma)(hb:PE3 ca X b mb):PE3 ca X (.BinOp a .FloorDiv b pos) (mOp2 Z7 ma mb) :=
 Qg6 (λ_ _=>Qlh) (Qfs (λΦ σ i j g Q H μ r p=>by
  unfold Z7 at p
  by_cases z:0<j/\j<1073741824
  ·dsimp only at p;rw[Ud z]at p;exact⟨z,p _ H μ .refl r (.int _)⟩
  ·dsimp only at p;rw[Ue z]at p;exact p.elim) (QaO λx y g=>by cases x <;> cases y <;> first|exact .inl ⟨_,_,rfl,rfl⟩|exact .inr rfl)) ha hb
theorem Ym(ha:PE3 ca X a ma)(hb:PE3 ca X b mb):PE3 ca X (.BinOp a .Mod b pos) (mOp2 pMod ma mb) :=
 Qg6 (λ_ _=>QmX) (Qfs (λΦ σ i j g Q H μ r p=>by
  unfold pMod at p
  by_cases z:0<j
  ·dsimp only at p;rw[Ud z]at p;exact⟨z,p _ H μ .refl r (.int _)⟩
  ·dsimp only at p;rw[Ue z]at p;exact p.elim) (QaO λx y g=>by cases x <;> cases y <;> first|exact .inl ⟨_,_,rfl,rfl⟩|exact .inr rfl)) ha hb
theorem Dens.rep{K:Frag}{μ:List Addr}{H:Hp}{vs:List V}{ds:List D}(h:Dens K μ H vs ds):∀k:Nat,Dens K μ H (List.replicate k vs).flatten (List.replicate k ds).flatten
 |0=>.nil
 |k+1=>by rw[U0,U0,Rb,Rb];exact h.append (Dens.rep h k)
theorem QjP{K:Frag}:Jp K ca (λx y H Q=>(∃i j,x=.int i/\y=.int j/\(cM i\/cM j)/\Q (.int (i*j)) H)\/rRep x y H Q) pMul:=by
 intro Φ σ H μ g x y dx dy Q r qx qy p
 unfold pMul at p
 cases qx with
 |int i =>
  cases qy with
  |int j =>
   dsimp only at p
   by_cases z:cM i\/cM j
   ·rw[Ud z]at p;exact .inl ⟨i,j,rfl,rfl,z,p _ H μ .refl r (.int _)⟩
   ·rw[Ue z]at p;exact p.elim
  |_=>exact p.elim
 |@ref n an hn =>
  cases qy with
  |int k =>
   dsimp only at p
   cases hg:g[n]? with
   |none=>rw[hg]at p;exact p.elim
   |some o =>
    rw[hg]at p
    obtain⟨a1,ha1,or1⟩:=r.addr hg
    rw[hn]at ha1;cases ha1
    cases o with
    |lst xs =>
     obtain⟨vs,hH,q⟩:=or1
     dsimp only at p
     by_cases z:(0<=k/\k<1073741824)/\xs.length*k.toNat<=SZ
     ·rw[Ud z]at p
      refine .inr ⟨an,k,vs,rfl,rfl,hH,by omega,by omega,by rw[q.length];exact Ut z.2 Y3,λt ht=>p _ _ (μ++[t]) (Qq ht) (r.push ht ⟨_,Ql,(q.rep k.toNat).mono (Qq ht)⟩) (.ref ?_)⟩
      rw[<-r.len];simp
     ·rw[Ue z]at p;exact p.elim
    |_=>exact p.elim
  |_=>exact p.elim
 |_=>cases qy <;> exact p.elim
theorem QcY(ha:PE3 ca X a ma)(hb:PE3 ca X b mb):PE3 ca X (.BinOp a .Mult b pos) (mOp2 pMul ma mb) :=
 Qg6 (λ_ _=>op_mul.or Qne) QjP ha hb
theorem QbH(ha:PE3 ca X a ma):PE3 ca X (.UnaryOp .USub a pos) (mOp1 pNeg ma) :=
 r_un (λ_ _=>QmZ) (λΦ σ H μ g x dx Q r qx p=>by
  cases qx with
  |int i=>exact⟨i,rfl,p _ H μ .refl r (.int _)⟩
  |_=>exact p.elim) ha
theorem Z3{K:Frag}(r:Int->Int->Bool):Jp K ca (rI0 λi j=>.bl (r i j)) (pCmp r) :=
 Qgg (λΦ σ i j g Q H μ r p=>p _ H μ .refl r (.bl _)) (QaO λx y g=>by cases x <;> cases y <;> first|exact .inl ⟨_,_,rfl,rfl⟩|exact .inr rfl)
theorem r_lt(ha:PE3 ca X a ma)(hb:PE3 ca X b mb):PE3 ca X (.Compare a [.Lt] [b] pos) (mOp2 pLt ma mb):=Qg7 (λ_ _=>Qli) (Z3 _) ha hb (JD b)
theorem r_gt(ha:PE3 ca X a ma)(hb:PE3 ca X b mb):PE3 ca X (.Compare a [.Gt] [b] pos) (mOp2 pGt ma mb):=Qg7 (λ_ _=>Qm0) (Z3 _) ha hb (JD b)
theorem r_ge(ha:PE3 ca X a ma)(hb:PE3 ca X b mb):PE3 ca X (.Compare a [.GtE] [b] pos) (mOp2 pGe ma mb):=Qg7 (λ_ _=>Qm1) (Z3 _) ha hb (JD b)
theorem QlD(ha:PE3 ca X a ma)(hb:PE3 ca X b mb):PT3 ca X (.Compare a [.Lt] [b] pos) (Qk (mOp2 pLt ma mb)):=Qau (λ_ _=>Qli) (Z3 _) ha hb (JD b)
theorem Qch(ha:PE3 ca X a ma)(hb:PE3 ca X b mb):PT3 ca X (.Compare a [.Gt] [b] pos) (Qk (mOp2 pGt ma mb)):=Qau (λ_ _=>Qm0) (Z3 _) ha hb (JD b)
theorem Qnq(ha:PE3 ca X a ma)(hb:PE3 ca X b mb):PT3 ca X (.Compare a [.GtE] [b] pos) (Qk (mOp2 pGe ma mb)):=Qau (λ_ _=>Qm1) (Z3 _) ha hb (JD b)
end
section
variable{X:Cx}{ca:Nat->Addr}{pins:List (Addr×Obj)}{σ:L2.St}{H:Hp}{s:Shared}{μ:List Addr}{g:G}
theorem QaP{eq:D->D->Option Bool}:∀(xs ys:List D)(b:Bool),eqGs eq xs ys=some b->∃e:Nat->Bool,(∀(j:Nat)(x y:D),xs[j]?=some x->ys[j]?=some y->eq x y=some (e j)) /\
  b=((List.range (min xs.length ys.length)).all e && (xs.length == ys.length))
 |[],[],b,h=>by cases h;exact⟨λ_=>true,λj x y h=>by simp at h,by simp⟩
 |[],_::ys,b,h=>by cases h;exact⟨λ_=>true,λj x y h=>by simp at h,by simp⟩
 |_::xs,[],b,h=>by cases h;exact⟨λ_=>true,λj x y _ h=>by simp at h,by simp⟩
 |x::xs,y::ys,b,h=>by
  unfold eqGs at h
  cases h1:eq x y with
  |none=>rw[h1]at h;cases h
  |some c =>
   cases h2:eqGs eq xs ys with
   |none=>rw[h1,h2]at h;cases h
   |some d =>
    rw[h1,h2]at h
    cases h
    obtain⟨e,e1,e2⟩:=QaP xs ys d h2
    refine⟨λj=>match j with|0=>c|j+1=>e j,λj x' y' hx hy=>?_,?_⟩
    ·cases j with
     |zero =>
      simp at hx hy
      subst hx hy
      exact h1
     |succ j =>
      simp at hx hy
      exact e1 j x' y' hx hy
    ·rw[US,US,Nat.add_min_add_right,List.range_succ_eq_map,Wg,List.all_map,e2]
     simp[Function.comp_def,Bool.and_assoc]
theorem QbU{A:Around}{eq:D->D->Option Bool}{vs ws:List V}{ds es:List D}{us ts:List Value}{e:Nat->Bool}(qv:Dens X.K μ H vs ds)(qw:Dens X.K μ H ws es)(rv:Vals vs us)(rw':Vals ws ts)(he:∀(j:Nat) (x y:D),ds[j]?=some x->es[j]?=some y->eq x y=some (e j))(ih:∀{v w:V} {d d':D} {u t:Value} {b:Bool},Den X.K μ H v d->Den X.K μ H w d'->RelV v u->RelV w t->eq d d'=some b->SeqAt.EqAt A s u t b):
  ∀(j:Nat)(h1:j<us.toArray.size)(h2:j<ts.toArray.size),SeqAt.EqAt A s us.toArray[j] ts.toArray[j] (e j):=by
 intro j h1 h2
 have l1:j<us.length:=by simpa using h1
 have l2:j<ts.length:=by simpa using h2
 have l3:j<vs.length:=by rw[rv.length];exact l1
 have l4:j<ws.length:=by rw[rw'.length];exact l2
 obtain⟨x,hx,qx⟩:=qv.getV (i:=j) (v:=vs[j]) (by simp[l3])
 obtain⟨y,hy,qy⟩:=qw.getV (i:=j) (v:=ws[j]) (by simp[l4])
 obtain⟨u,hu,ru⟩:=rv.get (i:=j) (x:=vs[j]) (by simp[l3])
 obtain⟨t,ht,rt⟩:=rw'.get (i:=j) (x:=ws[j]) (by simp[l4])
 have eu:us.toArray[j]=u:=by
  have:us[j]?=some us[j]:=by simp[l1]
  rw[this]at hu;simpa using hu
 have et:ts.toArray[j]=t:=by
  have:ts[j]?=some ts[j]:=by simp[l2]
  rw[this]at ht;simpa using ht
 rw[eu,et]
 exact ih qx qy ru rt (he j x y hx hy)
theorem Qif{A:Around}{eq:D->D->Option Bool}{a c:Addr}{vs ws:List V}{ds es:List D}{b:Bool}(hu:A.units<cLine)(I:Inv X pins σ H s)(h1:SqT X.K H a vs)(q1:Dens X.K μ H vs ds)(h2:SqT X.K H c ws)(q2:Dens X.K μ H ws es)(ih:∀{v w:V} {d d':D} {u t:Value} {b:Bool},Den X.K μ H v d->Den X.K μ H w d'->RelV v u->RelV w t->eq d d'=some b->SeqAt.EqAt A.in1 s u t b)(h:eqGs eq ds es=some b):SeqAt.RcAt A s (.ref a) (.ref c) b:=by
 obtain⟨us,r1,p1,_⟩:=I.tuple h1
 obtain⟨ts,r2,p2,_⟩:=I.tuple h2
 obtain⟨e,e1,e2⟩:=QaP ds es b h
 have q:=SeqAt.RcAt.tuples (A:=A) p1 p2 hu (e:=e) (QbU q1 q2 r1 r2 e1 ih)
 have l1:us.toArray.size=ds.length:=by rw[Uf,<-r1.length,q1.length]
 have l2:ts.toArray.size=es.length:=by rw[Uf,<-r2.length,q2.length]
 rw[l1,l2]at q
 rw[e2]
 exact q
theorem QlE{A:Around}{eq:D->D->Option Bool}{a c:Addr}{vs ws:List V}{ds es:List D}{b:Bool}(hu:A.units<cLine)(I:Inv X pins σ H s)(h1:SqL X.K H a vs)(q1:Dens X.K μ H vs ds)(h2:SqL X.K H c ws)(q2:Dens X.K μ H ws es)(ih:∀{v w:V} {d d':D} {u t:Value} {b:Bool},Den X.K μ H v d->Den X.K μ H w d'->RelV v u->RelV w t->eq d d'=some b->SeqAt.EqAt A.in1 s u t b)(h:(if ds.length=es.length then eqGs eq ds es else some false)=some b):SeqAt.RcAt A s (.ref a) (.ref c) b:=by
 obtain⟨us,r1,p1,_⟩:=I.list h1
 obtain⟨ts,r2,p2,_⟩:=I.list h2
 have l1:us.toArray.size=ds.length:=by rw[Uf,<-r1.length,q1.length]
 have l2:ts.toArray.size=es.length:=by rw[Uf,<-r2.length,q2.length]
 by_cases hl:ds.length=es.length
 ·rw[Ud hl]at h
  obtain⟨e,e1,e2⟩:=QaP ds es b h
  have q:=SeqAt.RcAt.lists (A:=A) p1.isList p2.isList (by rw[l1,l2,hl]) hu (e:=e) (QbU q1 q2 r1 r2 e1 ih)
  rw[l1]at q
  rw[e2,<-hl,Nat.min_self]
  simpa using q
 ·rw[Ue hl]at h
  cases h
  exact SeqAt.RcAt.lists_lengths p1.isList p2.isList (by rw[l1,l2];simpa using hl) hu
theorem QeG{K:Frag}{μ:List Addr}{H:Hp}:∀{vs:List V}{ds:List D}{ns:List Int},Dens K μ H vs ds->Qex ds=some ns->vs=ns.map V.int
 |_,_,ns,.nil,h=>by cases h;rfl
 |_,_,ns,.cons (ds:=ds) h1 h2,h=>by
  cases h1 with
  |int i =>
   unfold Qex at h
   cases hr:Qex ds with
   |none=>rw[hr]at h;cases h
   |some ms=>rw[hr]at h;cases h;rw[UI,QeG h2 hr]
  |_=>cases h
theorem Qgh(I:Inv X pins σ H s):∀(f:Nat){v:V}{d e:D}{b:Bool},Den X.K μ H v d->Den X.K μ H v e->eqI f d e=some b->b=true
 |0,v,d,e,b,h1,h2,h=>by
  cases h1 with
  |int i=>cases h2;cases h;simp
  |_=>cases h
 |f+1,v,d,e,b,h1,h2,h=>by
  cases h1 with
  |int i=>cases h2;cases h;simp
  |tup t1 q1 =>
   cases h2 with
   |tup t2 q2 =>
    have ev:=I.tuple_inj t1 t2
    subst ev
    have h:eqGs (eqI f) _ _=some b:=h
    have key:∀{vs:List V}{ds es:List D}{b:Bool},Dens X.K μ H vs ds->Dens X.K μ H vs es->eqGs (eqI f) ds es=some b->b=true:=by
     intro vs
     induction vs with
     |nil=>intro ds es b a1 a2 a3;cases a1;cases a2;cases a3;rfl
     |cons w ws ih =>
      intro ds es b a1 a2 a3
      cases a1 with
      |cons c1 c2=>cases a2 with
       |cons c3 c4 =>
        rename_i x xs y ys
        unfold eqGs at a3
        cases h1:eqI f x y with
        |none=>rw[h1]at a3;cases a3
        |some b1 =>
         cases h2:eqGs (eqI f) xs ys with
         |none=>rw[h1,h2]at a3;cases a3
         |some b2 =>
          rw[h1,h2]at a3
          cases a3
          rw[Qgh I f c1 c3 h1,ih c2 c4 h2];rfl
    exact key q1 q2 h
   |_=>cases h
  |_=>cases h2 <;> cases h
theorem Qgi(I:Inv X pins σ H s):∀(f:Nat){A:Around}{v w:V}{d e:D}{u t:Value}{b:Bool},A.units+f<cLine->Den X.K μ H v d->Den X.K μ H w e->RelV v u->RelV w t->eqI f d e=some b->SeqAt.EqAt A s u t b
 |0,A,v,w,d,e,u,t,b,hu,qv,qw,rv,rw',h=>by
  cases qv with
  |int i =>
   cases qw with
   |int j=>obtain⟨y,rfl⟩:=rv;obtain⟨z,rfl⟩:=rw';cases h;exact WG _ _ _ _
   |_=>cases h
  |_=>cases h
 |f+1,A,v,w,d,e,u,t,b,hu,qv,qw,rv,rw',h=>by
  cases qv with
  |int i =>
   cases qw with
   |int j=>obtain⟨y,rfl⟩:=rv;obtain⟨z,rfl⟩:=rw';cases h;exact WG _ _ _ _
   |_=>cases h
  |tup h1 q1 =>
   cases qw with
   |tup h2 q2 =>
    cases rv;cases rw'
    rename_i a1 vs ds a2 ws es
    by_cases ea:a1=a2
    ·subst ea
     rw[Qgh I (f+1) (.tup h1 q1) (.tup h2 q2) h]
     exact SeqAt.EqAt.same _
    ·exact SeqAt.EqAt.of_refs ea (Qif (by omega) I h1 q1 h2 q2 (λa1 a2 a3 a4 a5=>Qgi I f (by show A.units+1+f<cLine;omega) a1 a2 a3 a4 a5) h)
   |_=>cases h
  |_=>cases qw <;> cases h
noncomputable def rEqI(K:Frag):R2:=λx y H Q=>∃(μ:List Addr)(a c:Addr)(vs ws:List V)(ds es:List D)(b:Bool),x=.ref a/\y=.ref c/\Dens K μ H vs ds/\Dens K μ H ws es/\((SqT K H a vs/\SqT K H c ws/\eqGs (eqI 2) ds es=some b)\/(SqL K H a vs/\SqL K H c ws/\(if ds.length=es.length then eqGs (eqI 2) ds es else some false)=some b))/\Q (.bl b) H
theorem QkN(hu:X.A.units+16<cLine):OpR X (compareOp .Eq) (rEqI X.K):=by
 intro pins s σ H x y v u Q I rx ry h
 obtain⟨μ,a,c,vs,ws,ds,es,b,rfl,rfl,q1,q2,h,q⟩:=h
 cases rx;cases ry
 have ih:∀{v w:V}{d d':D}{u t:Value}{b:Bool},Den X.K μ H v d->Den X.K μ H w d'->RelV v u->RelV w t->eqI 2 d d'=some b->SeqAt.EqAt X.A.in1 s u t b:=λa1 a2 a3 a4 a5=>Qgi I 2 (by show X.A.units+1+2<cLine;omega) a1 a2 a3 a4 a5
 rcases h with⟨h1,h2,h3⟩|⟨h1,h2,h3⟩
 ·exact(Qif (A:=X.A) (by omega) I h1 q1 h2 q2 ih h3) _ _ _ _ ⟨.bl b,H,I,rfl,q⟩
 ·exact(QlE (A:=X.A) (by omega) I h1 q1 h2 q2 ih h3) _ _ _ _ ⟨.bl b,H,I,rfl,q⟩
noncomputable def Qnr(K:Frag):R2:=λx y H Q=>∃(a:Addr)(vs:List V)(t:Str),x=.ref a/\y=.str t/\SqT K H a vs/\Q (.bl false) H
theorem Qig(hu:X.A.units+16<cLine):OpR X (compareOp .Eq) (Qnr X.K):=by
 intro pins s σ H x y v u Q I rx ry h
 obtain⟨a,vs,t,rfl,rfl,hq,q⟩:=h
 cases rx
 obtain⟨z,rfl⟩:=ry
 obtain⟨its,_,p1,_⟩:=I.tuple hq
 exact(SeqAt.RcAt.tuple_str (A:=X.A) t z p1 (by omega)) _ _ _ _ ⟨.bl false,H,I,rfl,q⟩
theorem Qih{K:Frag}:Jp K ca (λx y H Q=>(rEq x y H Q\/rEqI K x y H Q)\/Qnr K x y H Q) pEq:=by
 intro Φ σ H μ g x y dx dy Q r qx qy p
 unfold pEq eqT at p
 cases qx with
 |non =>
  cases qy with
  |int j=>exact .inl (.inl ⟨rfl,by rw[show decide (V.non=V.int j)=false by simp];exact p _ H μ .refl r (.bl _)⟩)
  |_=>exact p.elim
 |int i =>
  cases qy with
  |int j=>exact .inl (.inl ⟨rfl,by rw[Qdp];exact p _ H μ .refl r (.bl _)⟩)
  |_=>exact p.elim
 |str i =>
  cases qy with
  |str j=>exact .inl (.inl ⟨rfl,by rw[Qdq];exact p _ H μ .refl r (.bl _)⟩)
  |_=>exact p.elim
 |bl i =>
  cases qy with
  |bl j=>exact .inl (.inl ⟨rfl,by rw[Qf3];exact p _ H μ .refl r (.bl _)⟩)
  |_=>exact p.elim
 |tup h1 q1 =>
  cases qy with
  |tup h2 q2 =>
   rename_i a vs ds c ws es
   dsimp only at p
   cases e:eqGs (eqI 2) ds es with
   |none=>rw[e]at p;exact p.elim
   |some b=>rw[e]at p;exact .inl (.inr ⟨μ,a,c,vs,ws,ds,es,b,rfl,rfl,q1,q2,.inl ⟨h1,h2,e⟩,p _ H μ .refl r (.bl _)⟩)
  |str t=>rename_i a vs ds;exact .inr ⟨a,vs,t,rfl,rfl,h1,p _ H μ .refl r (.bl _)⟩
  |_=>exact p.elim
 |@ref n a hn =>
  cases qy with
  |@ref m c hm =>
   dsimp only at p
   cases hg:g[n]? with
   |none=>rw[hg]at p;exact p.elim
   |some o1 =>
    cases hg2:g[m]? with
    |none=>rw[hg,hg2]at p;cases o1 <;> exact p.elim
    |some o2 =>
     rw[hg,hg2]at p
     obtain⟨b1,hb1,ob1⟩:=r.addr hg
     obtain⟨b2,hb2,ob2⟩:=r.addr hg2
     rw[hn]at hb1;cases hb1
     rw[hm]at hb2;cases hb2
     cases o1 with
     |lst xs =>
      cases o2 with
      |lst ys =>
       obtain⟨vs,hH1,q1⟩:=ob1
       obtain⟨ws,hH2,q2⟩:=ob2
       dsimp only at p
       cases e:(if xs.length=ys.length then eqGs (eqI 2) xs ys else some false) with
       |none=>rw[e]at p;exact p.elim
       |some b=>rw[e]at p;exact .inl (.inr ⟨μ,a,c,vs,ws,xs,ys,b,rfl,rfl,q1,q2,.inr ⟨.of hH1,.of hH2,e⟩,p _ H μ .refl r (.bl _)⟩)
      |_=>exact p.elim
     |_=>cases o2 <;> exact p.elim
  |_=>exact p.elim
 |_=>cases qy <;> exact p.elim
theorem Qii{A:Around}{eq:D->D->Option Bool}{a c:Addr}{vs ws:List V}{ds es:List D}{b:Bool}(hu:A.units<cLine)(I:Inv X pins σ H s)(h1:SqL X.K H a vs)(q1:Dens X.K μ H vs ds)(h2:SqL X.K H c ws)(q2:Dens X.K μ H ws es)(ih:∀{v w:V} {d d':D} {u t:Value} {b:Bool},Den X.K μ H v d->Den X.K μ H w d'->RelV v u->RelV w t->eq d d'=some b->SeqAt.EqAt A.in1 s u t b)(h:(if ds.length=es.length then eqGs eq ds es else some false)=some b):SeqAt.RcNeAt A s (.ref a) (.ref c) (!b):=by
 obtain⟨us,r1,p1,_⟩:=I.list h1
 obtain⟨ts,r2,p2,_⟩:=I.list h2
 have l1:us.toArray.size=ds.length:=by rw[Uf,<-r1.length,q1.length]
 have l2:ts.toArray.size=es.length:=by rw[Uf,<-r2.length,q2.length]
 by_cases hl:ds.length=es.length
 ·rw[Ud hl]at h
  obtain⟨e,e1,e2⟩:=QaP ds es b h
  have q:=SeqAt.RcNeAt.lists (A:=A) p1.isList p2.isList (by rw[l1,l2,hl]) hu (e:=e) (QbU q1 q2 r1 r2 e1 ih)
  rw[l1]at q
  rw[e2,<-hl,Nat.min_self]
  simpa using q
 ·rw[Ue hl]at h
  cases h
  exact SeqAt.RcNeAt.lists_lengths p1.isList p2.isList (by rw[l1,l2];simpa using hl) hu
noncomputable def rNeI(K:Frag):R2:=λx y H Q=>∃(μ:List Addr)(a c:Addr)(vs ws:List V)(ds es:List D)(b:Bool),x=.ref a/\y=.ref c/\Dens K μ H vs ds/\Dens K μ H ws es/\SqL K H a vs/\SqL K H c ws/\(if ds.length=es.length then eqGs (eqI 2) ds es else some false)=some b/\Q (.bl (!b)) H
theorem Qns(hu:X.A.units+16<cLine):OpR X (compareOp .NotEq) (rNeI X.K):=by
 intro pins s σ H x y v u Q I rx ry h
 obtain⟨μ,a,c,vs,ws,ds,es,b,rfl,rfl,q1,q2,h1,h2,h3,q⟩:=h
 cases rx;cases ry
 have ih:∀{v w:V}{d d':D}{u t:Value}{b:Bool},Den X.K μ H v d->Den X.K μ H w d'->RelV v u->RelV w t->eqI 2 d d'=some b->SeqAt.EqAt X.A.in1 s u t b:=λa1 a2 a3 a4 a5=>Qgi I 2 (by show X.A.units+1+2<cLine;omega) a1 a2 a3 a4 a5
 exact(Qii (A:=X.A) (by omega) I h1 q1 h2 q2 ih h3) _ _ _ _ ⟨.bl (!b),H,I,rfl,q⟩
theorem Qij{A:Around}{eq:D->D->Option Bool}{a c:Addr}{vs ws:List V}{ds es:List D}{b:Bool}(hu:A.units<cLine)(I:Inv X pins σ H s)(h1:SqT X.K H a vs)(q1:Dens X.K μ H vs ds)(h2:SqT X.K H c ws)(q2:Dens X.K μ H ws es)(ih:∀{v w:V} {d d':D} {u t:Value} {b:Bool},Den X.K μ H v d->Den X.K μ H w d'->RelV v u->RelV w t->eq d d'=some b->SeqAt.EqAt A.in1 s u t b)(h:eqGs eq ds es=some b):SeqAt.RcNeAt A s (.ref a) (.ref c) (!b):=by
 obtain⟨us,r1,p1,_⟩:=I.tuple h1
 obtain⟨ts,r2,p2,_⟩:=I.tuple h2
 obtain⟨e,e1,e2⟩:=QaP ds es b h
 have q:=SeqAt.RcNeAt.tuples (A:=A) p1 p2 hu (e:=e) (QbU q1 q2 r1 r2 e1 ih)
 have l1:us.toArray.size=ds.length:=by rw[Uf,<-r1.length,q1.length]
 have l2:ts.toArray.size=es.length:=by rw[Uf,<-r2.length,q2.length]
 rw[l1,l2]at q
 rw[e2]
 exact q
noncomputable def rNeT(K:Frag):R2:=λx y H Q=>∃(μ:List Addr)(a c:Addr)(vs ws:List V)(ds es:List D)(b:Bool),x=.ref a/\y=.ref c/\Dens K μ H vs ds/\Dens K μ H ws es/\SqT K H a vs/\SqT K H c ws/\eqGs (eqI 2) ds es=some b/\Q (.bl (!b)) H
theorem Qnt(hu:X.A.units+16<cLine):OpR X (compareOp .NotEq) (rNeT X.K):=by
 intro pins s σ H x y v u Q I rx ry h
 obtain⟨μ,a,c,vs,ws,ds,es,b,rfl,rfl,q1,q2,h1,h2,h3,q⟩:=h
 cases rx;cases ry
 have ih:∀{v w:V}{d d':D}{u t:Value}{b:Bool},Den X.K μ H v d->Den X.K μ H w d'->RelV v u->RelV w t->eqI 2 d d'=some b->SeqAt.EqAt X.A.in1 s u t b:=λa1 a2 a3 a4 a5=>Qgi I 2 (by show X.A.units+1+2<cLine;omega) a1 a2 a3 a4 a5
 exact(Qij (A:=X.A) (by omega) I h1 q1 h2 q2 ih h3) _ _ _ _ ⟨.bl (!b),H,I,rfl,q⟩
theorem QlF{K:Frag}:Jp K ca (λx y H Q=>(rNe x y H Q\/rNeI K x y H Q)\/rNeT K x y H Q) pNe:=by
 intro Φ σ H μ g x y dx dy Q r qx qy p
 unfold pNe neT at p
 cases qx with
 |int i =>
  cases qy with
  |non=>exact .inl (.inl ⟨rfl,by rw[show decide (V.int i=V.non)=false by simp];exact p _ H μ .refl r (.bl _)⟩)
  |int j=>exact .inl (.inl ⟨rfl,by rw[Qdp];exact p _ H μ .refl r (.bl _)⟩)
  |_=>exact p.elim
 |str i =>
  cases qy with
  |str j=>exact .inl (.inl ⟨rfl,by rw[Qdq];exact p _ H μ .refl r (.bl _)⟩)
  |_=>exact p.elim
 |tup h1 q1 =>
  cases qy with
  |tup h2 q2 =>
   rename_i a vs ds c ws es
   dsimp only at p
   cases e:eqGs (eqI 2) ds es with
   |none=>rw[e]at p;exact p.elim
   |some b=>rw[e]at p;exact .inr ⟨μ,a,c,vs,ws,ds,es,b,rfl,rfl,q1,q2,h1,h2,e,p _ H μ .refl r (.bl _)⟩
  |_=>exact p.elim
 |bl i =>
  cases qy with
  |bl j=>exact .inl (.inl ⟨rfl,by rw[Qf3];exact p _ H μ .refl r (.bl _)⟩)
  |_=>exact p.elim
 |@ref n a hn =>
  cases qy with
  |@ref m c hm =>
   dsimp only at p
   cases hg:g[n]? with
   |none=>rw[hg]at p;exact p.elim
   |some o1 =>
    cases hg2:g[m]? with
    |none=>rw[hg,hg2]at p;cases o1 <;> exact p.elim
    |some o2 =>
     rw[hg,hg2]at p
     obtain⟨b1,hb1,ob1⟩:=r.addr hg
     obtain⟨b2,hb2,ob2⟩:=r.addr hg2
     rw[hn]at hb1;cases hb1
     rw[hm]at hb2;cases hb2
     cases o1 with
     |lst xs =>
      cases o2 with
      |lst ys =>
       obtain⟨vs,hH1,q1⟩:=ob1
       obtain⟨ws,hH2,q2⟩:=ob2
       dsimp only at p
       cases e:(if xs.length=ys.length then eqGs (eqI 2) xs ys else some false) with
       |none=>rw[e]at p;exact p.elim
       |some b=>rw[e]at p;exact .inl (.inr ⟨μ,a,c,vs,ws,xs,ys,b,rfl,rfl,q1,q2,.of hH1,.of hH2,e,p _ H μ .refl r (.bl _)⟩)
      |_=>exact p.elim
     |_=>cases o2 <;> exact p.elim
  |_=>exact p.elim
 |_=>cases qy <;> exact p.elim
end
section
variable{X:Cx}{ca:Nat->Addr}{a b e:Expr}{ma mb me:ME}{pos p:Pos}{k:Nat}
theorem hu16{A:Around}(hr:Room k A):A.units+16<cLine:=by have:=hr.units;omega
theorem r_eq(hr:Room k X.A)(ha:PE3 ca X a ma)(hb:PE3 ca X b mb):PE3 ca X (.Compare a [.Eq] [b] pos) (mOp2 pEq ma mb):=Qg7 (λpn Φ=>(op_eq.or (QkN (X:=xat X ca pn Φ) (hu16 hr))).or (Qig (X:=xat X ca pn Φ) (hu16 hr))) Qih ha hb (JD b)
theorem Jq(hr:Room k X.A)(ha:PE3 ca X a ma)(hb:PE3 ca X b mb):PT3 ca X (.Compare a [.Eq] [b] pos) (Qk (mOp2 pEq ma mb)):=Qau (λpn Φ=>(op_eq.or (QkN (X:=xat X ca pn Φ) (hu16 hr))).or (Qig (X:=xat X ca pn Φ) (hu16 hr))) Qih ha hb (JD b)
theorem QdB(hr:Room k X.A)(ha:PE3 ca X a ma)(hb:PE3 ca X b mb):PT3 ca X (.Compare a [.NotEq] [b] pos) (Qk (mOp2 pNe ma mb)):=Qau (λpn Φ=>(op_ne.or (Qns (X:=xat X ca pn Φ) (hu16 hr))).or (Qnt (X:=xat X ca pn Φ) (hu16 hr))) QlF ha hb (JD b)
theorem Qgj{K:Frag}{μ:List Addr}{H:Hp}{x:V}{d:D}(q:Den K μ H x d):decide (x=.non)=isNon d:=by cases q <;> simp[isNon]
theorem Qik{K:Frag}:Jp K ca (λx y H Q=>y=.non/\Q (.bl (decide (x=.non))) H) pIs:=by
 intro Φ σ H μ g x y dx dy Q r qx qy p
 cases qy with
 |non=>exact⟨rfl,p _ H μ .refl r (by rw[Qgj qx];exact .bl _)⟩
 |_=>exact p.elim
theorem Qg8{K:Frag}:Jp K ca (λx y H Q=>y=.non/\Q (.bl (!decide (x=.non))) H) QaI:=by
 intro Φ σ H μ g x y dx dy Q r qx qy p
 cases qy with
 |non=>exact⟨rfl,p _ H μ .refl r (by rw[Qgj qx];exact .bl _)⟩
 |_=>exact p.elim
theorem r_is(ha:PE3 ca X a ma)(hb:PE3 ca X b mb):PE3 ca X (.Compare a [.Is] [b] pos) (mOp2 pIs ma mb):=Qg7 (λ_ _=>QkF) Qik ha hb (JD b)
theorem Qft(ha:PE3 ca X a ma)(hb:PE3 ca X b mb):PT3 ca X (.Compare a [.Is] [b] pos) (Qk (mOp2 pIs ma mb)):=Qau (λ_ _=>QkF) Qik ha hb (JD b)
theorem Qgk(ha:PE3 ca X a ma)(hb:PE3 ca X b mb):PT3 ca X (.Compare a [.IsNot] [b] pos) (Qk (mOp2 QaI ma mb)):=Qau (λ_ _=>Qlk) Qg8 ha hb (JD b)
theorem QdC{K:Frag}{μ:List Addr}{H:Hp}{vs:List V}{ds:List D}{i:Int}{d:D}(q:Dens K μ H vs ds)(h:atD ds i=some d):∃v,atI vs i=some v/\Den K μ H v d:=by
 unfold atD at h
 cases hj:ixD ds.length i with
 |none=>rw[hj]at h;cases h
 |some j =>
  rw[hj]at h
  obtain⟨v,h1,h2⟩:=q.get (show ds[j]?=some d from h)
  refine⟨v,?_,h2⟩
  unfold atI
  rw[q.length,show ixN ds.length i=some j from hj]
  exact h1
theorem QlG{K:Frag}:Jp K ca (rIx K) pIx:=by
 intro Φ σ H μ g x y dx dy Q r qx qy p
 unfold pIx at p
 cases qx with
 |tup ht hs =>
  cases qy with
  |int i =>
   dsimp only at p
   rename_i a vs ds
   cases h:atD ds i with
   |none=>rw[h]at p;exact p.elim
   |some d =>
    rw[h]at p
    obtain⟨v,h1,h2⟩:=QdC hs h
    exact .inr (.inl ⟨a,vs,i,v,rfl,rfl,ht,h1,p v H μ .refl r h2⟩)
  |_=>exact p.elim
 |fl ht hs =>
  cases qy with
  |int i =>
   dsimp only at p
   rename_i a vs ds
   cases h:atD ds i with
   |none=>rw[h]at p;exact p.elim
   |some d =>
    rw[h]at p
    obtain⟨v,h1,h2⟩:=QdC hs h
    exact .inl ⟨a,vs,i,v,rfl,rfl,ht.sq,h1,p v H μ .refl r h2⟩
  |_=>exact p.elim
 |@ref n a hn =>
  cases qy with
  |int i =>
   dsimp only at p
   cases hg:g[n]? with
   |none=>rw[hg]at p;exact p.elim
   |some o =>
    rw[hg]at p
    obtain⟨a',ha',ob⟩:=r.addr hg
    rw[hn]at ha';cases ha'
    cases o with
    |lst ds =>
     obtain⟨vs,hH,hs⟩:=ob
     dsimp only at p
     cases h:atD ds i with
     |none=>rw[h]at p;exact p.elim
     |some d =>
      rw[h]at p
      obtain⟨v,h1,h2⟩:=QdC hs h
      exact .inl ⟨a,vs,i,v,rfl,rfl,.of hH,h1,p v H μ .refl r h2⟩
    |_=>exact p.elim
  |_=>exact p.elim
 |str s =>
  cases qy with
  |int i =>
   dsimp only at p
   by_cases z:s.length<=SZ
   ·rw[Ud z]at p
    cases h:atD s.cps.toList i with
    |none=>rw[h]at p;exact p.elim
    |some c =>
     rw[h]at p
     exact .inr (.inr ⟨s,i,c,rfl,rfl,Ut z Y3,h,p _ H μ .refl r (.str _)⟩)
   ·rw[Ue z]at p;exact p.elim
  |_=>exact p.elim
 |_=>cases qy <;> exact p.elim
theorem Qi(ha:PE3 ca X a ma)(hb:PE3 ca X b mb)(hs:Qds b:=by exact λ_ _=>rfl):PE3 ca X (.Subscript a b pos) (mOp2 pIx ma mb):=r_ix (λ_ _=>Qm9) QlG ha hb hs
theorem QjQ{x:Str}{id:String}{r:List V->Hp->VK->Prop}{f:D->G->Res D}(hc:∀pn Φ,CallR (xat X ca pn Φ) (.builtin id) r)(hm:X.mg x=none)(hv:bootBuiltins x=some (.builtin id))(hp:∀(Φ:XS) (σ:L2.St) (H:Hp) (μ:List Addr) (g:G) (y:V) (d:D) (Q:VK),GRep X.K ca μ H g->Den X.K μ H y d->Post X.K ca Φ σ Q H μ (f d g)->r [y] H Q)(he:PE3 ca X e me)(hg:Gl X x)(hn:x ≠ "__name__")(hdb:(x == ("__debug__" : Str))=false)(hs:starEach [e] X.env=[(false,eval e X.env)])(hpl:(backTo pos (starEach [] X.env)).any (·.1)=false):PE3 ca X (.Call (.Name x p) [e] [] pos) (mOp1 f me) :=
 λpn Φ=>Q3 (QbR (X:=xat X ca pn Φ) (hc pn Φ) hg hm hv (Yk he Qj hs pn Φ) hn hdb hs hpl) λσ H Q hQ=>by
  obtain⟨σ3,g,μ,R,q⟩:=hQ
  refine⟨σ3,g,μ,R,?_⟩
  unfold mOp1 at q
  unfold Qb mNil
  cases hm:me σ3 g with
  |raise _ _=>rw[hm]at q;exact q
  |stuck=>rw[hm]at q;exact q.elim
  |ok d g1 =>
   rw[hm,Res.bind_ok]at q
   rw[Res.bind_ok,Res.bind_ok]
   intro vs H1 μ1 e1 r1 q1
   cases q1 with
   |cons h1 h2 =>
    cases h2
    exact hp Φ σ H1 μ1 g1 _ d Q r1 h1 (q.go e1)
end
section
variable{X:Cx}{ca:Nat->Addr}{a b e o:Expr}{ma mb me mo:ME}{pos p apos:Pos}{k:Nat}
theorem r_ty{x:Str}{T:String}{r:List V->Hp->VK->Prop}{f:D->G->Res D}(hc:∀pn Φ,CallR (xat X ca pn Φ) (.type T) r)(hm:X.mg x=none)(hv:bootBuiltins x=some (.type T))(hp:∀(Φ:XS) (σ:L2.St) (H:Hp) (μ:List Addr) (g:G) (y:V) (d:D) (Q:VK),GRep X.K ca μ H g->Den X.K μ H y d->Post X.K ca Φ σ Q H μ (f d g)->r [y] H Q)(he:PE3 ca X e me)(hg:Gl X x)(hn:x ≠ "__name__")(hdb:(x == ("__debug__" : Str))=false)(hs:starEach [e] X.env=[(false,eval e X.env)])(hpl:(backTo pos (starEach [] X.env)).any (·.1)=false):PE3 ca X (.Call (.Name x p) [e] [] pos) (mOp1 f me) :=
 λpn Φ=>Q3 (QhU (X:=xat X ca pn Φ) (hc pn Φ) hg hm hv (Yk he Qj hs pn Φ) hn hdb hs hpl) λσ H Q hQ=>by
  obtain⟨σ3,g,μ,R,q⟩:=hQ
  refine⟨σ3,g,μ,R,?_⟩
  unfold mOp1 at q
  unfold Qb mNil
  cases hm:me σ3 g with
  |raise _ _=>rw[hm]at q;exact q
  |stuck=>rw[hm]at q;exact q.elim
  |ok d g1 =>
   rw[hm,Res.bind_ok]at q
   rw[Res.bind_ok,Res.bind_ok]
   intro vs H1 μ1 e1 r1 q1
   cases q1 with
   |cons h1 h2 =>
    cases h2
    exact hp Φ σ H1 μ1 g1 _ d Q r1 h1 (q.go e1)
theorem YK(hm:X.mg "len" = none)(he:PE3 ca X e me)(hg:Gl X "len":=by rfl)(hs:starEach [e] X.env=[(false,eval e X.env)]:=by rfl)(hpl:(backTo pos (starEach [] X.env)).any (·.1)=false:=by rfl):
  PE3 ca X (.Call (.Name "len" p) [e] [] pos) (mOp1 pLen me) :=
 QjQ (r:=λxs H Q=>∃p ys,xs=[V.ref p]/\(SqL X.K H p ys\/SqT X.K H p ys)/\Q (V.int (ys.length:Int)) H) (λ_ _=>Qes) hm boot_len (λΦ σ H μ g y d Q r q pp=>by
  unfold pLen at pp
  cases q with
  |@tup t vs ds ht hs=>exact⟨t,vs,rfl,.inr ht,pp _ H μ .refl r (by rw[hs.length];exact .int _)⟩
  |@fl t vs ds ht hs=>exact⟨t,vs,rfl,.inl ht.sq,pp _ H μ .refl r (by rw[hs.length];exact .int _)⟩
  |@ref n t hn =>
   dsimp only at pp
   cases hgn:g[n]? with
   |none=>rw[hgn]at pp;exact pp.elim
   |some ob =>
    rw[hgn]at pp
    obtain⟨t',ht',orp⟩:=r.addr hgn
    rw[hn]at ht';cases ht'
    cases ob with
    |lst ds=>obtain⟨vs,hH,q⟩:=orp;exact⟨t,vs,rfl,.inl (.of hH),pp _ H μ .refl r (by rw[q.length];exact .int _)⟩
    |_=>exact pp.elim
  |_=>exact pp.elim) he hg (by decide) (by decide) hs hpl
theorem QdD(hm:X.mg "tuple" = none)(he:PE3 ca X e me)(hg:Gl X "tuple":=by rfl)(hs:starEach [e] X.env=[(false,eval e X.env)]:=by rfl)(hpl:(backTo pos (starEach [] X.env)).any (·.1)=false:=by rfl):
  PE3 ca X (.Call (.Name "tuple" p) [e] [] pos) (mOp1 YO me) :=
 r_ty (r:=λxs H Q=>∃p ys,xs=[V.ref p]/\((SqL X.K H p ys/\∀l,H l=none->Q (.ref l) (upd H l (.tup ys)))\/(SqT X.K H p ys/\Q (.ref p) H))) (λ_ _=>Qdv) hm boot_tuple (λΦ σ H μ g y d Q r q pp=>by
  unfold YO at pp
  cases q with
  |@tup t vs ds ht hs=>exact⟨t,vs,rfl,.inr ⟨ht,pp _ H μ .refl r (.tup ht hs)⟩⟩
  |@fl t vs ds ht hs=>exact⟨t,vs,rfl,.inl ⟨ht.sq,λl hl=>pp _ _ μ (QI hl) (r.new hl) (.tup (.of Ql) (hs.mono (QI hl)))⟩⟩
  |@ref n t hn =>
   dsimp only at pp
   cases hgn:g[n]? with
   |none=>rw[hgn]at pp;exact pp.elim
   |some ob =>
    rw[hgn]at pp
    obtain⟨t',ht',orp⟩:=r.addr hgn
    rw[hn]at ht';cases ht'
    cases ob with
    |lst ds=>obtain⟨vs,hH,q⟩:=orp;exact⟨t,vs,rfl,.inl ⟨.of hH,λl hl=>pp _ _ μ (QI hl) (r.new hl) (.tup (.of Ql) (q.mono (QI hl)))⟩⟩
    |_=>exact pp.elim
  |_=>exact pp.elim) he hg (by decide) (by decide) hs hpl
theorem Qnu(hm:X.mg "list" = none)(he:PE3 ca X e me)(hg:Gl X "list":=by rfl)(hs:starEach [e] X.env=[(false,eval e X.env)]:=by rfl)(hpl:(backTo pos (starEach [] X.env)).any (·.1)=false:=by rfl):
  PE3 ca X (.Call (.Name "list" p) [e] [] pos) (mOp1 Qh2 me) :=
 r_ty (r:=λxs H Q=>∃p ys,xs=[V.ref p]/\(SqL X.K H p ys\/SqT X.K H p ys)/\∀l,H l=none->Q (.ref l) (upd H l (.lst ys))) (λ_ _=>Qet) hm boot_list (λΦ σ H μ g y d Q r q pp=>by
  have el:∀l:Addr,(μ++[l])[g.length]?=some l:=λl=>by rw[<-r.len];simp
  unfold Qh2 at pp
  cases q with
  |@fl t vs ds ht hs=>exact⟨t,vs,rfl,.inl ht.sq,λl hl=>pp _ _ (μ++[l]) (Qq hl) (r.push hl ⟨vs,Ql,hs.mono (Qq hl)⟩) (.ref (el l))⟩
  |@tup t vs ds ht hs=>exact⟨t,vs,rfl,.inr ht,λl hl=>pp _ _ (μ++[l]) (Qq hl) (r.push hl ⟨vs,Ql,hs.mono (Qq hl)⟩) (.ref (el l))⟩
  |@ref n t hn =>
   dsimp only at pp
   cases hgn:g[n]? with
   |none=>rw[hgn]at pp;exact pp.elim
   |some ob =>
    rw[hgn]at pp
    obtain⟨t',ht',orp⟩:=r.addr hgn
    rw[hn]at ht';cases ht'
    cases ob with
    |lst ds=>obtain⟨vs,hH,q⟩:=orp;exact⟨t,vs,rfl,.inl (.of hH),λl hl=>pp _ _ (μ++[l]) (Qq hl) (r.push hl ⟨vs,Ql,q.mono (Qq hl)⟩) (.ref (el l))⟩
    |_=>exact pp.elim
  |_=>exact pp.elim) he hg (by decide) (by decide) hs hpl
theorem QaQ(ho:PE3 ca X o mo)(he:PE3 ca X e me)(hbase:attributeBase o "append" X.env (eval o X.env)=eval o X.env:=by rfl)(hfew:((backTo pos (starEach [e] X.env)).all (λx=>!x.1) && (backToKw pos (keywordEach [] X.env)).all (λx=>x.1.isSome) && decide ([e].length+([]:List Keyword).length+(if ([]:List Keyword).isEmpty then 0 else 1)<30))=true:=by rfl)(hline:(apos.endLine == pos.line)=true:=by rfl)(hs:starEach [e] X.env=(false,eval e X.env)::starEach [] X.env:=by rfl)(hplain:(backTo pos (starEach [] X.env)).any (·.1)=false:=by rfl):
  PE3 ca X (.Call (.Attribute o "append" apos) [e] [] pos) (ZM mo me) :=
 λpn Φ=>Q3 (QjI (X:=xat X ca pn Φ) RJ PySem.F.slot_list_append PySem.F.type_list_append QhY (ho pn Φ) (Yk he Qj hs pn Φ) hbase hfew hline hs hplain) λσ H Q ⟨σ3,g,μ,R,q⟩=>QZ (Jn R q) λx H1 hQ=>by
  obtain⟨d,g1,μ1,e1,R1,q1,p1⟩:=hQ
  cases q1 with
  |@ref n t hn =>
   dsimp only at p1
   cases hgn:g1[n]? with
   |none=>rw[hgn]at p1;exact p1.elim
   |some ob =>
    rw[hgn]at p1
    obtain⟨t',ht',orp⟩:=R1.g.addr hgn
    rw[hn]at ht';cases ht'
    cases ob with
    |lst ds0 =>
     obtain⟨vs0,hH0,_⟩:=orp
     dsimp only at p1
     refine⟨.inl ⟨rfl,_,.of hH0⟩,σ3,g1,μ1,R1,?_⟩
     unfold Qb mNil
     cases hm:me σ3 g1 with
     |raise _ _=>rw[hm]at p1;exact p1
     |stuck=>rw[hm]at p1;exact p1.elim
     |ok y g2 =>
      rw[hm,Res.bind_ok]at p1
      rw[Res.bind_ok,Res.bind_ok]
      intro vs H2 μ2 e2 r2 q2
      cases q2 with
      |@cons vy _ _ _ h1 h2 =>
       cases h2
       cases hg2:g2[n]? with
       |none=>rw[hg2]at p1;exact p1.elim
       |some ob2 =>
        rw[hg2]at p1
        obtain⟨t',ht',orp⟩:=r2.addr hg2
        rw[e2.at hn]at ht';cases ht'
        cases ob2 with
        |lst ds =>
         obtain⟨ws,hH,qs⟩:=orp
         dsimp only at p1
         by_cases z:ds.length<SZ
         ·rw[Ud z]at p1
          have ex:Ext X.K μ2 H2 μ2 (upd H2 t (.lst (ws++[vy]))):=JK hH (by intro _ z;cases z) (by intro _ _ z;cases z)
          refine⟨t,ws,_,rfl,rfl,hH,by rw[qs.length];exact Uq z Y3,p1 _ _ μ2 (e2.trans ex) ?_ .non⟩
          exact r2.set (e2.at hn) hH (by intro _ z;cases z) (by intro _ _ z;cases z) ⟨_,Ql,(qs.mono ex).append (.cons (h1.mono ex) .nil)⟩
         ·rw[Ue z]at p1;exact p1.elim
        |_=>exact p1.elim
    |_=>exact p1.elim
  |_=>exact p1.elim
theorem Dens.dropLast{K:Frag}{μ:List Addr}{H:Hp}{vs:List V}{ds:List D}(h:Dens K μ H vs ds):Dens K μ H vs.dropLast ds.dropLast:=by
 rw[Bn,Bn,h.length]
 exact h.take _
theorem QoV(ho:PE3 ca X o mo)(hbase:attributeBase o "pop" X.env (eval o X.env)=eval o X.env:=by rfl)(hline:(apos.endLine == pos.line)=true:=by rfl):PE3 ca X (.Call (.Attribute o "pop" apos) [] [] pos) (mOp1 pPop mo) :=
 λpn Φ=>Q3 (Qnb (X:=xat X ca pn Φ) RJ PySem.F.slot_list_pop PySem.F.type_list_pop Qnc (ho pn Φ) hbase hline) λσ H Q ⟨σ3,g,μ,R,q⟩=>QZ (Jn R q) λx H1 hQ=>by
  obtain⟨d,g1,μ1,e1,R1,q1,p1⟩:=hQ
  unfold pPop at p1
  cases q1 with
  |@ref n t hn =>
   dsimp only at p1
   cases hgn:g1[n]? with
   |none=>rw[hgn]at p1;exact p1.elim
   |some ob =>
    rw[hgn]at p1
    obtain⟨t',ht',orp⟩:=R1.g.addr hgn
    rw[hn]at ht';cases ht'
    cases ob with
    |lst ds =>
     obtain⟨ws,hH,qs⟩:=orp
     dsimp only at p1
     cases hl:ds[ds.length-1]? with
     |none=>rw[hl]at p1;exact p1.elim
     |some y =>
      rw[hl]at p1
      obtain⟨v,h1,h2⟩:=qs.get hl
      have ex:Ext X.K μ1 H1 μ1 (upd H1 t (.lst ws.dropLast)):=JK hH (by intro _ z;cases z) (by intro _ _ z;cases z)
      refine⟨.inl ⟨rfl,_,.of hH⟩,t,ws,v,rfl,rfl,hH,by rw[qs.length];exact h1,p1 v _ μ1 ex ?_ (h2.mono ex)⟩
      exact R1.g.set hn hH (by intro _ z;cases z) (by intro _ _ z;cases z) ⟨_,Ql,(qs.mono ex).dropLast⟩
    |_=>exact p1.elim
  |_=>exact p1.elim
end
def IsIt(b:Bool)(h:Heap)(i l:Addr)(k:Nat):Prop:=if b=true then h.IsListIter i l k else h.IsTupleIter i l k
def IsSq(b:Bool)(h:Heap)(l:Addr)(xs:Array Value):Prop:=if b=true then h.IsList l xs else h.IsTuple l xs
theorem IsIt.at{b:Bool}{h h':Heap}{i l:Addr}{k:Nat}(x:IsIt b h i l k)(hk:∀o,h.get? i=some o->h'.get? i=some o):IsIt b h' i l k:=by
 cases b
 ·exact Heap.IsTupleIter.at (show h.IsTupleIter i l k from x) hk
 ·exact Heap.IsListIter.at (show h.IsListIter i l k from x) hk
theorem IsSq.at{b:Bool}{h h':Heap}{l:Addr}{xs:Array Value}(x:IsSq b h l xs)(hk:∀o,h.get? l=some o->h'.get? l=some o):IsSq b h' l xs:=by
 cases b
 ·obtain⟨o,e,c⟩:=(show h.IsTuple l xs from x);exact⟨o,hk o e,c⟩
 ·obtain⟨o,e,c⟩:=(show h.IsList l xs from x);exact⟨o,hk o e,c⟩
theorem IsIt.lt{b:Bool}{h:Heap}{i l:Addr}{k:Nat}(x:IsIt b h i l k):i<h.objs.size:=by
 cases b
 ·obtain⟨o,e,_⟩:=(show h.IsTupleIter i l k from x);exact Ui e
 ·obtain⟨o,e,_⟩:=(show h.IsListIter i l k from x);exact Ui e
theorem IsIt.rec{b:Bool}{h:Heap}{i l:Addr}{k:Nat}(x:IsIt b h i l k):∃o,h.get? i=some o/\∀v,o.data≠.cell v:=by
 cases b
 ·obtain⟨o,e,c,d⟩:=(show h.IsTupleIter i l k from x);exact⟨o,e,λv z=>by rw[d]at z;cases z⟩
 ·obtain⟨o,e,c,d⟩:=(show h.IsListIter i l k from x);exact⟨o,e,λv z=>by rw[d]at z;cases z⟩
theorem IsSq.lt{b:Bool}{h:Heap}{l:Addr}{xs:Array Value}(x:IsSq b h l xs):l<h.objs.size:=by
 cases b
 ·obtain⟨o,e,_⟩:=(show h.IsTuple l xs from x);exact Ui e
 ·obtain⟨o,e,_⟩:=(show h.IsList l xs from x);exact Ui e
section
variable{prog:Program}{w:World}{A:Around}{E:Value->Shared->Prop}{s:Shared}
theorem Qg9{it t:Addr}{i:Nat}{items:Array Value}{x:Value}{Q:Value->Shared->Prop}(hit:s.heap.IsTupleIter it t i)(ht:s.heap.IsTuple t items)(hx:items[i]?=some x)(hQ:∀h',h'.IsTupleIter it t (i+1)->Heap.SameBut it s.heap h'->Q x {s with heap:=h'}):
  wpAny (model prog w) A (Builtin.SmallTypes.nextOf (.ref it)) Q E s:=by
 obtain⟨o,ho,hc,hd⟩:=id hit;obtain⟨ol,hol,_,nl,hdl⟩:=ht;unfold Builtin.SmallTypes.nextOf
 refine Ua (Tn (name:=Str.ofString "__next__") hit.typeIs TY (TU TY hit.typeIs Wx ?_ (Wl _)))
 show wpAny _ _ (field (.ref it) 0 >>= _) _ _ s;refine Ua (UV ho hd (x:=.ref t) rfl ?_)
 show wpAny _ _ (if (Value.ref t == Value.none)=true then _ else _) _ _ s;rw[Ue (show ¬((Value.ref t == Value.none)=true) from Ug)]
 show wpAny _ _ (field (.ref it) 1 >>= _) _ _ s;refine Ua (UV ho hd (x:=.int i 0) rfl ?_)
 show wpAny _ _ (seqItems? (.ref t) >>= _) _ _ s;refine Ua (TH hol hdl ?_);simp only[WU,hx]
 refine Ua (RU ho hd (by simp) (Uh ⟨x,rfl,Uh (hQ _ ⟨_,Rn _ ho (Obj.isFreed_of_fields (RG hd _)),(Obj.cls_mapFields ..).trans hc,by rw[RG hd];simp[rawInt]⟩ (Heap.SameBut.update ..))⟩))
theorem QdE{it t:Addr}{i:Nat}{items:Array Value}{Q:Value->Shared->Prop}(hh:A.handled=none)(hit:s.heap.IsTupleIter it t i)(ht:s.heap.IsTuple t items)(hx:items[i]?=none)(hE:∀h' e,Heap.ExtBut it s.heap h'->(∃o,h'.get? e=some o/\o.cls=.type "StopIteration")->E (.ref e) {s with heap:=h'}):wpAny (model prog w) A (Builtin.SmallTypes.nextOf (.ref it)) Q E s:=by
 obtain⟨o,ho,hc,hd⟩:=id hit;obtain⟨ol,hol,_,nl,hdl⟩:=ht;unfold Builtin.SmallTypes.nextOf
 refine Ua (Tn (name:=Str.ofString "__next__") hit.typeIs TY (TU TY hit.typeIs Wx ?_ (Wl _)))
 show wpAny _ _ (field (.ref it) 0 >>= _) _ _ s;refine Ua (UV ho hd (x:=.ref t) rfl ?_)
 show wpAny _ _ (if (Value.ref t == Value.none)=true then _ else _) _ _ s;rw[Ue (show ¬((Value.ref t == Value.none)=true) from Ug)]
 show wpAny _ _ (field (.ref it) 1 >>= _) _ _ s;refine Ua (UV ho hd (x:=.int i 0) rfl ?_)
 show wpAny _ _ (seqItems? (.ref t) >>= _) _ _ s;refine Ua (TH hol hdl ?_);simp only[WU,hx]
 refine Ua (Rc (Ua (RU ho hd (by simp) ?_)))
 show wpAny _ _ (newExc (.type "StopIteration") [] >>= _) _ _ _;refine Ua ?_;simp only[newExc,newTuple];refine Ua (U4 ?_ (by size_fits))
 refine Ua (m:=firstArgMember _ _) (wpAny_of_eq (a:=Value.none) (by first|rfl|(simp only[firstArgMember];rfl)) ?_);refine U4 ?_ (by size_fits);simp only[raiseNew]
 refine Ua (wpAny_handled ?_);(first|rw[show A.in1.handled=none from hh]|rw[hh]);refine Ua (Uh (wpAny_throw ?_))
 exact hE _ _ (((Heap.SameBut.update ..).extBut.push _).push _) ⟨_,Up _ rfl,rfl⟩
theorem Qil{b:Bool}{it l:Addr}{i:Nat}{xs:Array Value}{x:Value}{Q:Value->Shared->Prop}(hit:IsIt b s.heap it l i)(hl:IsSq b s.heap l xs)(hx:xs[i]?=some x)(hQ:∀h',IsIt b h' it l (i+1)->Heap.SameBut it s.heap h'->Q x {s with heap:=h'}):
  wpAny (model prog w) A (Builtin.SmallTypes.nextOf (.ref it)) Q E s:=by
 cases b
 ·exact Qg9 hit hl hx hQ
 ·exact wpAny_nextOf_list_item hit hl hx hQ
theorem Qim{b:Bool}{it l:Addr}{i:Nat}{xs:Array Value}{Q:Value->Shared->Prop}(hh:A.handled=none)(hit:IsIt b s.heap it l i)(hl:IsSq b s.heap l xs)(hx:xs[i]?=none)(hE:∀h' e,Heap.ExtBut it s.heap h'->(∃o,h'.get? e=some o/\o.cls=.type "StopIteration")->E (.ref e) {s with heap:=h'}):wpAny (model prog w) A (Builtin.SmallTypes.nextOf (.ref it)) Q E s:=by
 cases b
 ·exact QdE hh hit hl hx hE
 ·exact wpAny_nextOf_list_end hh hit hl hx hE
theorem QlH{b1 b2:Bool}{z TI TO i1 i2 l1 l2:Addr}{k:Nat}{xs ys:Array Value}{x y a b:Value}{Q:Value->Shared->Prop}(D:ZipApart z TI TO i1 i2 l1 l2)(hz:IsZip s.heap z TI TO .none)(hTI:IsPair s.heap TI (.ref i1) (.ref i2))(hTO:IsPair s.heap TO a b)(h1:IsIt b1 s.heap i1 l1 k)(h2:IsIt b2 s.heap i2 l2 k)(hl1:IsSq b1 s.heap l1 xs)(hl2:IsSq b2 s.heap l2 ys)(hx:xs[k]?=some x)(hy:ys[k]?=some y)(hQ:∀h',IsZip h' z TI TO (rawInt s.heap.objs.size)->IsPair h' TO x y->IsIt b1 h' i1 l1 (k+1)->IsIt b2 h' i2 l2 (k+1)->IsPair h' s.heap.objs.size x y->h'.objs.size=s.heap.objs.size+1 ->
   (∀c o,c≠z->c≠TO->c≠i1->c≠i2->s.heap.get? c=some o->h'.get? c=some o)->Q (.ref s.heap.objs.size) {s with heap:=h'}):
  wpAny (model prog w) A (Builtin.«zip.__next__» ⟨[.ref z],[]⟩) (λfin s'=>∃v,fin=.done (.ret v)/\Q v s') E s:=by
 show wpAny _ _ (field (.ref z) 2 >>= _) _ _ _;refine Ua (UV hz rfl (x:=.bool false) rfl ?_)
 show wpAny _ _ (field (.ref z) 3 >>= _) _ _ _;refine Ua (UV hz rfl (x:=.ref TI) rfl ?_);refine Ua (TH hTI rfl ?_)
 show wpAny _ _ (Builtin.SmallTypes.ownedTupleIsFree (.ref z) >>= _) _ _ _;refine Ua ?_;unfold Builtin.SmallTypes.ownedTupleIsFree
 refine Ua (UV hz rfl (x:=.none) rfl (Uh ?_));simp only[Wu];refine Ua (Rc ?_);refine Ua (UV hz rfl (x:=.ref TO) rfl ?_)
 refine Ua (TZ hz (by simp) λg1 hz1 hs1=>?_);replace hz1:IsZip g1 z TI TO .ellipsis:=hz1
 refine Ua ?_;simp only[List.zipIdx_cons,List.zipIdx_nil,Wo,WK];refine Ua (Ua (W0 ?_))
 show wpAny _ _ (Builtin.SmallTypes.nextOf (.ref i1) >>= _) _ _ _
 refine Ua (Qil (h1.at λo e=>hs1.extBut _ o D.i1z e) (hl1.at λo e=>hs1.extBut _ o D.l1z e) hx λg2 h12 hs2=>Uh ?_)
 have hTO2:IsPair g2 TO a b:=hs2.extBut _ _ D.TOi1 (hs1.extBut _ _ D.TOz hTO)
 refine Ua (TH hTO2 rfl ?_);refine Ua (Wh hTO2 λg3 hTO3 hs3=>?_);replace hTO3:IsPair g3 TO x b:=hTO3
 refine Ua (BD (Uh ?_));refine Ua (Ua (W0 ?_))
 show wpAny _ _ (Builtin.SmallTypes.nextOf (.ref i2) >>= _) _ _ _
 refine Ua (Qil (h2.at λo e=>hs3.extBut _ o D.TOi2.symm (hs2.extBut _ o D.i12.symm (hs1.extBut _ o D.i2z e))) (hl2.at λo e=>hs3.extBut _ o D.l2TO (hs2.extBut _ o D.l2i1 (hs1.extBut _ o D.l2z e))) hy λg4 h24 hs4=>Uh ?_)
 have hTO4:IsPair g4 TO x b:=hs4.extBut _ _ D.TOi2 hTO3
 refine Ua (TH hTO4 rfl ?_);refine Ua (Wh hTO4 λg5 hTO5 hs5=>?_);replace hTO5:IsPair g5 TO x y:=hTO5
 refine Ua (BD (Uh (Uh ?_)));refine Ua (TH hTO5 rfl ?_);refine Ua (wpAny_newTuple ?_)
 have hsz:g5.objs.size=s.heap.objs.size:=by rw[hs5.1,hs4.1,hs3.1,hs2.1,hs1.1]
 have hz5:IsZip g5 z TI TO .ellipsis:=hs5.extBut _ _ D.TOz.symm (hs4.extBut _ _ D.i2z.symm (hs3.extBut _ _ D.TOz.symm (hs2.extBut _ _ D.i1z.symm hz1)))
 have hk5:∀c o,c≠z->c≠TO->c≠i1->c≠i2->s.heap.get? c=some o->g5.get? c=some o:=λc o c1 c2 c3 c4 e=>hs5.extBut _ _ c2 (hs4.extBut _ _ c4 (hs3.extBut _ _ c2 (hs2.extBut _ _ c3 (hs1.extBut _ _ c1 e))))
 have h15:IsIt b1 g5 i1 l1 (k+1):=h12.at λo e=>hs5.extBut _ o D.TOi1.symm (hs4.extBut _ o D.i12 (hs3.extBut _ o D.TOi1.symm e))
 have h25:IsIt b2 g5 i2 l2 (k+1):=h24.at λo e=>hs5.extBut _ o D.TOi2.symm e
 have hzlt:z<g5.objs.size:=Ui hz5
 show wpAny _ _ (Builtin.SmallTypes.ownedTupleHandOut (.ref z) (.ref g5.objs.size) >>= _) _ _ _
 refine Ua ?_;unfold Builtin.SmallTypes.ownedTupleHandOut
 have hz6:IsZip (g5.push {cls:=.type "tuple",data:=.seq #[x,y]}) z TI TO .ellipsis:=Ub _ hz5
 refine Ua (TZ hz6 (by simp) λg7 hz7 hs7=>?_);replace hz7:IsZip g7 z TI TO (rawInt g5.objs.size):=hz7
 refine TZ hz7 (by simp) λg8 hz8 hs8=>?_;replace hz8:IsZip g8 z TI TO (rawInt g5.objs.size):=hz8
 have upz:∀c o,c≠z->g5.get? c=some o->g8.get? c=some o:=λc o c1 e=>hs8.extBut _ _ c1 (hs7.extBut _ _ c1 (Ub _ e))
 have hT8:IsPair g8 g5.objs.size x y:=hs8.extBut _ _ (RW hzlt) (hs7.extBut _ _ (RW hzlt) (Up _ rfl))
 have hsz8:g8.objs.size=g5.objs.size+1:=by rw[hs8.1,hs7.1,Tv]
 rw[hsz]at hz8 hT8 hsz8;refine Uh ⟨_,rfl,?_⟩;show Q (.ref g5.objs.size) _;rw[hsz]
 exact hQ g8 hz8 (upz _ _ D.TOz hTO5) (h15.at λo e=>upz _ o D.i1z e) (h25.at λo e=>upz _ o D.i2z e) hT8 hsz8 λc o c1 c2 c3 c4 e=>upz c o c1 (hk5 c o c1 c2 c3 c4 e)
theorem Qnv{b1 b2:Bool}{z TI TO i1 i2 l1 l2:Addr}{k:Nat}{xs ys:Array Value}{a b:Value}{Q:Fin->Shared->Prop}(hh:A.handled=none)(D:ZipApart z TI TO i1 i2 l1 l2)(hz:IsZip s.heap z TI TO .none)(hTI:IsPair s.heap TI (.ref i1) (.ref i2))(hTO:IsPair s.heap TO a b)(h1:IsIt b1 s.heap i1 l1 k)(h2:IsIt b2 s.heap i2 l2 k)(hl1:IsSq b1 s.heap l1 xs)(hl2:IsSq b2 s.heap l2 ys)(hend:xs[k]?=none\/ys[k]?=none)(hE:∀h' e,(∀c o,c≠z->c≠TO->c≠i1->c≠i2->s.heap.get? c=some o->h'.get? c=some o)->(∃o,h'.get? e=some o/\o.cls=.type "StopIteration")->E (.ref e) {s with heap:=h'}):
  wpAny (model prog w) A (Builtin.«zip.__next__» ⟨[.ref z],[]⟩) Q E s:=by
 show wpAny _ _ (field (.ref z) 2 >>= _) _ _ _;refine Ua (UV hz rfl (x:=.bool false) rfl ?_)
 show wpAny _ _ (field (.ref z) 3 >>= _) _ _ _;refine Ua (UV hz rfl (x:=.ref TI) rfl ?_);refine Ua (TH hTI rfl ?_)
 show wpAny _ _ (Builtin.SmallTypes.ownedTupleIsFree (.ref z) >>= _) _ _ _;refine Ua ?_;unfold Builtin.SmallTypes.ownedTupleIsFree
 refine Ua (UV hz rfl (x:=.none) rfl (Uh ?_));simp only[Wu];refine Ua (Rc ?_);refine Ua (UV hz rfl (x:=.ref TO) rfl ?_)
 refine Ua (TZ hz (by simp) λg1 hz1 hs1=>?_);replace hz1:IsZip g1 z TI TO .ellipsis:=hz1
 refine Ua ?_;simp only[List.zipIdx_cons,List.zipIdx_nil,Wo,WK];refine Ua (Ua (W0 ?_))
 show wpAny _ _ (Builtin.SmallTypes.nextOf (.ref i1) >>= _) _ _ _
 cases hx:xs[k]? with
 |none =>
  refine Ua (Qim hh (h1.at λo e=>hs1.extBut _ o D.i1z e) (hl1.at λo e=>hs1.extBut _ o D.l1z e) hx λg2 e hs2 he=>?_)
  obtain⟨oe,hoe,hce⟩:=he;have hz2:IsZip g2 z TI TO .ellipsis:=hs2 _ _ D.i1z.symm hz1
  have hez:e≠z:=λq=>by subst q;rw[hz2]at hoe;cases hoe;simp at hce
  refine TZ hz2 (by simp) λg3 _ hs3=>hE g3 e (λc o c1 _ c3 _ q=>hs3.extBut _ _ c1 (hs2 _ _ c3 (hs1.extBut _ _ c1 q))) ⟨oe,hs3.extBut _ _ hez hoe,hce⟩
 |some x =>
  have hy:ys[k]?=none:=by rcases hend with q|q;(· rw[hx]at q;cases q);exact q
  refine Ua (Qil (h1.at λo e=>hs1.extBut _ o D.i1z e) (hl1.at λo e=>hs1.extBut _ o D.l1z e) hx λg2 h12 hs2=>Uh ?_)
  have hTO2:IsPair g2 TO a b:=hs2.extBut _ _ D.TOi1 (hs1.extBut _ _ D.TOz hTO)
  refine Ua (TH hTO2 rfl ?_);refine Ua (Wh hTO2 λg3 hTO3 hs3=>?_);refine Ua (BD (Uh ?_));refine Ua (Ua (W0 ?_))
  show wpAny _ _ (Builtin.SmallTypes.nextOf (.ref i2) >>= _) _ _ _
  refine Ua (Qim hh (h2.at λo e=>hs3.extBut _ o D.TOi2.symm (hs2.extBut _ o D.i12.symm (hs1.extBut _ o D.i2z e))) (hl2.at λo e=>hs3.extBut _ o D.l2TO (hs2.extBut _ o D.l2i1 (hs1.extBut _ o D.l2z e))) hy λg4 e hs4 he=>?_)
  obtain⟨oe,hoe,hce⟩:=he;have hz4:IsZip g4 z TI TO .ellipsis:=hs4 _ _ D.i2z.symm (hs3.extBut _ _ D.TOz.symm (hs2.extBut _ _ D.i1z.symm hz1))
  have hez:e≠z:=λq=>by subst q;rw[hz4]at hoe;cases hoe;simp at hce
  refine TZ hz4 (by simp) λg5 _ hs5=>hE g5 e (λc o c1 c2 c3 c4 q=>hs5.extBut _ _ c1 (hs4 _ _ c4 (hs3.extBut _ _ c2 (hs2.extBut _ _ c3 (hs1.extBut _ _ c1 q))))) ⟨oe,hs5.extBut _ _ hez hoe,hce⟩
theorem Qha{b1 b2:Bool}{z TI TO i1 i2 l1 l2:Addr}{k:Nat}{xs ys:Array Value}{x y a b:Value}{Q:Option Value->Shared->Prop}(D:ZipApart z TI TO i1 i2 l1 l2)(hz:IsZip s.heap z TI TO .none)(hTI:IsPair s.heap TI (.ref i1) (.ref i2))(hTO:IsPair s.heap TO a b)(h1:IsIt b1 s.heap i1 l1 k)(h2:IsIt b2 s.heap i2 l2 k)(hl1:IsSq b1 s.heap l1 xs)(hl2:IsSq b2 s.heap l2 ys)(hx:xs[k]?=some x)(hy:ys[k]?=some y)(hQ:∀h',IsZip h' z TI TO (rawInt s.heap.objs.size)->IsPair h' TO x y->IsIt b1 h' i1 l1 (k+1)->IsIt b2 h' i2 l2 (k+1)->IsPair h' s.heap.objs.size x y->h'.objs.size=s.heap.objs.size+1 ->
   (∀c o,c≠z->c≠TO->c≠i1->c≠i2->s.heap.get? c=some o->h'.get? c=some o)->Q (some (.ref s.heap.objs.size)) {s with heap:=h'}):wpAny (model prog w) A (pyNext (.ref z)) Q E s:=by
 have hT:s.TypeIs (.ref z) "zip":=⟨_,hz,rfl⟩;unfold pyNext
 exact Ua (wpAny_attempt (Tn (name:=Str.ofString "__next__") hT Wp (TU Wp hT F.entry_zip_next (QlH D hz hTI hTO h1 h2 hl1 hl2 hx hy λh' a1 a2 a3 a4 a5 a6 a7=>Uh (hQ h' a1 a2 a3 a4 a5 a6 a7)) (F.args_zip_next_1 _))))
theorem QdF{b1 b2:Bool}{z TI TO i1 i2 l1 l2:Addr}{k:Nat}{xs ys:Array Value}{a b:Value}{Q:Option Value->Shared->Prop}(hh:A.handled=none)(D:ZipApart z TI TO i1 i2 l1 l2)(hz:IsZip s.heap z TI TO .none)(hTI:IsPair s.heap TI (.ref i1) (.ref i2))(hTO:IsPair s.heap TO a b)(h1:IsIt b1 s.heap i1 l1 k)(h2:IsIt b2 s.heap i2 l2 k)(hl1:IsSq b1 s.heap l1 xs)(hl2:IsSq b2 s.heap l2 ys)(hend:xs[k]?=none\/ys[k]?=none)(hQ:∀h',(∀c o,c≠z->c≠TO->c≠i1->c≠i2->s.heap.get? c=some o->h'.get? c=some o)->Q none {s with heap:=h'}):wpAny (model prog w) A (pyNext (.ref z)) Q E s:=by
 have hT:s.TypeIs (.ref z) "zip":=⟨_,hz,rfl⟩;unfold pyNext
 refine Ua (wpAny_attempt (Tn (name:=Str.ofString "__next__") hT Wp (TU Wp hT F.entry_zip_next (Qnv hh D hz hTI hTO h1 h2 hl1 hl2 hend λh' e hk he=>?_) (F.args_zip_next_1 _))))
 obtain⟨o,ho,hc⟩:=he;refine Ua (W8 (T:="StopIteration") (b:=true) ⟨o,ho,hc⟩ isSubtype_stop ?_);exact Uh (hQ _ hk)
noncomputable def Qnw(b:Bool):String:=if b=true then "list_iterator" else "tuple_iterator"
noncomputable def QdG(b:Bool)(l:Addr):Obj:={cls:=.type (Qnw b),data:=.fields #[.ref l,.int 0 0]}
theorem QeH{b:Bool}{l:Addr}{xs:Array Value}{Q:Value->Shared->Prop}(hl:IsSq b s.heap l xs)(h:Q (.ref s.heap.objs.size) {s with heap:=s.heap.push (QdG b l)}):wpAny (model prog w) A (pyIter (.ref l)) Q E s:=by
 cases b
 ·exact wpAny_pyIter_tuple hl h
 ·exact RQ hl h
theorem IsSq.push{b:Bool}{h:Heap}{l:Addr}{xs:Array Value}(x:IsSq b h l xs)(o:Obj):IsSq b (h.push o) l xs:=x.at λ_ e=>Ub _ e
noncomputable abbrev zH1(b1:Bool)(h:Heap)(l1:Addr):Heap:=h.push (QdG b1 l1)
noncomputable abbrev zH2(b1 b2:Bool)(h:Heap)(l1 l2:Addr):Heap:=(zH1 b1 h l1).push (QdG b2 l2)
noncomputable abbrev zH3(b1 b2:Bool)(h:Heap)(l1 l2:Addr):Heap:=(zH2 b1 b2 h l1 l2).push {cls:=.type "tuple",data:=.seq #[.ref h.objs.size,.ref (zH1 b1 h l1).objs.size]}
noncomputable abbrev zH4(b1 b2:Bool)(h:Heap)(l1 l2:Addr):Heap:=(zH3 b1 b2 h l1 l2).push {cls:=.type "tuple",data:=.seq #[.none,.none]}
noncomputable abbrev zH5(b1 b2:Bool)(h:Heap)(l1 l2:Addr):Heap:=(zH4 b1 b2 h l1 l2).push {cls:=.type "zip",data:=.fields #[.none,.bool false,.bool false,.ref (zH2 b1 b2 h l1 l2).objs.size,.ref (zH3 b1 b2 h l1 l2).objs.size]}
theorem QlI(b1 b2:Bool)(l1 l2:Addr)(xs ys:Array Value):Meets (Builtin.«zip.__new__» ⟨[.type "zip",.ref l1,.ref l2],[]⟩) (λ_ R s=>IsSq b1 s.heap l1 xs/\IsSq b2 s.heap l2 ys/\R (.ok (.ret (.ref (zH4 b1 b2 s.heap l1 l2).objs.size))) {s with heap:=zH5 b1 b2 s.heap l1 l2}) :=
 .of_wp λprog w A R s h=>by
  obtain⟨hp,g,d,tk,os⟩:=s;obtain⟨hl1,hl2,h⟩:=h;have hsub:=sub_zip
  have hL1:IsSq b1 (Shared.heap ⟨hp,g,d,tk,os⟩) l1 xs:=hl1
  have hL2:IsSq b2 (Shared.heap ⟨hp.push (QdG b1 l1),g,d,tk,os⟩) l2 ys:=hl2.push _
  wp_walk using QeH hL1,QeH hL2
  exact⟨_,rfl,h⟩
theorem itAt(b:Bool){h:Heap}{i l:Addr}(e:h.get? i=some (QdG b l)):IsIt b h i l 0:=by
 cases b
 ·exact⟨_,e,rfl,rfl⟩
 ·exact⟨_,e,rfl,rfl⟩
theorem QjR{b1 b2:Bool}{l1 l2:Addr}{xs ys:Array Value}{Q:Value->Shared->Prop}(hl1:IsSq b1 s.heap l1 xs)(hl2:IsSq b2 s.heap l2 ys)(h:∀h',IsZip h' (s.heap.objs.size+4) (s.heap.objs.size+2) (s.heap.objs.size+3) .none->IsPair h' (s.heap.objs.size+2) (.ref s.heap.objs.size) (.ref (s.heap.objs.size+1))->IsPair h' (s.heap.objs.size+3) .none .none ->
   IsIt b1 h' s.heap.objs.size l1 0->IsIt b2 h' (s.heap.objs.size+1) l2 0->h'.objs.size=s.heap.objs.size+5->(∀c o,s.heap.get? c=some o->h'.get? c=some o)->Q (.ref (s.heap.objs.size+4)) {s with heap:=h'}):
  wpAny (model prog w) A (call (.type "zip") [.ref l1,.ref l2]) Q E s:=by
 refine callType_new F.called_zip (by decide) (F.typeCall_zip_2 _ _) (F.newCall_zip_2 _ _) (λobj=>F.args_object_init_3 obj _ _) F.entry_zip_new (QlI b1 b2 l1 l2 xs ys) ⟨hl1,hl2,?_⟩
 have z1:(zH1 b1 s.heap l1).objs.size=s.heap.objs.size+1:=Tv ..
 have z2:(zH2 b1 b2 s.heap l1 l2).objs.size=s.heap.objs.size+2:=by rw[Tv,z1]
 have z3:(zH3 b1 b2 s.heap l1 l2).objs.size=s.heap.objs.size+3:=by rw[Tv,z2]
 have z4:(zH4 b1 b2 s.heap l1 l2).objs.size=s.heap.objs.size+4:=by rw[Tv,z3]
 have z5:(zH5 b1 b2 s.heap l1 l2).objs.size=s.heap.objs.size+5:=by rw[Tv,z4]
 have g5:(zH5 b1 b2 s.heap l1 l2).get? (zH4 b1 b2 s.heap l1 l2).objs.size=some _:=Up _ rfl
 have g4:(zH5 b1 b2 s.heap l1 l2).get? (zH3 b1 b2 s.heap l1 l2).objs.size=some _:=Ub _ (Up _ rfl)
 have g3:(zH5 b1 b2 s.heap l1 l2).get? (zH2 b1 b2 s.heap l1 l2).objs.size=some _:=Ub _ (Ub _ (Up _ rfl))
 have g2:(zH5 b1 b2 s.heap l1 l2).get? (zH1 b1 s.heap l1).objs.size=some (QdG b2 l2):=Ub _ (Ub _ (Ub _ (Up _ (by unfold QdG;rfl))))
 have g1:(zH5 b1 b2 s.heap l1 l2).get? s.heap.objs.size=some (QdG b1 l1):=Ub _ (Ub _ (Ub _ (Ub _ (Up _ (by unfold QdG;rfl)))))
 show _/\_
 rw[z2,z3,z4]at g5;rw[z1,z2]at g3;rw[z3]at g4;rw[z1]at g2;rw[z4]
 exact⟨⟨_,g5,rfl⟩,h _ g5 g3 g4 (itAt b1 g1) (itAt b2 g2) z5 λc o q=>Ub _ (Ub _ (Ub _ (Ub _ (Ub _ q))))⟩
end
def Sq(b:Bool)(K:Frag)(H:Hp)(a:Addr)(xs:List V):Prop:=if b=true then SqL K H a xs else SqT K H a xs
theorem Sq.real{b:Bool}{X:Cx}{pins:List (Addr×Obj)}{σ:L2.St}{H:Hp}{s:Shared}{a:Addr}{xs:List V}(I:Inv X pins σ H s)(h:Sq b X.K H a xs):∃its:List Value,Vals xs its/\IsSq b s.heap a its.toArray:=by
 cases b
 ·obtain⟨its,r,p,_⟩:=I.tuple (show SqT X.K H a xs from h);exact⟨its,r,p⟩
 ·obtain⟨its,r,p,_⟩:=I.list (show SqL X.K H a xs from h);exact⟨its,r,p.isList⟩
theorem Sq.inj{b:Bool}{X:Cx}{pins:List (Addr×Obj)}{σ:L2.St}{H:Hp}{s:Shared}{a:Addr}{xs ys:List V}(I:Inv X pins σ H s)(h:Sq b X.K H a xs)(h':Sq b X.K H a ys):xs=ys:=by
 cases b
 ·exact I.tuple_inj h h'
 ·exact I.list_inj h h'
noncomputable def Itz(K:Frag)(b1 b2:Bool)(a1 a2:Addr):It :=
  ⟨λi H=>∃xs ys x y,Sq b1 K H a1 xs/\Sq b2 K H a2 ys/\xs[i]?=some x/\ys[i]?=some y,
   λi H v H'=>∃p x y,H p=none/\v=.ref p/\H'=upd H p (.tup [x,y])/\(∀xs,Sq b1 K H a1 xs->xs[i]?=some x)/\∀ys,Sq b2 K H a2 ys->ys[i]?=some y,
   λi H=>∃xs ys,Sq b1 K H a1 xs/\Sq b2 K H a2 ys/\(xs.length<=i\/ys.length<=i)⟩
noncomputable def QoW(b1 b2:Bool)(z TI TO i1 i2 l1 l2:Addr)(i:Nat)(h:Heap):Prop :=
 IsZip h z TI TO .none/\IsPair h TI (.ref i1) (.ref i2)/\(∃a b,IsPair h TO a b)/\IsIt b1 h i1 l1 i/\IsIt b2 h i2 l2 i
theorem QjS{P:Program}{w:World}{K:Frag}{elts:List Expr}{kk:Nat}{tp:Pos}(b1 b2:Bool)(z TI TO i1 i2 l1 l2:Addr)(D:ZipApart z TI TO i1 i2 l1 l2):
  Turn P w K (.Tuple elts kk tp) (Itz K b1 b2 l1 l2) [z,TI,TO,i1,i2] z (QoW b1 b2 z TI TO i1 i2 l1 l2) where
 mem:=by simp
 obj:=λi h st b hb=>by
  obtain⟨hz,hTI,⟨a,c,hTO⟩,h1,h2⟩:=st
  have hb':b=z\/b=TI\/b=TO\/b=i1\/b=i2:=by simpa using hb
  rcases hb' with rfl|rfl|rfl|rfl|rfl
  ·exact⟨_,hz,λv q=>by cases q⟩
  ·exact⟨_,hTI,λv q=>by cases q⟩
  ·exact⟨_,hTO,λv q=>by cases q⟩
  ·exact h1.rec
  ·exact h2.rec
 keep:=λi h h' st k=>by
  obtain⟨hz,hTI,⟨a,c,hTO⟩,h1,h2⟩:=st
  exact⟨k z (by simp) _ hz,k TI (by simp) _ hTI,⟨a,c,k TO (by simp) _ hTO⟩,h1.at λo e=>k i1 (by simp) o e,h2.at λo e=>k i2 (by simp) o e⟩
 item:=by
  intro X hP hw hK hc i pins s σ H E I hf st hg
  subst hP hw hK
  obtain⟨xs,ys,x,y,q1,q2,hx,hy⟩:=hg
  obtain⟨us,r1,p1⟩:=q1.real I
  obtain⟨ts,r2,p2⟩:=q2.real I
  obtain⟨u,hu,ru⟩:=r1.get hx
  obtain⟨t,ht,rt⟩:=r2.get hy
  obtain⟨hz,hTI,⟨a,c,hTO⟩,h1,h2⟩:=st
  have fz:=hf z (by simp)
  have fTI:=hf TI (by simp)
  have fTO:=hf TO (by simp)
  have f1:=hf i1 (by simp)
  have f2:=hf i2 (by simp)
  refine Qha D hz hTI hTO h1 h2 p1 p2 (by simpa using hu) (by simpa using ht) λh' a1 a2 a3 a4 a5 a6 hk=>?_
  have hp:H s.heap.objs.size=none:=I.hok.fresh (Uc _)
  have inC:∀b,b∈[z,TO,i1,i2]->FpOk X pins H b:=λb hb=>by
   have hb':b=z\/b=TO\/b=i1\/b=i2:=by simpa using hb
   rcases hb' with rfl|rfl|rfl|rfl
   ·exact fz
   ·exact fTO
   ·exact f1
   ·exact f2
  have hk':∀b o,b∉[z,TO,i1,i2]->s.heap.get? b=some o->h'.get? b=some o:=λb o hb e=>hk b o (λq=>hb (by simp[q])) (λq=>hb (by simp[q])) (λq=>hb (by simp[q])) (λq=>hb (by simp[q])) e
  have nC:∀b v,H b=some v->b∉[z,TO,i1,i2]:=λb v e hb=>by rw[(inC b hb).1]at e;cases e
  have nP:∀b v,H b=some v->b≠s.heap.objs.size:=λb v e=>QF e hp
  have I1:Inv X pins σ (upd H s.heap.objs.size (.tup [x,y])) {s with heap:=h'}:=by
   refine I.step (g':=s.gens) (t':=s.toks) (d':=s.drawn) (ch:=[z,TO,i1,i2]) (λb hb=>⟨(inC b hb).2.2.2.1,(inC b hb).2.1,(inC b hb).2.2.2.2.1,(inC b hb).2.2.2.2.2⟩) (λb o _ _ hb e _=>hk' b o hb e) (λb o _ _ hb e _=>⟨o.slots,hk' b o hb e⟩)
    (λb o hb e n=>by rw[Qp (UD (Ui e))];exact n) (λb o hb e=>⟨o,hk' b o hb e⟩) (λb v e=>by rw[Qp (nP b _ e)];exact e) (λb o v e=>by rw[Qp (nP b _ e)];exact e) (λb ps e=>⟨#[],by rw[Qp (nP b _ e),e];simp⟩)
    (λm hm=>?_) (λb v e=>?_) I.bare
   ·obtain⟨o,es,ep,ho,rr⟩:=hm
    exact⟨o,es,ep,hk' _ o (λhb=>(inC _ hb).2.1 rfl) ho,rr⟩
   ·by_cases hb:b=s.heap.objs.size
    ·subst hb
     rw[Ql]at e;cases e
     exact⟨by rw[Wj];show 2<=16777216;decide,[u,t],.cons ru (.cons rt .nil),⟨_,a5,rfl,_,rfl⟩⟩
    ·rw[Qp hb]at e
     refine(I.hok b v e).stay (λc' v' hc' q=>?_) (λc' q=>by rw[Qp (nP c' _ q)];exact q) λc' xs' q=>by rw[Qp (nP c' _ q)];exact q
     rcases hc' with rfl|hc'
     ·exact hk' _ _ (nC _ _ e) q
     ·exact hk' _ _ (nC _ _ hc') q
  refine⟨_,rfl,wpAny_letOwnedTupleGo_zip a1 λh'' hz'' hs''=>?_⟩
  have hpz:s.heap.objs.size≠z:=RW (Ui hz)
  have I2:Inv X pins σ (upd H s.heap.objs.size (.tup [x,y])) {s with heap:=h''}:=Inv.turned (s:={s with heap:=h'}) (t':=s.toks) I1 (λb o hb e=>hs''.extBut b o hb e) (by rw[Qp (Ne.symm hpz)];exact fz.1) fz.2.1 fz.2.2.2.1 fz.2.2.2.2.1 fz.2.2.2.2.2
  refine⟨.ref s.heap.objs.size,_,I2,rfl,⟨_,x,y,hp,rfl,rfl,λxs' q=>by rw[q.inj I q1];exact hx,λys' q=>by rw[q.inj I q2];exact hy⟩,
   ⟨hz'',hs''.extBut _ _ D.TIz (hk _ _ D.TIz D.TITO D.TIi1 D.TIi2 hTI),⟨_,_,hs''.extBut _ _ D.TOz a2⟩,a3.at λo e=>hs''.extBut _ o D.i1z e,a4.at λo e=>hs''.extBut _ o D.i2z e⟩,λb hb=>?_⟩
  have lt:b<s.heap.objs.size:=by
   have hb':b=z\/b=TI\/b=TO\/b=i1\/b=i2:=by simpa using hb
   rcases hb' with rfl|rfl|rfl|rfl|rfl
   ·exact Ui hz
   ·exact Ui hTI
   ·exact Ui hTO
   ·exact h1.lt
   ·exact h2.lt
  rw[Qp (UD lt)]
  exact(hf b hb).1
 done:=by
  intro X hP hw hK hc i pins s σ H E I hf st hg
  subst hP hw hK
  obtain⟨xs,ys,q1,q2,hl⟩:=hg
  obtain⟨us,r1,p1⟩:=q1.real I
  obtain⟨ts,r2,p2⟩:=q2.real I
  have l1:=r1.length
  have l2:=r2.length
  obtain⟨hz,hTI,⟨a,c,hTO⟩,h1,h2⟩:=st
  have inC:∀b,b∈[z,TO,i1,i2]->FpOk X pins H b:=λb hb=>hf b (by
   have hb':b=z\/b=TO\/b=i1\/b=i2:=by simpa using hb
   rcases hb' with rfl|rfl|rfl|rfl <;> simp)
  refine QdF (I.ok.hd hc) D hz hTI hTO h1 h2 p1 p2 (by
   rcases hl with z|z
   ·exact .inl (by simp;omega)
   ·exact .inr (by simp;omega)) λh' hk=>⟨rfl,?_⟩
  have hk':∀b o,b∉[z,TO,i1,i2]->s.heap.get? b=some o->h'.get? b=some o:=λb o hb e=>hk b o (λq=>hb (by simp[q])) (λq=>hb (by simp[q])) (λq=>hb (by simp[q])) (λq=>hb (by simp[q])) e
  have nC:∀b v,H b=some v->b∉[z,TO,i1,i2]:=λb v e hb=>by rw[(inC b hb).1]at e;cases e
  refine I.step (g':=s.gens) (t':=s.toks) (d':=s.drawn) (ch:=[z,TO,i1,i2]) (λb hb=>⟨(inC b hb).2.2.2.1,(inC b hb).2.1,(inC b hb).2.2.2.2.1,(inC b hb).2.2.2.2.2⟩) (λb o _ _ hb e _=>hk' b o hb e) (λb o _ _ hb e _=>⟨o.slots,hk' b o hb e⟩)
   (λb o hb e n=>n) (λb o hb e=>⟨o,hk' b o hb e⟩) (λb v e=>e) (λb o v e=>e) (λb ps e=>⟨#[],by rw[e];simp⟩) (λm hm=>?_) (λb v e=>?_) I.bare
  ·obtain⟨o,es,ep,ho,rr⟩:=hm
   exact⟨o,es,ep,hk' _ o (λhb=>(inC _ hb).2.1 rfl) ho,rr⟩
  ·refine(I.hok b v e).stay (λc' v' hc' q=>?_) (λc' q=>q) λc' xs' q=>q
   rcases hc' with rfl|hc'
   ·exact hk' _ _ (nC _ _ e) q
   ·exact hk' _ _ (nC _ _ hc') q
 self:=λ_ _ _ _ _ st h=>wpAny_pyIter_zip st.1 h
section
variable{X:Cx}{ca:Nat->Addr}{e1 e2:Expr}{m1 m2:ME}{p pos tp:Pos}{elts:List Expr}{kk:Nat}
theorem Qnx{ta:TA}(hg:Gl X "zip")(hm:X.mg "zip" = none)(ha:PA X [e1,e2] ta)(hs:starEach [e1,e2] X.env=[(false,eval e1 X.env),(false,eval e2 X.env)])(hs2:starEach [e2] X.env=[(false,eval e2 X.env)]):
  PI X (.Tuple elts kk tp) (.Call (.Name "zip" p) [e1,e2] [] pos) (λσ H R=>ta σ H λvs H1=>∃b1 b2 a1 a2 xs ys,vs=[.ref a1,.ref a2]/\Sq b1 X.K H1 a1 xs/\Sq b2 X.K H1 a2 ys/\R (Itz X.K b1 b2 a1 a2) H1):=by
 intro pins s σ H R I h
 refine Call_ (Qaj I hg hm boot_zip (UR (thn (ha pos pins s σ H _ I h) λus s1 ⟨vs,H1,I1,r1,q1⟩=>?_) (by rw[hs,hs2]) (by rw[hs2];rfl)))
 obtain⟨b1,b2,a1,a2,xs,ys,rfl,q1,q2,q⟩:=q1
 cases r1 with
 |cons ru rr =>
  cases rr with
  |cons rt rr =>
   cases rr
   cases ru
   cases rt
   obtain⟨its1,v1,p1⟩:=q1.real I1
   obtain⟨its2,v2,p2⟩:=q2.real I1
   refine QjR p1 p2 λh' hz hTI hTO hi1 hi2 hsz hk=>wpAny_pyIter_zip hz ?_
   have I2:Inv X pins σ H1 {s1 with heap:=h'}:=I1.kept (t':=s1.toks) hk
   refine⟨s1.heap.objs.size+4,_,_,_,H1,rfl,I2,QjS b1 b2 _ (s1.heap.objs.size+2) (s1.heap.objs.size+3) s1.heap.objs.size (s1.heap.objs.size+1) a1 a2 (PyProof.Rows.zipApart_new p1.lt p2.lt),⟨hz,hTI,⟨_,_,hTO⟩,hi1,hi2⟩,λb hb=>?_,q⟩
   have hb':b=s1.heap.objs.size+4\/b=s1.heap.objs.size+2\/b=s1.heap.objs.size+3\/b=s1.heap.objs.size\/b=s1.heap.objs.size+1:=by simpa using hb
   have hle:s1.heap.objs.size<=b:=by rcases hb' with h|h|h|h|h <;> rw[h] <;> first|exact Uc _|exact Rh _ _
   exact I1.fpOk hle (I1.hok.fresh hle)
theorem Z4{K:Frag}{μ:List Addr}{H:Hp}{g:G}{v:V}{d:D}{b:Bool}{ds:List D}(r:GRep K ca μ H g)(q:Den K μ H v d)(h:Qv g d=some (b,ds)):∃a vs,v=.ref a/\Sq b K H a vs/\Dens K μ H vs ds:=by
 cases q with
 |@tup a vs es ht hs=>cases h;exact⟨a,vs,rfl,ht,hs⟩
 |@fl a vs es ht hs=>cases h;exact⟨a,vs,rfl,ht.sq,hs⟩
 |@ref n a hn =>
  unfold Qv at h
  dsimp only at h
  cases hg:g[n]? with
  |none=>rw[hg]at h;cases h
  |some o =>
   rw[hg]at h
   obtain⟨a',ha',ob⟩:=r.addr hg
   rw[hn]at ha';cases ha'
   cases o with
   |lst es=>cases h;obtain⟨vs,hH,q⟩:=ob;exact⟨a,vs,rfl,SqL.of hH,q⟩
   |_=>cases h
 |_=>cases h
theorem Qbg{K:Frag}{μ:List Addr}{H:Hp}{g g':G}{μ':List Addr}{H':Hp}{d:D}{v:V}{b b':Bool}{ds ds':List D}(h:Qv g d=some (b,ds))(h':Qv g' d=some (b',ds')):b=b':=by
 unfold Qv at h h'
 cases d with
 |tup es=>cases h;cases h';rfl
 |fl es=>cases h;cases h';rfl
 |ref n =>
  dsimp only at h h'
  have k1:b=true:=by
   cases hg:g[n]? with
   |none=>rw[hg]at h;cases h
   |some o=>rw[hg]at h;cases o <;> cases h <;> rfl
  have k2:b'=true:=by
   cases hg:g'[n]? with
   |none=>rw[hg]at h';cases h'
   |some o=>rw[hg]at h';cases o <;> cases h' <;> rfl
  rw[k1,k2]
 |_=>cases h
theorem QlJ{K:Frag}{μ:List Addr}{H:Hp}{g:G}{v1 v2:V}{d1 d2:D}{b1 b2:Bool}{xs ys:List D}{t:Nat}(q1:Den K μ H v1 d1)(q2:Den K μ H v2 d2)(h1:Qv g d1=some (b1,xs))(h2:Qv g d2=some (b2,ys)){a1 a2:Addr}(e1:v1=.ref a1)(e2:v2=.ref a2):
  Sim K ca μ H ⟨λg i=>(match Qv g d1,Qv g d2 with
  |some (_,xs),some (_,ys)=>(match xs[i]?,ys[i]? with
   |some x,some y=>some (some (.tup [x,y]))
   |_,_=>some none)
  |_,_=>none),t⟩ (Itz K b1 b2 a1 a2):=by
 intro i H1 μ1 g1 ex r
 dsimp only
 cases k1:Qv g1 d1 with
 |none=>trivial
 |some p1 =>
  obtain⟨c1,xs1⟩:=p1
  cases k2:Qv g1 d2 with
  |none=>trivial
  |some p2 =>
   obtain⟨c2,ys1⟩:=p2
   have f1:=Qbg (K:=K) (μ:=μ) (H:=H) (μ':=μ) (H':=H) (v:=v1) h1 k1
   have f2:=Qbg (K:=K) (μ:=μ) (H:=H) (μ':=μ) (H':=H) (v:=v1) h2 k2
   subst f1 f2
   obtain⟨z1,vs,w1,s1,d1s⟩:=Z4 r (q1.mono ex) k1
   obtain⟨z2,ws,w2,s2,d2s⟩:=Z4 r (q2.mono ex) k2
   rw[e1]at w1;cases w1
   rw[e2]at w2;cases w2
   dsimp only
   cases hx:xs1[i]? with
   |none =>
    refine⟨vs,ws,s1,s2,.inl ?_⟩
    rw[d1s.length];exact UW.mp hx
   |some x =>
    cases hy:ys1[i]? with
    |none =>
     refine⟨vs,ws,s1,s2,.inr ?_⟩
     rw[d2s.length];exact UW.mp hy
    |some y =>
     obtain⟨vx,hvx,qx⟩:=d1s.get hx
     obtain⟨vy,hvy,qy⟩:=d2s.get hy
     refine⟨⟨vs,ws,vx,vy,s1,s2,hvx,hvy⟩,λv H' yl=>?_⟩
     obtain⟨pp,x',y',hp,rfl,rfl,u1,u2⟩:=yl
     have:=u1 vs s1
     rw[hvx]at this;cases this
     have:=u2 ws s2
     rw[hvy]at this;cases this
     exact⟨QI hp,r.new hp,.tup (.of Ql) (.cons (qx.mono (QI hp)) (.cons (qy.mono (QI hp)) .nil))⟩
theorem Qny(hm:X.mg "zip" = none)(h1:PE3 ca X e1 m1)(h2:PE3 ca X e2 m2)(hg:Gl X "zip":=by rfl)(hs:starEach [e1,e2] X.env=[(false,eval e1 X.env),(false,eval e2 X.env)]:=by rfl)(hs2:starEach [e2] X.env=[(false,eval e2 X.env)]:=by rfl)(hs3:starEach [e1,e2] X.env=(false,eval e1 X.env)::starEach [e2] X.env:=by rfl):PI3 ca X (.Tuple elts kk tp) (.Call (.Name "zip" p) [e1,e2] [] pos) (Qbx m1 m2) :=
 λpn Φ=>QdA (Qnx (X:=xat X ca pn Φ) hg hm (Yk h1 (Yk h2 Qj hs2) hs3 pn Φ) hs hs2) λσ H R hQ=>by
  obtain⟨σ3,g,μ,Rp,q⟩:=hQ
  refine⟨σ3,g,μ,Rp,?_⟩
  unfold Qbx at q
  unfold Qb mNil
  cases hm1:m1 σ3 g with
  |raise _ _=>rw[hm1]at q;exact q
  |stuck=>rw[hm1]at q;exact q.elim
  |ok d1 g1 =>
   rw[hm1,Res.bind_ok]at q
   rw[Res.bind_ok]
   cases hm2:m2 σ3 g1 with
   |raise _ _=>rw[hm2]at q;exact q
   |stuck=>rw[hm2]at q;exact q.elim
   |ok d2 g2 =>
    rw[hm2,Res.bind_ok]at q
    rw[Res.bind_ok,Res.bind_ok,Res.bind_ok]
    intro vs H1 μ1 ex r1 q1
    cases q1 with
    |@cons v1 _ _ _ n1 q1 =>
     cases q1 with
     |@cons v2 _ _ _ n2 q1 =>
      cases q1
      unfold Qdb at q
      cases k1:Qv g2 d1 with
      |none=>rw[k1]at q;exact q.elim
      |some p1 =>
       obtain⟨b1,xs⟩:=p1
       cases k2:Qv g2 d2 with
       |none=>rw[k1,k2]at q;exact q.elim
       |some p2 =>
        obtain⟨b2,ys⟩:=p2
        rw[k1,k2]at q
        obtain⟨a1,us,rfl,s1,_⟩:=Z4 r1 n1 k1
        obtain⟨a2,ts,rfl,s2,_⟩:=Z4 r1 n2 k2
        exact⟨b1,b2,a1,a2,us,ts,rfl,s1,s2,q _ H1 μ1 ex r1 (QlJ n1 n2 k1 k2 rfl rfl)⟩
end
theorem Y4(K:Frag)(t c:Ty):kitOne K (.type t.name) (.type c.name)=some (tyLe t c):=by
 cases t <;> cases c <;> kernel_rfl
section
variable{X:Cx}{ca:Nat->Addr}{a b c e:Expr}{ma mb mc me:ME}{pos p p2:Pos}{k:Nat}
theorem Qin(c:Ty):CallR X (.builtin "isinstance") (λxs H Q=>∃x g μ d t,xs=[x,.ty c.name]/\GRep X.K ca μ H g/\Den X.K μ H x d/\tyOf g d=some t/\Q (.bl (tyLe t c)) H):=by
 intro pins s σ H xs us Q I rv h
 obtain⟨x,g,μ,d,t,rfl,r,q,ht,qq⟩:=h
 obtain⟨u,u2,rfl,ru,ru2⟩:=rv.two
 cases ru2
 have fin:∀tk,EP X pins σ Q (.bool (tyLe t c)) {s with toks:=tk}:=λtk=>⟨.bl _,H,I.tok tk,rfl,qq⟩
 cases q with
 |non=>cases ht;exact Jb I ru .non (Y4 X.K .non c) fin
 |bl y=>cases ht;exact Jb I ru (.bl y) (Y4 X.K .bool c) fin
 |int y=>cases ht;exact Jb I ru (.int y) (Y4 X.K .int c) fin
 |str y=>cases ht;exact Jb I ru (.str y) (Y4 X.K .str c) fin
 |@tup a vs ds hq hs =>
  cases ht
  cases ru
  obtain⟨its,_,⟨o,h1,h2,_⟩,_⟩:=I.tuple hq
  exact U2 WE I.kIn ⟨o,h1,h2⟩ (Y4 X.K .tuple c) (λz=>nomatch z) fin
 |@fl a vs ds hq hs =>
  cases ht
  cases ru
  obtain⟨its,_,p,_⟩:=I.list hq.sq
  obtain⟨o,h1,h2,_⟩:=p.isList
  exact U2 Ro I.kIn ⟨o,h1,h2⟩ (Y4 X.K .list c) (λz=>nomatch z) fin
 |@ref n a hn =>
  unfold tyOf at ht
  dsimp only at ht
  cases hg:g[n]? with
  |none=>rw[hg]at ht;cases ht
  |some o =>
   rw[hg]at ht
   obtain⟨a',ha',ob⟩:=r.addr hg
   rw[hn]at ha';cases ha'
   cases o with
   |lst ds=>cases ht;obtain⟨vs,hH,_⟩:=ob;exact Jb I ru (.lst hH) (Y4 X.K .list c) fin
   |dct ks=>cases ht;obtain⟨kv,hH,_⟩:=ob;exact Jb I ru (.dK hH) (Y4 X.K .dict c) fin
   |ins _ _=>cases ht
   |exc _=>cases ht
theorem Yw{x:Str}(c:Ty)(hi:X.mg "isinstance" = none)(hm:X.mg x=none)(hv:bootBuiltins x=some (.type c.name))(he:PE3 ca X e me)(hgi:Gl X "isinstance":=by rfl)(hg:Gl X x:=by rfl)(hnm:x ≠ "__name__":=by decide)(hdb:(x == ("__debug__" : Str))=false:=by decide)(hs:starEach [e,.Name x p2] X.env=(false,eval e X.env)::starEach [.Name x p2] X.env:=by rfl)(hs2:starEach [.Name x p2] X.env=(false,eval (.Name x p2) X.env)::starEach [] X.env:=by rfl)(hpl:(backTo pos (starEach [.Name x p2] X.env)).any (·.1)=false:=by rfl):
  PE3 ca X (.Call (.Name "isinstance" p) [e,.Name x p2] [] pos) (mOp1 (ZV c) me) :=
 λpn Φ=>Q3 (QbR (X:=xat X ca pn Φ) (Qin (ca:=ca) c) hgi hi boot_isinstance (Qas (X:=xat X ca pn Φ) (he pn Φ) (Qas (X:=xat X ca pn Φ) (Qfk (X:=xat X ca pn Φ) (v:=.ty c.name) hg hm hv rfl hnm hdb) Qf4 hs2) hs) (by decide) (by decide) hs hpl) λσ H Q ⟨σ3,g,μ,R,q⟩ =>
  QZ (Jn R q) λy H1 hQ=>by
   obtain⟨d,g1,μ1,e1,R1,q1,p1⟩:=hQ
   unfold ZV at p1
   cases ht:tyOf g1 d with
   |none=>rw[ht]at p1;exact p1.elim
   |some t=>rw[ht]at p1;exact⟨y,g1,μ1,d,t,rfl,R1.g,q1,ht,p1 _ H1 μ1 .refl R1.g (.bl _)⟩
theorem Qgl{K:Frag}{μ:List Addr}{H:Hp}:∀{vs:List V}{ds:List D}{us:List Value}{b:Bool},Dens K μ H vs ds->Vals vs us->allB ds=some b->∃bs:List Bool,us=bs.map Value.bool/\bs.all id=b
 |_,_,_,b,.nil,.nil,h=>by cases h;exact⟨[],rfl,rfl⟩
 |_,_,_,b,@Dens.cons _ _ _ _ _ _ ds q qs,.cons r rs,h=>by
  cases q with
  |bl c =>
   unfold allB at h
   cases hd:allB ds with
   |none=>rw[hd]at h;cases h
   |some d =>
    rw[hd]at h
    cases h
    obtain⟨bs,h1,h2⟩:=Qgl qs rs hd
    cases r
    exact⟨c::bs,by rw[h1];rfl,by simp[h2]⟩
  |_=>cases h
theorem Qio(bs:List Bool):((List.range bs.length).all λi=>(bs[i]?).getD true)=bs.all id:=by
 rw[Rm,Tp,Tp]
 constructor
 ·intro h b hb
  obtain⟨i,hi,rfl⟩:=U1 hb
  have:=h i (Tu.mpr hi)
  simpa[hi]using this
 ·intro h i hi
  have hi':=Tu.mp hi
  have:=h bs[i] (UK hi')
  simpa[hi']using this
theorem Qip(hc:X.calm=true):CallR X (.builtin "all") (λxs H Q=>∃p vs ds μ b,xs=[.ref p]/\SqL X.K H p vs/\Dens X.K μ H vs ds/\allB ds=some b/\Q (.bl b) H):=by
 intro pins s σ H xs us Q I rv h
 obtain⟨l,vs,ds,μ,b,rfl,hq,q,hb,qq⟩:=h
 obtain⟨u,rfl,ru⟩:=rv.one
 cases ru
 obtain⟨its,rs,pl,_⟩:=I.list hq
 obtain⟨bs,rfl,e2⟩:=Qgl q rs hb
 have hl:=pl.isList
 have hlt:l<s.heap.objs.size:=by obtain⟨_,e,_⟩:=hl;exact Ui e
 refine call_all_walk (RQ hl ⟨s.heap.objs.size,[s.heap.objs.size,l],[s.heap.objs.size],_,_,_,λi=>(bs[i]?).getD true,rfl,Walks.list (A:=X.A.in1) (show X.A.in1.handled=none from I.ok.hd hc) _ l (UD hlt) _,⟨⟨_,Up _ rfl,rfl,rfl⟩,hl.push _⟩,λi v s' Q' E' hP hQ=>?_,λh' tk hk=>?_⟩)
 ·have hP:(bs.map Value.bool).toArray[i]?=some v:=hP
  rw[Tx,Uy]at hP
  cases hi:bs[i]? with
  |none=>rw[hi]at hP;cases hP
  |some c =>
   rw[hi]at hP
   cases hP
   simp only[hi,Option.getD_some]at hQ
   exact Ti hQ
 ·have kept:∀c o,s.heap.get? c=some o->h'.get? c=some o:=λc o e=>hk c o (λhm=>by rw[Uw.mp hm]at e;exact Te _ (Ui e)) (Ub _ e)
  have ea:((List.range (bs.map Value.bool).toArray.size).all λi=>(bs[i]?).getD true)=b:=by
   rw[Uf,Ur,Qio,e2]
  rw[ea]
  exact⟨.bl b,H,I.kept kept,rfl,qq⟩
theorem QlK(hc:X.calm=true)(hm:X.mg "all" = none)(he:PE3 ca X e me)(hg:Gl X "all":=by rfl)(hs:starEach [e] X.env=[(false,eval e X.env)]:=by rfl)(hpl:(backTo pos (starEach [] X.env)).any (·.1)=false:=by rfl):
  PE3 ca X (.Call (.Name "all" p) [e] [] pos) (mOp1 pAll me) :=
 QjQ (r:=λxs H Q=>∃p vs ds μ b,xs=[V.ref p]/\SqL X.K H p vs/\Dens X.K μ H vs ds/\allB ds=some b/\Q (.bl b) H) (λpn Φ=>Qip (X:=xat X ca pn Φ) hc) hm boot_all (λΦ σ H μ g y d Q r q pp=>by
  unfold pAll at pp
  cases q with
  |@ref n t hn =>
   dsimp only at pp
   cases hgn:g[n]? with
   |none=>rw[hgn]at pp;exact pp.elim
   |some ob =>
    rw[hgn]at pp
    obtain⟨t',ht',orp⟩:=r.addr hgn
    rw[hn]at ht';cases ht'
    cases ob with
    |lst ds =>
     obtain⟨vs,hH,q⟩:=orp
     dsimp only at pp
     cases hb:allB ds with
     |none=>rw[hb]at pp;exact pp.elim
     |some b=>rw[hb]at pp;exact⟨t,vs,ds,μ,b,rfl,.of hH,q,hb,pp _ H μ .refl r (.bl _)⟩
    |_=>exact pp.elim
  |_=>exact pp.elim) he hg (by decide) (by decide) hs hpl
theorem Qgm{K:Frag}{Φ:XS}{r r':R2}{f f':D->D->G->Res D}(h1:Jp K ca r f)(h2:Jp K ca r' f')(σ:L2.St)(H:Hp)(Q:VK)(h:up K ca Φ (JJ f f' ma mb mc) σ H Q):QhP r r' (up K ca Φ ma) (up K ca Φ mb) (up K ca Φ mc) σ H Q:=by
 obtain⟨σ3,g,μ,R,p⟩:=h
 refine QZ (Jn R p) λx H1 ⟨dx,g1,μ1,e1,R1,q1,p1⟩=>?_
 refine QZ (Jn R1 p1) λy H2 ⟨dy,g2,μ2,e2,R2,q2,p2⟩=>?_
 refine h1 Φ σ H2 μ2 g2 x y dx dy _ R2.g (q1.mono e2) q2 ?_
 cases hf:f dx dy g2 with
 |raise _ _=>rw[hf]at p2;exact p2
 |stuck=>rw[hf]at p2;exact p2.elim
 |ok z g3 =>
  rw[hf,Res.bind_ok]at p2
  intro v H3 μ3 e3 r3 q3
  cases q3 with
  |bl t =>
   refine⟨t,rfl,?_⟩
   cases t with
   |true =>
    rw[Ud rfl]
    dsimp only at p2
    refine QZ (Jn (R2.go e3 r3) (p2.go e3)) λw' H4 ⟨dw,g4,μ4,e4,R4,q4,p4⟩=>?_
    exact h2 Φ σ H4 μ4 g4 y w' dy dw Q R4.g ((q2.mono e3).mono e4) q4 p4
   |false =>
    rw[Ue Ug]
    exact p2 _ H3 μ3 e3 r3 (.bl _)
  |_=>exact p2.elim
theorem Qnz(ha:PE3 ca X a ma)(hb:PE3 ca X b mb)(hc:PE3 ca X c mc)(hm:lastMarks [.LtE,.Lt] [b,c]=false:=by with_unfolding_all rfl):PE3 ca X (.Compare a [.LtE,.Lt] [b,c] pos) (JJ pLe pLt ma mb mc) :=
 λpn Φ=>Q3 (QjA (X:=xat X ca pn Φ) Qlj Qli (ha pn Φ) (hb pn Φ) (hc pn Φ) hm) (Qgm (Z3 _) (Z3 _))
theorem QkO{K:Frag}{μ:List Addr}{H:Hp}{v:V}{d:D}(q:Den K μ H v d)(h:QcW d=true):QcU v=true:=by cases q <;> first|rfl|cases h
theorem Qiq{K:Frag}{μ:List Addr}{H:Hp}:∀{vs:List V}{ds:List D},Dens K μ H vs ds->ds.all QcW=true->vs.all QcU=true
 |_,_,.nil,_=>rfl
 |_,_,.cons q qs,h=>by
  rw[Wg,UT]at h ⊢
  exact⟨QkO q h.1,Qiq qs h.2⟩
theorem QoX{K:Frag}{μ:List Addr}{H:Hp}{v w:V}{d e:D}(q:Den K μ H v d)(q':Den K μ H w e)(h:QcW d=true)(h':QcW e=true):eqV v w=eqF d e:=by
 cases q <;> cases q' <;> first|rfl|cases h|cases h'
theorem QnA{K:Frag}{μ:List Addr}{H:Hp}{w:V}{e:D}(q':Den K μ H w e)(h':QcW e=true):∀{vs:List V}{ds:List D},Dens K μ H vs ds->ds.all QcW=true->(vs.any λy=>eqV y w)=ds.any λd=>eqF d e
 |_,_,.nil,_=>rfl
 |_,_,.cons q qs,h=>by
  rw[Wg,UT]at h
  rw[TV,TV,QoX q q' h.1 h',QnA q' h' qs h.2]
theorem QlL{K:Frag}(neg:Bool):Jp K ca (rIn K neg) (pIn neg):=by
 intro Φ σ H μ g x y dx dy Q r qx qy p
 unfold pIn at p
 cases hs:Qv g dy with
 |none=>rw[hs]at p;exact p.elim
 |some pr =>
  obtain⟨bb,ds⟩:=pr
  rw[hs]at p
  dsimp only at p
  by_cases z:QcW dx=true/\ds.all QcW=true
  ·rw[Ud z]at p
   obtain⟨a,vs,rfl,sq,qs⟩:=Z4 r qy hs
   refine⟨a,vs,rfl,?_,QkO qx z.1,Qiq qs z.2,p _ H μ .refl r ?_⟩
   ·cases bb
    ·exact .inr sq
    ·exact .inl sq
   ·unfold inV
    rw[QnA qx z.1 qs z.2]
    cases neg <;> exact .bl _
  ·rw[Ue z]at p;exact p.elim
theorem r_in(ha:PE3 ca X a ma)(hb:PE3 ca X b mb)(hm:behindInMarks .In b=false:=by rfl):PE3 ca X (.Compare a [.In] [b] pos) (mOp2 (pIn false) ma mb):=Qg7 (λ_ _=>QhX) (QlL false) ha hb hm
end
section
variable{prog:Program}{w:World}{A:Around}{E:Value->Shared->Prop}{s:Shared}
theorem Qbh{t sl:Addr}{items:Array Value}{vl vu:Value}{lo hi:Option Int}{Q:Value->Shared->Prop}(ht:IsTup s.heap t items)(hs:s.heap.IsSliceOf sl vl vu .none)(pl:IsPart vl lo)(pu:IsPart vu hi)(h1:HT.sIx items.size 0 lo=0)(h2:HT.sIx items.size items.size hi=items.size)(h:Q (.ref t) s):wpAny (model prog w) A (getItem (.ref t) (.ref sl)) Q E s:=by
 obtain⟨os,hos,hcs,hds⟩:=id hs
 have hTs:s.TypeIs (.ref sl) "slice":=⟨os,hos,hcs⟩
 unfold getItem
 try with_reducible refine TR ?_
 first|refine Ua (Uh ?_)|skip
 refine Ua (wpAny_sequenceKey ht.typeIs (by decide) ?_)
 refine Ua (Tn (name:=Str.ofString "__getitem__") ht.typeIs UY (TU UY ht.typeIs entry_tuple_getitem ?_ (args_tuple_getitem _ _)))
 show wpAny _ _ (Builtin.Tuple.tupleItemsOf (.ref t) >>= _) _ _ s
 refine Ua (tupleItemsOf_ ht (Ua (RY hTs ?_)))
 rw[Ud (by decide)]
 refine Ua (HT.sliceApplied_gen hs pl pu ?_)
 rw[h1,h2]
 show wpAny _ _ (if (((0:Nat):Int) == 0 && (1:Int) == 1 && (items.size-0) == items.size)=true then _ else _) _ _ s
 rw[Ud (by simp)]
 unfold Builtin.Tuple.tupleIsExact
 refine Ua (Ua (RY ht.typeIs (Uh ?_)))
 rw[Ud (by decide)]
 exact Ua (Rc (Uh ⟨_,rfl,Uh h⟩))
end
theorem QjT(n d:Nat)(o:Option Int):HT.sIx n d o=sIxD n d o:=by cases o <;> rfl
theorem Dens.cut{K:Frag}{μ:List Addr}{H:Hp}{vs:List V}{ds:List D}(lo hi:Option Int)(h:Dens K μ H vs ds):Dens K μ H (cutV vs lo hi) (cutD ds lo hi):=by
 unfold cutV cutD
 rw[QjT,QjT,h.length]
 exact(h.drop _).take _
section
variable{X:Cx}{ca:Nat->Addr}{e:Expr}{me:ME}{lo hi:Option Expr}{ml mh:MO}{pos p2:Pos}
theorem Qir:SlR X (λx lo hi H Q=>∃a xs,x=.ref a/\SqT X.K H a xs/\(HT.sIx xs.length 0 lo=0/\HT.sIx xs.length xs.length hi=xs.length)/\Q (.ref a) H):=by
 intro pins s σ H x v vl vu lo hi sl Q I rx hs pl pu h
 obtain⟨a,xs,rfl,hx,hw,q⟩:=h
 cases rx
 obtain⟨its,r,ht,hz⟩:=I.tuple hx
 have hlen:its.toArray.size=xs.length:=by rw[Uf];exact r.length.symm
 refine⟨"tuple",_,UY.lookup,ht.typeIs,?_⟩
 exact Qbh ht hs pl pu (by rw[hlen];exact hw.1) (by rw[hlen];exact hw.2) ⟨.ref a,H,I,rfl,q⟩
noncomputable def upO(K:Frag)(ca:Nat->Addr)(Φ:XS)(m:MO):TO:=λσ H Q=>∃σ3 g μ,Rep K ca μ σ3 g σ H/\match m σ3 g with
 |.ok o g'=>∀H' μ',Ext K μ H μ' H'->GRep K ca μ' H' g'->Q o H'
 |.raise x g'=>RaP K ca Φ σ H μ x g'
 |.stuck=>False
def PO3(ca:Nat->Addr)(X:Cx)(e:Option Expr)(m:MO):Prop:=∀pn Φ,PO (xat X ca pn Φ) e (upO X.K ca Φ m)
theorem QaR:PO3 ca X none Yi:=λpn Φ pins s σ H Q I ⟨_,_,μ,R,p⟩=>Qls (X:=xat X ca pn Φ) pins s σ H Q I (p H μ .refl R.g)
theorem QeI(he:PE3 ca X e me):PO3 ca X (some e) (QaK me):=λpn Φ pins s σ H Q I hQ=>by
 obtain⟨σ3,g,μ,R,p⟩:=hQ
 refine Qlt (X:=xat X ca pn Φ) (he pn Φ) pins s σ H Q I ⟨σ3,g,μ,R,?_⟩
 unfold QaK at p
 cases hm:me σ3 g with
 |raise _ _=>rw[hm]at p;exact p
 |stuck=>rw[hm]at p;exact p
 |ok d g1 =>
  rw[hm,Res.bind_ok]at p
  intro v H1 μ1 e1 r1 q1
  cases q1 with
  |int i=>exact⟨i,rfl,p H1 μ1 e1 r1⟩
  |_=>exact p.elim
theorem QlM{α:Type}(xs:List α)(lo hi:Option Int)(h1:sIxD xs.length 0 lo=0)(h2:sIxD xs.length xs.length hi=xs.length):cutD xs lo hi=xs:=by
 unfold cutD
 rw[h1,h2];simp
theorem Qci(he:PE3 ca X e me)(hl:PO3 ca X lo ml)(hh:PO3 ca X hi mh):PE3 ca X (.Subscript e (.Slice lo hi none p2) pos) (Jd me ml mh):=λpn Φ =>
 Q3 (QjG (X:=xat X ca pn Φ) ((sl_tup.or Qir).or Qlv) (he pn Φ) (hl pn Φ) (hh pn Φ)) λσ H Q ⟨σ3,g,μ,R,p⟩=>QZ (Jn R p) λx H1 hQ=>by
  obtain⟨d,g1,μ1,e1,R1,q1,p1⟩:=hQ
  refine⟨σ3,g1,μ1,R1,?_⟩
  cases hm:ml σ3 g1 with
  |raise _ _=>rw[hm]at p1;exact p1
  |stuck=>rw[hm]at p1;exact p1
  |ok l g2 =>
   rw[hm,Res.bind_ok]at p1
   intro H2 μ2 e2 r2
   refine⟨σ3,g2,μ2,R1.go e2 r2,?_⟩
   cases hm2:mh σ3 g2 with
   |raise _ _=>rw[hm2]at p1;exact RaP.go e2 p1
   |stuck=>rw[hm2]at p1;exact p1
   |ok u g3 =>
    rw[hm2,Res.bind_ok]at p1
    intro H3 μ3 e3 r3
    have p3:=Post.go (e2.trans e3) p1
    have q3:=(q1.mono e2).mono e3
    unfold QaJ at p3
    cases q3 with
    |@tup a vs ds ht hs =>
     by_cases hw:HT.sIx vs.length 0 l=0/\HT.sIx vs.length vs.length u=vs.length
     ·refine .inl (.inr ⟨a,vs,rfl,ht,hw,p3 _ H3 μ3 .refl r3 ?_⟩)
      rw[QlM ds l u (by rw[<-QjT,<-hs.length];exact hw.1) (by rw[<-QjT,<-hs.length];exact hw.2)]
      exact .tup ht hs
     ·exact .inl (.inl ⟨a,vs,rfl,ht,hw,λt ht'=>p3 _ _ μ3 (QI ht') (r3.new ht') (.tup (.of Ql) ((hs.cut l u).mono (QI ht')))⟩)
    |@fl a vs ds ht hs =>
     refine .inr ⟨a,vs,rfl,ht.sq,λt ht'=>p3 _ _ (μ3++[t]) (Qq ht') (r3.push ht' ⟨_,Ql,(hs.cut l u).mono (Qq ht')⟩) (.ref ?_)⟩
     rw[<-r3.len];simp
    |@ref n a hn =>
     dsimp only at p3
     cases hg:g3[n]? with
     |none=>rw[hg]at p3;exact p3.elim
     |some o =>
      rw[hg]at p3
      obtain⟨a',ha',ob⟩:=r3.addr hg
      rw[hn]at ha';cases ha'
      cases o with
      |lst ds =>
       obtain⟨vs,hH,hs⟩:=ob
       refine .inr ⟨a,vs,rfl,.of hH,λt ht'=>p3 _ _ (μ3++[t]) (Qq ht') (r3.push ht' ⟨_,Ql,(hs.cut l u).mono (Qq ht')⟩) (.ref ?_)⟩
       rw[<-r3.len];simp
      |_=>exact p3.elim
    |_=>exact p3.elim
end
abbrev bmV:List Value:=[.type "ValueError",.type "Exception",.type "BaseException",.type "object"]
section
variable{prog:Program}{w:World}{A:Around}{E:Value->Shared->Prop}{s:Shared}{K:Frag}{C e:Addr}{oe:Obj}{vs:Array Value}
end
section
variable{X:Cx}{ca:Nat->Addr}{e:Expr}{me:ME}{pos p p2:Pos}{all cs:List Nat}
end
section
variable{K:Frag}{C:Addr}{x:Str}{mg:Str->Option Value}{h:Heap}
theorem QlN(X:K.In h)(e:mg x=some (.ref C))(q:excIn K C bmV "ValueError.__new__" = true):OwnCls x C bmV "ValueError.__new__" mg h:=by
 refine⟨e,?_⟩
 unfold excIn at q
 split at q
 ·rename_i dd cd sl ho
  split at q
  ·rename_i C' bm k0 k1 k2 k3 n k5 hm hs
   simp only[UT,TQ,Bool.not_eq_true']at q
   obtain⟨⟨⟨⟨⟨rfl,rfl⟩,hdel⟩,ht⟩,hok⟩,hni⟩:=q
   obtain⟨nm,bs,mro,ns,qn,hd,sn,sub,ab,col,del⟩:=cd
   dsimp only at hm hdel hok hni
   subst hm hdel
   have hsl:sl = #[k0,k1,k2,k3,some (.builtin "ValueError.__new__"),k5]:=by
    obtain⟨l⟩:=sl
    simp only at hs
    rw[hs]
   subst hsl
   exact⟨bm,ns,nm,qn,bs,hd,sn,sub,ab,col,dd,k0,k1,k2,k3,k5,_,X _ _ ho,.of_isNs (isNs_of_in X hok),nsMap_none_of_in X hok hni,tail_of_in X ht⟩
  ·cases q
 ·cases q
end
theorem Inv.there'{X:Cx}{pins:List (Addr×Obj)}{σ:L2.St}{H:Hp}{s:Shared}{a:Addr}{o:HO}(I:Inv X pins σ H s)(h:H a=some o):∃u,s.heap.get? a=some u:=by
 have:=I.hok a o h
 cases o with
 |lst xs=>obtain⟨_,_,_,_,e⟩:=this;exact⟨_,e⟩
 |tup xs=>obtain⟨_,_,_,u,e,_⟩:=this;exact⟨u,e⟩
 |dK kvs=>obtain⟨_,_,_,_,u,_,_,e,_⟩:=this;exact⟨u,e⟩
 |dT kvs=>obtain⟨_,_,_,_,u,_,_,e,_⟩:=this;exact⟨u,e⟩
 |set S n=>obtain⟨u,_,_,_,e,_⟩:=this;exact⟨u,e⟩
 |ins C dx fs=>obtain⟨_,_,_,e,_⟩:=this;exact⟨_,e⟩
 |own y=>exact this
 |xd fs=>obtain⟨_,⟨_,_,_,e,_⟩,_⟩:=this;exact⟨_,e⟩
 |met f x=>exact⟨_,this⟩
 |rng lo hi=>obtain⟨_,_,_,e⟩:=this;exact⟨_,e⟩
 |frz u v=>exact⟨_,this.1⟩
 |tbl ps=>exact⟨_,this⟩
 |ext φ=>exact this.2.1
structure RaH(K:Frag)(mg:Str->Option Value)(ca:Nat->Addr)(c:Nat)(x:Str):Prop where
 at':mg x=some (.ref (ca c))
 ex:excIn K (ca c) bmV "ValueError.__new__" = true
section
variable{X:Cx}{ca:Nat->Addr}{e:Expr}{es:List Expr}{mr:MA}{np cpos pos:Pos}{c:Nat}{x:Str}
theorem QlO(h:RaH X.K X.mg ca c x)(hh:X.A.handled=none)(ha:PA3 ca X (e::es) mr)(hg:Gl X x:=by rfl)(hdb:(x == ("__debug__" : Str))=false:=by decide)(he:starEach (e::es) X.env=(false,eval e X.env)::starEach es X.env:=by rfl)(hpl:(backTo cpos (starEach es X.env)).any (·.1)=false:=by rfl):PS3 ca X (.Raise (some (.Call (.Name x np) (e::es) [] cpos)) none pos) (Qf7 c mr):=by
 intro pn Φ pins s σ H En I ⟨σ3,g,μ,R,p⟩
 obtain⟨bm,N,nm,q,bs,hdct,sn,sub,ab,col,dd,k0,k1,k2,k3,k5,mN,hC,hN,hni,T⟩:=(QlN (h:=X.base) I.ok.mod.kin h.at' h.ex).obj
 refine wpAny_Raise_call_subT (C:=ca c) (nm:=nm) (q:=q) (N:=N) (bs:=bs) (bm:=bm) (hdct:=hdct) (sn:=sn) (sub:=sub) (ab:=ab) (col:=col) (dd:=dd) (k0:=k0) (k1:=k1) (k2:=k2) (k3:=k3) (k5:=k5)
  WA (mN:=mN) (T.hasType WA.hasBase) hh ?_ hni (Qbe I hg h.at' ⟨rfl,?_⟩ hdb)
 ·show(backTo cpos (starEach (e::es) X.env)).any (·.1)=false
  rw[he]
  show(false || (backTo cpos (starEach es X.env)).any (·.1))=false
  rw[hpl];rfl
 ·have z:upA X.K ca Φ mr σ H λvs H1=>vs.length<=sizeLine/\Φ (c,none) σ H1:=by
   refine⟨σ3,g,μ,R,?_⟩
   unfold Qf7 at p
   cases hm:mr σ3 g with
   |raise _ _=>rw[hm]at p;exact RaP.stmt R p
   |stuck=>rw[hm]at p;exact p
   |ok ds g1 =>
    rw[hm]at p
    dsimp only at p
    intro vs H1 μ1 e1 r1 q1
    by_cases hz:ds.length<=SZ
    ·rw[Ud hz]at p
     exact⟨q1.sz hz,p σ H1 μ1 e1 (R.go e1 r1)⟩
    ·rw[Ue hz]at p;exact p.elim
  have az:=ha pn Φ cpos pins s σ H _ I z
  have he':starEach (e::es) (xat X ca pn Φ).env=(false,eval e X.env)::starEach es X.env:=he
  show wpAny _ _ (evalArgs (.ref (ca c)) true (backTo cpos (starEach (e::es) X.env)) []) _ _ s
  rw[he']at az
  rw[he]
  refine Calls.evalArgs_plain (U8 az (λus s2 ⟨vs,H1,I1,r1,hz,hΦ⟩=>⟨rfl,by rw[<-r1.length];exact hz,I1.bk _ _ hC,hN.keeps I1.bk,T.keeps I1.bk,λh' ea hm=>?_⟩) λ_ _ y=>y)
  have I2:Inv (xon X pn) [] σ H1 s2:=(QkK I1).pins_of λp hp=>absurd hp (by simp)
  have I3:Inv (xon X pn) [] σ H1 {s2 with heap:=h'}:=I2.kept (t':=s2.toks) hm.keeps
  have hn:H1 ea=none:=by
   cases hq:H1 ea with
   |none=>rfl
   |some o =>
    obtain⟨o',ho'⟩:=Inv.there' I2 hq
    rw[hm.new]at ho';cases ho'
  obtain⟨t,ht,_⟩:=hm.there
  exact⟨ea,(c,none),σ,H1,rfl,I3,⟨Qgc I2 hm.new hn,rfl,_,_,ht,⟨rfl,rfl⟩,rfl,by simp,.inl rfl⟩,hΦ⟩
end
structure CatX(K:Frag)(ca:Nat->Addr)(C:Addr)(cs no:List Nat):Prop where
 ci:(clsIn K C).isSome=true
 ty:typeIn K (.ref C)=some (.type "type")
 sb:subIn K (.ref C) (.type "BaseException")=some true
 yes:∀c∈cs,subIn K (.ref (ca c)) (.ref C)=some true
 no':∀c∈no,subIn K (.ref (ca c)) (.ref C)=some false
section
variable{prog:Program}{w:World}{A:Around}{E:Value->Shared->Prop}{s:Shared}{K:Frag}{ca:Nat->Addr}{C D e:Addr}{oe:Obj}{cs no:List Nat}{b:Bool}
theorem Qis{Q:Bool->Shared->Prop}(X:K.In s.heap)(F:CatX K ca C cs no)(hx:s.heap.get? e=some oe)(hc:oe.cls=.ref D)(hs:subIn K (.ref D) (.ref C)=some b)(h:Q b s):wpAny (model prog w) A (excMatches (.ref e) (.ref C)) Q E s:=by
 obtain⟨hh,g,d,t,os⟩:=s
 have L0:=looks_typeIn (M:=model prog w) X F.ty
 have L1:=looks_subIn (M:=model prog w) X F.sb
 have L2:=looks_subIn (M:=model prog w) X hs
 have L3:Looks (model prog w) hh (isType (.ref C)) true:=by
  obtain⟨cd,hc⟩:=WW.mp F.ci
  unfold clsIn at hc
  split at hc
  ·rename_i c' d' cd' sl' ho
   intro A' Q' E' s' k q
   unfold isType loadHead
   exact Ua (wpAny_loadPart (k _ _ (X _ _ ho)) (Uh q))
  ·cases hc
 have f:=tc_notTuple
 unfold excMatches isInstance
 refine Ua (Ua (L0.at (wpAny_of_eq f ?_)))
 simp only[Rl,WR]
 refine Ua (Uh ?_)
 simp only[Wo,WK]
 unfold isExcClass
 refine Ua (Ua (Ua (Ua (L3.at ?_))))
 rw[Ud rfl]
 refine L1.at ?_
 simp only[Bool.not_true,Rl,WR]
 refine Uh (Uh ?_)
 have L4:Looks (model prog w) hh (typeOf (.ref e)) (.ref D):=hc ▸ (Looks.ld hx).andThen .now
 refine Ua (L4.at (Ua (Ua (Ua (L2.at ?_)))))
 cases b with
 |true=>rw[Ud rfl];exact Uh (Uh (Uh h))
 |false=>rw[Ue Ug];exact Uh (Uh (Uh h))
end
noncomputable abbrev xmk(X:Cx)(v:Value):Cx:={X with A:=X.A.mark (some v),calm:=false}
section
variable{X:Cx}{ca:Nat->Addr}{pins:List (Addr×Obj)}{σ:L2.St}{H:Hp}{s:Shared}{a:Addr}{x:Xc}
theorem QkP(v:Value)(I:Inv X pins σ H s):Inv (xmk X v) pins σ H s :=
 ⟨⟨I.ok.mod,I.ok.kind,I.ok.glob,I.ok.blt,I.ok.above,I.ok.inj,I.ok.has,I.ok.cab,(λz=>by cases z),I.ok.frames,I.ok.stk,I.ok.exf,I.ok.bs,I.ok.bsz,I.ok.noex,I.ok.exfs,I.ok.funs,I.ok.frf⟩,I.os,I.bare,I.base,I.loc,I.cell,I.free,I.freeC,I.pin,I.hok,I.len⟩
theorem Qgn{v:Value}(h:X.calm=true->X.A.handled=none)(I:Inv (xmk X v) pins σ H s):Inv X pins σ H s :=
 ⟨⟨I.ok.mod,I.ok.kind,I.ok.glob,I.ok.blt,I.ok.above,I.ok.inj,I.ok.has,I.ok.cab,h,I.ok.frames,I.ok.stk,I.ok.exf,I.ok.bs,I.ok.bsz,I.ok.noex,I.ok.exfs,I.ok.funs,I.ok.frf⟩,I.os,I.bare,I.base,I.loc,I.cell,I.free,I.freeC,I.pin,I.hok,I.len⟩
end
section
variable{X:Cx}{ca:Nat->Addr}{body suite:List Stmt}{b0:Stmt}{mb mc:MS}{np hpos pos:Pos}{C:Addr}{cs no:List Nat}{T n:Str}
theorem QnB{Y:Cx}{pn pins:List (Addr×Obj)}{E E':Value->Shared->Prop}{σ:L2.St}{H:Hp}{s:Shared}(I:Inv {Y with pn:=pn,xe:=E} pins σ H s):Inv {Y with pn:=pn++pins,xe:=E'} [] σ H s :=
 ⟨⟨I.ok.mod,I.ok.kind,I.ok.glob,I.ok.blt,I.ok.above,I.ok.inj,I.ok.has,I.ok.cab,I.ok.hd,I.ok.frames,I.ok.stk,I.ok.exf,I.ok.bs,I.ok.bsz,I.ok.noex,I.ok.exfs,I.ok.funs,I.ok.frf⟩,I.os,I.bare,I.base,I.loc,I.cell,I.free,I.freeC,λp hp=>I.pin p (by rw[UM]at hp;exact hp),I.hok,I.len⟩
theorem Qcj{Y:Cx}{pn pins:List (Addr×Obj)}{E E':Value->Shared->Prop}{σ:L2.St}{H:Hp}{s:Shared}(I:Inv {Y with pn:=pn++pins,xe:=E} [] σ H s):Inv {Y with pn:=pn,xe:=E'} pins σ H s :=
 ⟨⟨I.ok.mod,I.ok.kind,I.ok.glob,I.ok.blt,I.ok.above,I.ok.inj,I.ok.has,I.ok.cab,I.ok.hd,I.ok.frames,I.ok.stk,I.ok.exf,I.ok.bs,I.ok.bsz,I.ok.noex,I.ok.exfs,I.ok.funs,I.ok.frf⟩,I.os,I.bare,I.base,I.loc,I.cell,I.free,I.freeC,λp hp=>I.pin p (by rw[UM];exact hp),I.hok,I.len⟩
theorem Qit{pn:List (Addr×Obj)}{σ:L2.St}{H:Hp}{s:Shared}{a:Addr}{x:Xc}{oe:Obj}{R:Result->Shared->Prop}{b:Bool}(I:Inv (xon X pn) [] σ H s)(hT:X.mg T=some (.ref C))(F:CatX X.K ca C cs no)(he:s.heap.get? a=some oe)(ho:XOb ca x oe)(hs:subIn X.K (.ref (ca x.1)) (.ref C)=some b)(hg:Gl X T)(hdb:(T == ("__debug__" : Str))=false)(h:R (.ok (if b then .brk else .next)) s):
  codeAny (model X.prog X.w) (X.A.mark (some (.ref a))) (.handlers (.ref a) [.ExceptHandler (some (.Name T np)) none [] hpos] X.env) R s :=
 codeAny_handlers_test (Qbe (X:=xmk (xon X pn) (.ref a)) (QkP _ I) hg hT (Qis I.kIn F he ho.1 hs h) hdb)
theorem QlP{pn pins:List (Addr×Obj)}{Φ:XS}{σ:L2.St}{H:Hp}{s:Shared}{a:Addr}{x:Xc}{Q:Flow->Shared->Prop}(hf:X.env.frame=some X.env.locals)(I:Inv (xon X (pn++pins)) [] σ H s)(fl:FlT (xon X (pn++pins)) ca a x H s.heap)(h:Φ x σ H):
  wpAny (model X.prog X.w) X.A (handleBy (.ref a) X.env []) Q (xat X ca pn Φ).xe s:=by
 refine wpAny_handleBy_nil ?_
 unfold PySem.passOn
 obtain⟨fp,ln,oe,vs,T,oT,ts,he,hc,hd,hv,hTa,fT,hT,hdT,hs3⟩:=id fl
 refine Ua (UV he hd hv ?_)
 rw[Ue (show ¬((Value.ref T == Value.none)=true) from by simp)]
 refine Ua (JM (fo:=X.env.frame) I fl λh2 T oT ts oe vs I2 a1 a2 a3 a4 a5 a6 a7 a8 a9 a10=>wpAny_throw ?_)
 rw[hf]at a10
 have dn:∀{b:Addr},FpW (xon X (pn++pins)) [] H b->FpW (xon X pn) [] H b:=λz=>⟨z.1,z.2.1,z.2.2.1,z.2.2.2.1,z.2.2.2.2.1,λp hp=>z.2.2.2.2.2 p (by rw[UM]at hp ⊢;exact TF _ hp)⟩
 exact⟨a,x,σ,H,rfl,(Qcj (Y:=X) I2).pins_of λp hp=>absurd hp (by simp),FlN.fl ⟨dn fp,ln,oe,vs,T,oT,ts,a1,a2,a3,a4,a5,dn a6,a7,a8,a10⟩,h⟩
theorem QjU{hs:List MH}{h0:ExceptHandler}{hr:List ExceptHandler}(hb:PSs3 ca X body mb)(hk:X.stack=X.env::X.outer)(hf:X.env.frame=some X.env.locals)(hh:∀(pn pins:List (Addr×Obj)) (Φ:XS) (En:Ends) (σ:L2.St) (H:Hp) (s:Shared) (a:Addr) (x:Xc) (σ3:S3) (g:G) (μ:List Addr),(X.calm=true->X.A.handled=none)->Inv (xon X (pn++pins)) [] σ H s->FlT (xon X (pn++pins)) ca a x H s.heap->Rep X.K ca μ σ3 g σ H->PostS X.K ca Φ En H μ (runH hs x σ3 g) ->
   wpAny (model X.prog X.w) X.A (handleBy (.ref a) X.env (h0::hr)) (SP (xat X ca pn Φ) pins En) (xat X ca pn Φ).xe s):PS3 ca X (.Try body (h0::hr) [] [] pos) (mTry mb hs):=by
 intro pn Φ pins s σ H En I ⟨σ3,g,μ,R,p⟩
 refine wpAny_Try_except ?_
 have p1:PostS X.K ca (λx σ' H'=>∃σ4 g4 μ4,Rep X.K ca μ4 σ4 g4 σ' H'/\PostS X.K ca Φ En H' μ4 (runH hs x σ4 g4)) En H μ (mb σ3 g):=by
  unfold mTry at p
  cases hm:mb σ3 g with
  |nx _ _=>rw[hm]at p;exact p
  |rt _ _=>rw[hm]at p;exact p
  |bk _ _=>rw[hm]at p;exact p
  |ct _ _=>rw[hm]at p;exact p
  |raise x σ' g'=>rw[hm]at p;exact λσ4 H' μ' e R'=>⟨σ',g',μ',R',PostS.go e p⟩
  |stuck=>rw[hm]at p;exact p
 refine U8 (hb (pn++pins) _ [] s σ H En (QnB (Y:=X) I) ⟨σ3,g,μ,R,p1⟩) (λf s1 h1=>?_) λv s1 h1=>?_
 ·cases f with
  |next=>obtain⟨σ',H',J,q⟩:=h1;exact QhJ (X:=xat X ca pn Φ) pins s1 σ' H' En (Qcj (Y:=X) J) q
  |brk=>obtain⟨σ',H',J,q⟩:=h1;exact⟨σ',H',Qcj (Y:=X) J,q⟩
  |cont=>obtain⟨σ',H',J,q⟩:=h1;exact⟨σ',H',Qcj (Y:=X) J,q⟩
  |ret u=>obtain⟨v,σ',H',J,r,q⟩:=h1;exact⟨v,σ',H',Qcj (Y:=X) J,r,q⟩
 ·obtain⟨a,x,σ',H',rfl,I1,fl,σ4,g4,μ4,R4,p4⟩:=h1
  refine Qfo (X:=xon X (pn++pins)) I1 hk hf fl λh2 I2 f2=>?_
  refine JM (X:=xon X (pn++pins)) (fo:=none) I2 f2.t λh3 T oT ts oe vs I3 a1 a2 a3 a4 a5 a6 a7 a8 a9 a10=>?_
  exact hh pn pins Φ En σ' H' _ a x σ4 g4 μ4 I.ok.hd I3 ⟨f2.1,f2.2.1,oe,vs,T,oT,ts,a1,a2,a3,a4,a5,a6,a7,a8,a9⟩ R4 p4
theorem QnC(hT:X.mg T=some (.ref C)/\CatX X.K ca C cs no)(hb:PSs3 ca X body mb)(hc:∀a,PSs3 ca (xmk X (.ref a)) (b0::suite) mc)(hg:Gl X T:=by rfl)(hdb:(T == ("__debug__" : Str))=false:=by decide)(hk:X.stack=X.env::X.outer:=by rfl)(hf:X.env.frame=some X.env.locals:=by rfl):
  PS3 ca X (.Try body [.ExceptHandler (some (.Name T np)) none (b0::suite) hpos] [] [] pos) (mTry mb [⟨cs,no,none,mc⟩]):=by
 refine QjU hb hk hf λpn pins Φ En σ H s a x σ3 g μ hcalm I fl R p=>?_
 obtain⟨fp,ln,oe,vs,Tb,oT,ts,he,hox,hd,hv,hTa,fT,hTT,hdT,hs3⟩:=id fl
 unfold runH at p
 by_cases hx:x.1∈cs
 ·rw[Ud hx]at p
  dsimp only at p
  refine wpAny_handleBy_cons (Qit I hT.1 hT.2 he hox (hT.2.yes _ hx) hg hdb ?_) (by intro q;cases q)
  refine codeAny_handlers_suite ?_
  refine JM (fo:=none) I fl λh2 T2 oT2 ts2 oe2 vs2 I2 b1 b2 b3 b4 b5 b6 b7 b8 b9 b10=>?_
  have hcc:=hc a (pn++pins) F0 [] {s with heap:=h2} σ H {nx:=En.nx,rt:=En.rt} (Inv.wish (QkP (.ref a) I2) _) ⟨_,_,_,R,by
   cases hm:mc σ3 g with
   |nx σ5 g5=>rw[hm]at p;exact p
   |rt d g5=>rw[hm]at p;exact p
   |bk _ _=>rw[hm]at p;exact p.elim
   |ct _ _=>rw[hm]at p;exact p.elim
   |raise _ _ _=>rw[hm]at p;exact p.elim
   |stuck=>rw[hm]at p;exact p.elim⟩
  refine U8 (noX hcc) (λf s5 h5=>?_) λ_ _ z=>z.elim
  cases f with
  |next =>
   obtain⟨σ',H',J,q⟩:=h5
   exact⟨σ',H',Qcj (Y:=X) (Qgn (X:=xon X (pn++pins)) (v:=.ref a) hcalm (Inv.wish J _)),q⟩
  |ret u =>
   obtain⟨v,σ',H',J,r,q⟩:=h5
   exact⟨v,σ',H',Qcj (Y:=X) (Qgn (X:=xon X (pn++pins)) (v:=.ref a) hcalm (Inv.wish J _)),r,q⟩
  |brk=>obtain⟨_,_,_,q⟩:=h5;exact q.elim
  |cont=>obtain⟨_,_,_,q⟩:=h5;exact q.elim
 ·rw[Ue hx]at p
  by_cases hn:x.1∈no
  ·rw[Ud hn]at p
   refine wpAny_handleBy_cons (Qit I hT.1 hT.2 he hox (hT.2.no' _ hn) hg hdb ?_) (by intro q;cases q)
   exact QlP hf I fl (p σ H μ .refl R)
  ·rw[Ue hn]at p;exact p.elim
end
noncomputable def bchk(sc scope:Scope)(N Nb:List Str)(no:Nat)(cap:List Nat):Bool :=
 decide (scope.kind=.function) && scope.names.all (λy=>decide (y.2≠.cell)) && scope.names.all (λy=>decide (y.2≠.local) || decide (scope.names.lookup y.1=some .local)) &&
 scope.names.all (λy=>decide (y.2≠.free) || decide (sc.names.lookup y.1=some .cell) || decide (sc.names.lookup y.1=some .free)) && decide (Nb.length=no+cap.length) &&
 (List.range cap.length).all λj=>match cap[j]?,Nb[no+j]? with
  |some i,some x=>decide (N[i]?=some x) && decide (scope.names.lookup x=some .free) && (decide (sc.names.lookup x=some .cell) || decide (sc.names.lookup x=some .free))
  |_,_=>false
theorem Z9{X:Cx}{scope sc:Scope}{N Nb:List Str}{no:Nat}{cap:List Nat}(hsc:X.env.scope=sc)(hN:X.N=N)(h:bchk sc scope N Nb no cap=true):BScope X scope Nb no cap:=by
 subst hsc hN
 unfold bchk at h
 simp only[UT,decide_eq_true_eq]at h
 obtain⟨⟨⟨⟨⟨h1,h2⟩,h3⟩,h4⟩,h5⟩,h6⟩:=h
 rw[Tp]at h2 h3 h4 h6
 refine⟨h1,λy hy=>UJ (h2 y hy),λy hy e=>?_,λy hy e=>?_,h5,λj i hj=>?_⟩
 ·rcases Wv.mp (h3 y hy) with z|z
  ·exact absurd e (UJ z)
  ·exact UJ z
 ·rcases Wv.mp (h4 y hy) with z|z
  ·rcases Wv.mp z with z|z
   ·exact absurd e (UJ z)
   ·exact .inl (UJ z)
  ·exact .inr (UJ z)
 ·have hl:j<cap.length:=(Ul.mp hj).1
  have z:=h6 j (Tu.mpr hl)
  rw[hj]at z
  cases hx:Nb[no+j]? with
  |none=>rw[hx]at z;cases z
  |some x =>
   rw[hx]at z
   simp only[UT,Bool.or_eq_true,decide_eq_true_eq]at z
   obtain⟨⟨z1,z2⟩,z3⟩:=z
   refine⟨x,rfl,z1,z2,.inr z3,λq=>?_⟩
   have q:X.env.scope.names.lookup x=some .local:=q
   rcases z3 with z|z
   ·rw[z]at q;cases q
   ·rw[z]at q;cases q
noncomputable def catB(K:Frag)(ca:Nat->Addr)(C:Addr)(cs no:List Nat):Bool:=(clsIn K C).isSome && (typeIn K (.ref C) == some (.type "type")) && (subIn K (.ref C) (.type "BaseException") == some true) &&
 cs.all (λc=>subIn K (.ref (ca c)) (.ref C) == some true) && no.all λc=>subIn K (.ref (ca c)) (.ref C) == some false
theorem QnD{K:Frag}{ca:Nat->Addr}{C:Addr}{cs no:List Nat}(h:catB K ca C cs no=true):CatX K ca C cs no:=by
 unfold catB at h
 simp only[UT,TQ,Tp]at h
 obtain⟨⟨⟨⟨h1,h2⟩,h3⟩,h4⟩,h5⟩:=h
 exact⟨h1,h2,h3,h4,h5⟩
noncomputable def clsB(K:Frag)(C:Addr):Bool:=plainGet K C Str.empty && hasDictIn K C && plainOver K C && (findIn K (.ref C) "__setattr__" == some (some (.builtin "object.__setattr__")))
theorem Qgo{K:Frag}{C:Addr}(h:clsB K C=true):Cls K C:=by
 unfold clsB at h
 simp only[UT,TQ]at h
 obtain⟨⟨⟨h1,h2⟩,h3⟩,h4⟩:=h
 exact⟨h1,h2,h3,h4⟩
noncomputable def fldB(K:Frag)(ca:Nat->Addr)(cs:List Nat)(f:Str):Bool:=cs.all λc=>clsB K (ca c) && (findIn K (.ref (ca c)) f == some none)
theorem Qde{K:Frag}{ca:Nat->Addr}{cs:List Nat}{f:Str}(h:fldB K ca cs f=true):FldOk K ca cs f:=by
 unfold fldB at h
 rw[Tp]at h
 exact⟨λc hc=>Qgo (By.mp (h c hc)).1,λc hc=>TQ.mp (By.mp (h c hc)).2⟩
section
variable{X:Cx}{ca:Nat->Addr}{pos:Pos}{x:Str}
theorem Qiu{t:Str}(h:∃k,X.mg x=some (.str t k))(hg:Gl X x:=by rfl)(hd:(x == ("__debug__" : Str))=false:=by decide):PE3 ca X (.Name x pos) (mLit (.str t)):=by
 obtain⟨k,h⟩:=h
 exact QkJ h (v:=.str t) ⟨k,rfl⟩ (λ_ _ _=>.str t) hg hd
theorem Qgp{i:Int}(h:∃k,X.mg x=some (.int i k))(hg:Gl X x:=by rfl)(hd:(x == ("__debug__" : Str))=false:=by decide):PE3 ca X (.Name x pos) (mLit (.int i)):=by
 obtain⟨k,h⟩:=h
 exact QkJ h (v:=.int i) ⟨k,rfl⟩ (λ_ _ _=>.int i) hg hd
end
theorem QkQ:bootBuiltins "int" = some (.type Ty.int.name):=boot_int
theorem Qiv:bootBuiltins "bool" = some (.type Ty.bool.name):=by decide +kernel
theorem QkR:bootBuiltins "str" = some (.type Ty.str.name):=by decide +kernel
theorem J8:bootBuiltins "tuple" = some (.type Ty.tuple.name):=boot_tuple
theorem Qfu:bootBuiltins "list" = some (.type Ty.list.name):=boot_list
section
variable{P:Program}{w:World}{K:Frag}{mg:Str->Option Value}{base:Heap}{ca:Nat->Addr}
theorem QlQ{f:Addr}{fd:FuncData}{ps:List Str}{k n:Nat}(hn:ps.length=n):FnOk P w K mg base (CXW P w ca) k f fd ps (spM K ca n λ_ _=>.stuck):=by
 subst hn
 exact⟨λvs H Q E q=>q.1,λA outer s H args us vs Q E _ _ _ _ h=>by obtain⟨_,_,_,_,_,_,z⟩:=h;exact z.elim⟩
theorem QnE{F:MF}{H:Hp}{a:Addr}{ns:List Int}(hO:Only H)(hS:SqL K H a (ns.map V.int))(h:∃g',F [.fl (ns.map D.int)] []=.ok (.bl true) g'):spM K ca 1 F [.ref a] H (λv _=>v=.bl true) λ_ _ _=>False:=by
 obtain⟨g',h⟩:=h
 have hF:SqF K H a (ns.map V.int):=by
  rcases hS with(h|⟨o,h⟩)|h
  ·rcases hO a with z|⟨o,xs,z⟩
   ·rw[h]at z;cases z
   ·rw[h]at z;cases z
  ·exact .inl ⟨o,h⟩
  ·exact .inr (.inr h)
 refine⟨rfl,[.fl (ns.map D.int)],[],[],⟨rfl,.nil,λn a o h=>by simp at h⟩,.cons (.fl hF (Dens.ints ns)) .nil,?_⟩
 rw[h]
 intro v H' μ' e r q
 cases q
 rfl
end
end L3
namespace L3
open PySem PySem.Spec
section
theorem len0{α:Type}{us:List α}(h:us.length=0):us=[]:=List.eq_nil_of_length_eq_zero h
theorem len1{α:Type}{us:List α}(h:us.length=1):∃a0,us=[a0]:=by
 cases us with
 |nil=>cases h
 |cons a r =>
  have e:=len0 (Nat.succ.inj h)
  subst e
  exact⟨a,rfl⟩
theorem len2{α:Type}{us:List α}(h:us.length=2):∃a0 a1,us=[a0,a1]:=by
 cases us with
 |nil=>cases h
 |cons a r =>
  obtain⟨b0,rfl⟩:=len1 (Nat.succ.inj h)
  exact⟨a,b0,rfl⟩
theorem len3{α:Type}{us:List α}(h:us.length=3):∃a0 a1 a2,us=[a0,a1,a2]:=by
 cases us with
 |nil=>cases h
 |cons a r =>
  obtain⟨b0,b1,rfl⟩:=len2 (Nat.succ.inj h)
  exact⟨a,b0,b1,rfl⟩
theorem len4{α:Type}{us:List α}(h:us.length=4):∃a0 a1 a2 a3,us=[a0,a1,a2,a3]:=by
 cases us with
 |nil=>cases h
 |cons a r =>
  obtain⟨b0,b1,b2,rfl⟩:=len3 (Nat.succ.inj h)
  exact⟨a,b0,b1,b2,rfl⟩
theorem len5{α:Type}{us:List α}(h:us.length=5):∃a0 a1 a2 a3 a4,us=[a0,a1,a2,a3,a4]:=by
 cases us with
 |nil=>cases h
 |cons a r =>
  obtain⟨b0,b1,b2,b3,rfl⟩:=len4 (Nat.succ.inj h)
  exact⟨a,b0,b1,b2,b3,rfl⟩
noncomputable def QkS:Expr->Bool
 |.Starred ..=>false
 |_=>true
theorem Qiw{e:Expr}{es:List Expr}{env:Env}(h:QkS e=true):starEach (e::es) env=(false,eval e env)::starEach es env:=by
 cases e <;> first|rfl|exact absurd h Ug
variable{P:Program}{w:World}{K:Frag}{mg:Str->Option Value}{base:Heap}{ca:Nat->Addr}{X:L2.Cx}
theorem Qd{e:Expr}{es:List Expr}{me:ME}{mr:MA}(ha:PE3 ca X e me)(hr:PA3 ca X es mr)(hs:QkS e=true:=by rfl):PA3 ca X (e::es) (Qb me mr):=Yk ha hr (Qiw hs)
noncomputable def QkT:Expr->Bool
 |.ListComp ..=>false
 |.SetComp ..=>false
 |.DictComp ..=>false
 |_=>true
theorem QlR{e:Expr}{t:Option Expr}{l:Nat}{env:Env}(h:QkT e=true):swapsWith e t l env=pure false:=by
 cases e <;> first|rfl|exact absurd h Ug
theorem Qt(i:Nat){x:Str}{pos pos':Pos}{e:Expr}{me:ME}(hN:X.N.Nodup)(he:PE3 ca X e me)(hi:X.N[i]?=some x:=by rfl)(hx:L2.Loc X.env.scope x:=by first|exact Or.inl rfl|exact Or.inr rfl)(hs:QkT e=true:=by rfl)(hf:X.fn x=true\/X.env.scope.names.lookup x=some .local:=by first|exact .inl rfl|exact .inr rfl):
  PS3 ca X (.Assign [.Name x pos'] e pos) (mAsg (gSet i) me):=QoT i hN he hi hx (QlR hs) hf
end
end L3
section
namespace PySem
namespace F
end F
end PySem
end
namespace L3
open PySem PySem.Spec PyProof.Rows PySem.Calls
section
variable{prog:Program}{w:World}{A:Around}{E:Value->Shared->Prop}{s:Shared}
def IsRevT(h:Heap)(a l:Addr)(i:Int):Prop:=∃o,h.get? a=some o/\o.cls=.type "reversed" /\ o.data=.fields #[.ref l,rawInt i]
theorem IsRevT.typeIs{a l:Addr}{i:Int}(x:IsRevT s.heap a l i):s.TypeIs (.ref a) "reversed":=let ⟨o,ho,hc,_⟩:=x;⟨o,ho,hc⟩
theorem IsRevT.at{h h':Heap}{a l:Addr}{i:Int}(x:IsRevT h a l i)(e:∀o,h.get? a=some o->h'.get? a=some o):IsRevT h' a l i:=let ⟨o,ho,r⟩:=x;⟨o,e _ ho,r⟩
end
end L3
namespace SO
open PySem PyProof PyProof.Rows
noncomputable def gal':Bool->Keyed->Array Keyed->Nat->Nat->Nat->StateT SortSt Sem (Option Nat):=sortPriv% PySem.Builtin.gallop
noncomputable def look(lf:Bool)(ky:Keyed)(ar:Array Keyed)(bs i:Nat):StateT SortSt Sem (Option Bool):=do
 let z <-elem' ar (bs+i)
 if lf then lt' z ky else return (<-lt' ky z).map (!·)
theorem QlS(lf:Bool)(ky:Keyed)(ar:Array Keyed)(bs n hn:Nat):gal' lf ky ar bs n hn=(do
 let mut lst:=0
 let mut o:=1
 let mut lo:=0
 let mut hi:=0
 let some r <-look lf ky ar bs hn|return none
 if r then
  let mx:=n-hn
  for _ in [0:n] do
   if o>=mx then break
   let some m <-look lf ky ar bs (hn+o)|return none
   if !m then break
   lst:=o
   o:=2*o+1
  lo:=hn+lst+1
  hi:=hn+min o mx
 else
  let mx:=hn+1
  for _ in [0:n] do
   if o>=mx then break
   let some f <-look lf ky ar bs (hn-o)|return none
   if f then break
   lst:=o
   o:=2*o+1
  lo:=hn+1-min o mx
  hi:=hn-lst
 for _ in [0:n] do
  if lo>=hi then break
  let m:=lo+(hi-lo) / 2
  let some y <-look lf ky ar bs m|return none
  if y then lo:=m+1 else hi:=m
 return some hi):=rfl
section
variable{A:Around}{E:Value->Shared->Prop}{s:Shared}
theorem Qr{σ α:Type}{M:Model}{c:Prop}[Decidable c]{m1 m2:StateT σ Sem α}{Q:α->σ->Prop}{st:σ}(h:c)(k:wpS M A E s m1 Q st):wpS M A E s (if c then m1 else m2) Q st:=by rw[Ud h];exact k
theorem Qs{σ α:Type}{M:Model}{c:Prop}[Decidable c]{m1 m2:StateT σ Sem α}{Q:α->σ->Prop}{st:σ}(h:¬c)(k:wpS M A E s m2 Q st):wpS M A E s (if c then m1 else m2) Q st:=by rw[Ue h];exact k
theorem QeJ{σ α:Type}{M:Model}{c:Prop}[Decidable c]{m1 m2:StateT σ Sem α}{Q:α->σ->Prop}{st:σ}(k1:wpS M A E s m1 Q st)(k2:wpS M A E s m2 Q st):wpS M A E s (if c then m1 else m2) Q st:=by
 split
 ·exact k1
 ·exact k2
theorem Zy{x y:Nat}(h:¬x=y):¬(x == y)=true:=λe=>h (TQ.mp e)
theorem Q0{x y:Nat}(h:x=y):(x == y)=true:=TQ.mpr h
theorem Qck{p:Prop}[Decidable p](h:¬p):¬decide p=true:=λe=>h (UJ e)
end
section
variable{prog:Program}{w:World}{A:Around}{E:Value->Shared->Prop}{s:Shared}
abbrev KI(x:Keyed):Prop:=∃n t,x.1=.int n t
noncomputable abbrev nk(x:Keyed):Int:=numOf x.1
theorem Qix{st:SortSt}{x y:Keyed}{Q:Option Bool->SortSt->Prop}(hk:kindOf st=oneType')(hx:KI x)(hy:KI y)(h:Q (some (decide (nk x<nk y))) st):wpS (model prog w) A E s (lt' x y) Q st:=by
 obtain⟨x1,x2⟩:=x
 obtain⟨y1,y2⟩:=y
 obtain⟨a,t,rfl⟩:=hx
 obtain⟨b,u,rfl⟩:=hy
 rw[lt'_eq]
 refine Uj (WO ?_)
 rw[hk,keyLt'_oneType]
 exact Uj (Bf (wpAny_attempt (oneLt_int ⟨rfl,Um h⟩)))
theorem QJ{st:SortSt}{ar:Array Keyed}{i:Nat}{Q:Keyed->SortSt->Prop}(hi:i<ar.size)(h:Q ar[i] st):
  wpS (model prog w) A E s (elem' ar i) Q st:=by
 rw[elem'_eq,getElem?_pos ar i hi]
 exact Um h
noncomputable def LK(lf:Bool)(kv v:Int):Bool:=if lf then decide (v<kv) else decide (v<=kv)
theorem QlT{st:SortSt}{lf:Bool}{ky:Keyed}{ar:Array Keyed}{bs i:Nat}{Q:Option Bool->SortSt->Prop}(hk:kindOf st=oneType')(hky:KI ky)(ha:∀x∈ar,KI x)(hi:bs+i<ar.size)(h:Q (some (LK lf (nk ky) (nk ar[bs+i]))) st):
  wpS (model prog w) A E s (look lf ky ar bs i) Q st:=by
 unfold look
 refine Uj (QJ hi ?_)
 have hz:=ha _ (UU hi)
 cases lf with
 |true =>
  rw[Ud rfl]
  exact Qix hk hz hky (by unfold LK at h;rw[Ud rfl]at h;exact h)
 |false =>
  rw[Ue (by decide)]
  refine Uj (Qix hk hky hz (Um ?_))
  have e:(some (decide (nk ky<nk ar[bs+i]))).map (!·)=some (decide (nk ar[bs+i]<=nk ky)):=by
   show some (!decide _)=_
   rw[<-decide_not]
   exact Rz some (decide_eq_decide.mpr RL)
  rw[e]
  unfold LK at h
  rw[Ue (by decide)]at h
  exact h
theorem QnF{st:SortSt}{lf:Bool}{ky:Keyed}{ar:Array Keyed}{bs n hn:Nat}{Q:Option Nat->SortSt->Prop}(hk:kindOf st=oneType')(hky:KI ky)(ha:∀x∈ar,KI x)(hb:bs+n<=ar.size)(hh:hn<n)(p:Nat->Bool)(hp:∀i (h:bs+i<ar.size),i<n->p i=LK lf (nk ky) (nk ar[bs+i]))(mono:∀i j,i<=j->j<n->p j=true->p i=true)(h:∀k,k<=n->(∀i,i<k->p i=true)->(∀i,k<=i->i<n->p i=false)->Q (some k) st):
  wpS (model prog w) A E s (gal' lf ky ar bs n hn) Q st:=by
 have ask:∀{i:Nat}{R:Option Bool->SortSt->Prop},i<n->R (some (p i)) st->wpS (model prog w) A E s (look lf ky ar bs i) R st:=by
  intro i R hi hR
  exact QlT hk hky ha (by(clear hk hh;omega)) (by rw[<-hp i (by(clear hk hh;omega)) hi];exact hR)
 have bin:∀{lo hi:Nat}{R:Option (Option Nat)×Nat×Nat->SortSt->Prop},lo<=hi->hi<=n->(∀i,i<lo->p i=true)->(∀i,hi<=i->i<n->p i=false) ->
   (∀l k,k<=n->(∀i,i<k->p i=true)->(∀i,k<=i->i<n->p i=false)->R (none,l,k) st) ->
   wpS (model prog w) A E s (forIn [0:n] ((none,lo,hi):Option (Option Nat)×Nat×Nat) λ_ c=>do
    if c.2.1>=c.2.2 then pure (ForInStep.done (none,c.2.1,c.2.2)) else do
     let z <-look lf ky ar bs (c.2.1+(c.2.2-c.2.1) / 2)
     match z with
     |some y=>if y=true then pure (ForInStep.yield (none,c.2.1+(c.2.2-c.2.1) / 2+1,c.2.2)) else pure (ForInStep.yield (none,c.2.1,c.2.1+(c.2.2-c.2.1) / 2))
     |_=>pure (ForInStep.done (some none,c.2.1,c.2.2))) R st:=by
  intro lo hi R h1 h2 h3 h4 hR
  refine U7 (I:=λx c st'=>st'=st/\∃l r,c=(none,l,r)/\l<=r/\r<=n/\r-l<=n-x/\(∀i,i<l->p i=true)/\(∀i,r<=i->i<n->p i=false)) ?step ?fin ⟨rfl,lo,hi,rfl,h1,h2,by(clear hk hb hh;omega),h3,h4⟩
  case fin =>
   rintro c st' ⟨rfl,l,r,rfl,a1,a2,a3,a4,a5⟩
   have e:l=r:=by(clear hb hh h1 h2 hk a2;omega)
   subst e
   exact hR l l a2 a4 a5
  case step =>
   rintro x c st' _ hx ⟨rfl,l,r,rfl,a1,a2,a3,a4,a5⟩
   dsimp only
   by_cases hge:l>=r
   ·refine Qr hge ?_
    have e:l=r:=by(clear hb hh h1 h2 hx hk a2 a3;omega)
    subst e
    exact Um (hR l l a2 a4 a5)
   ·refine Qs hge ?_
    refine Uj (ask (by(clear hb hh h1 h2 hx hk a1 a3;omega)) ?_)
    dsimp only
    cases hm:p (l+(r-l) / 2) with
    |true =>
     refine Qr rfl ?_
     exact Um ⟨rfl,_,r,rfl,by(clear hb hh h1 h2 hx hk a1 a2 a3 hm;omega),a2,by(clear hb hh h1 h2 hk a1 a2 hm;omega),λi hi=>mono i _ (by(clear hb hh h1 h2 hx hk a1 a2 a3 hge hm;omega)) (by(clear hb hh h1 h2 hx hk a1 a3 hm hi;omega)) hm,a5⟩
    |false =>
     refine Qs (by decide) ?_
     refine Um ⟨rfl,l,_,rfl,by(clear hb hh h1 h2 hx hk a1 a2 a3 hge hm;omega),by(clear hb hh h1 h2 hx hk a1 a3 hm;omega),by(clear hb hh h1 h2 hk a1 a2 hm;omega),a4,λi q1 q2=>?_⟩
     cases hi:p i with
     |false=>rfl
     |true=>rw[mono _ i q1 q2 hi]at hm;cases hm
 rw[QlS]
 refine Uj (ask hh ?_)
 dsimp only
 cases hq:p hn with
 |true =>
  refine Qr rfl ?_
  refine Uj (U7 (I:=λx c st'=>st'=st/\∃l o,c=(none,l,o)/\l+1<=o/\x+1<=o/\hn+l<n/\p (hn+l)=true) ?step ?fin ⟨rfl,0,1,rfl,by(clear hk hb hh hq;omega),by(clear hk hb hh hq;omega),by(clear hk hb hq;omega),hq⟩)
  case fin =>
   rintro c st' ⟨rfl,l,o,rfl,a1,a2,a3,a4⟩
   dsimp only
   refine Uj (bin (by(clear hb hq hk a2 a4;omega)) (by(clear hb hq hk a1 a2 a3 a4;omega)) (λi hi=>mono i _ (by(clear hb hh hq hk a1 a2 a3 a4;omega)) a3 a4) (λi q1 q2=>absurd q2 (by(clear hb hq hk a1 a3 a4;omega))) λl' k b1 b2 b3=>Um (h k b1 b2 b3))
  case step =>
   rintro x c st' _ hx ⟨rfl,l,o,rfl,a1,a2,a3,a4⟩
   dsimp only
   by_cases hge:o>=n-hn
   ·refine Qr hge ?_
    refine Um ?_
    dsimp only
    exact(Uj (bin (by(clear hb hq hx hk a2 a4;omega)) (by(clear hb hq hx hk a1 a2 a3 a4;omega)) (λi hi=>mono i _ (by(clear hb hh hq hx hk a1 a2 a3 a4 hge;omega)) a3 a4) (λi q1 q2=>absurd q2 (by(clear hb hq hx hk a1 a2 a3 a4;omega))) λl' k b1 b2 b3=>Um (h k b1 b2 b3)))
   ·refine Qs hge ?_
    refine Uj (ask (by(clear hb hq hx hk a1 a2 a3 a4;omega)) ?_)
    dsimp only
    cases hm:p (hn+o) with
    |true =>
     refine Qs (by decide) ?_
     exact Um ⟨rfl,o,_,rfl,by(clear hb hh hq hx hk a1 a2 a3 a4 hge hm;omega),by(clear hb hh hq hx hk a1 a3 a4 hge hm;omega),by(clear hb hq hx hk a1 a2 a3 a4 hm;omega),hm⟩
    |false =>
     refine Qr (by decide) ?_
     refine Um ?_
     dsimp only
     refine(Uj (bin (by(clear hb hh hq hx hk a2 a3 a4 hm;omega)) (by(clear hb hq hx hk a1 a2 a3 a4 hm;omega)) (λi hi=>mono i _ (by(clear hb hh hq hx hk a1 a2 a3 a4 hge hm;omega)) a3 a4) (λi q1 q2=>?_) λl' k b1 b2 b3=>Um (h k b1 b2 b3)))
     cases hi:p i with
     |false=>rfl
     |true=>rw[mono (hn+o) i (by(clear hb hh hq hx hk a1 a2 a3 a4 hm q2 hi;omega)) q2 hi]at hm;cases hm
 |false =>
  rw[Ue (by decide)]
  have lowF:∀{l:Nat},l<=hn->p (hn-l)=false->∀i,hn-l<=i->i<n->p i=false:=by
   intro l _ hl i q1 q2
   cases hi:p i with
   |false=>rfl
   |true=>rw[mono (hn-l) i q1 q2 hi]at hl;cases hl
  refine Uj (U7 (I:=λx c st'=>st'=st/\∃l o,c=(none,l,o)/\l+1<=o/\x+1<=o/\l<=hn/\p (hn-l)=false) ?step ?fin ⟨rfl,0,1,rfl,by(clear hk hb hh hq;omega),by(clear hk hb hh hq;omega),by(clear hk hb hh hq;omega),hq⟩)
  case fin =>
   rintro c st' ⟨rfl,l,o,rfl,a1,a2,a3,a4⟩
   dsimp only
   refine Uj (bin (by(clear hb hh hq hk a2 a4;omega)) (by(clear hb hq hk a1 a2 a4;omega)) (λi hi=>absurd hi (by(clear hb hq hk a1 a3 a4;omega))) (lowF a3 a4) λl' k b1 b2 b3=>Um (h k b1 b2 b3))
  case step =>
   rintro x c st' _ hx ⟨rfl,l,o,rfl,a1,a2,a3,a4⟩
   dsimp only
   by_cases hge:o>=hn+1
   ·refine Qr hge ?_
    refine Um ?_
    dsimp only
    exact(Uj (bin (by(clear hb hh hq hx hk a2 a4;omega)) (by(clear hb hq hx hk a1 a2 a4 hge;omega)) (λi hi=>absurd hi (by(clear hb hh hq hx hk a1 a2 a3 a4;omega))) (lowF a3 a4) λl' k b1 b2 b3=>Um (h k b1 b2 b3)))
   ·refine Qs hge ?_
    refine Uj (ask (by(clear hb hq hx hk a1 a3 a4;omega)) ?_)
    dsimp only
    cases hm:p (hn-o) with
    |true =>
     refine Qr rfl ?_
     refine Um ?_
     dsimp only
     exact(Uj (bin (by(clear hb hh hq hx hk a2 a4 hm;omega)) (by(clear hb hq hx hk a1 a2 a4 hge hm;omega)) (λi hi=>mono i (hn-o) (by(clear hb hh hq hx hk a1 a2 a3 a4 hm;omega)) (by(clear hb hq hx hk a1 a3 a4 hm hi;omega)) hm) (lowF a3 a4) λl' k b1 b2 b3=>Um (h k b1 b2 b3)))
    |false =>
     refine Qs (by decide) ?_
     exact Um ⟨rfl,o,_,rfl,by(clear hb hh hq hx hk a1 a2 a3 a4 hge hm;omega),by(clear hb hh hq hx hk a1 a3 a4 hge hm;omega),by(clear hb hh hq hx hk a1 a2 a3 a4 hm;omega),hm⟩
end
noncomputable def mlo':Array Keyed->Array Keyed->StateT SortSt Sem (Array Keyed):=sortPriv% PySem.Builtin.mergeLo
noncomputable def mhi':Array Keyed->Array Keyed->StateT SortSt Sem (Array Keyed):=sortPriv% PySem.Builtin.mergeHi
noncomputable def setG(g:Nat):StateT SortSt Sem Unit:=modify λz=>SortSt.mk' (kindOf z) (arrOf z) (pendingOf z) g (failedOf z)
abbrev Srt(l:List Keyed):Prop:=l.Pairwise λx y=>nk x<=nk y
structure JL(o p q t:List Keyed):Prop where
 perm:(o++(p++q)).Perm t
 sp:Srt (o++p)
 sq:Srt (o++q)
theorem JL.swap{o p q t:List Keyed}(h:JL o p q t):JL o q p t :=
 ⟨(R0 o Wa).trans h.perm,h.sq,h.sp⟩
theorem JL.take{o x p q t:List Keyed}(h:JL o (x++p) q t)(c:∀u∈x,∀v∈q,nk u<=nk v):JL (o++x) p q t:=by
 refine⟨by rw[UG,<-UG x];exact h.perm,by rw[UG];exact h.sp,?_⟩
 have h1:=h.sp
 rw[<-UG]at h1
 have h2:=U5.mp h.sq
 refine U5.mpr ⟨(U5.mp h1).1,h2.2.1,λu hu v hv=>?_⟩
 rcases UX.mp hu with hu|hu
 ·exact h2.2.2 u hu v hv
 ·exact c u hu v hv
abbrev Mrg(out a b:Array Keyed):Prop:=out.toList.Perm (a.toList++b.toList)/\Srt out.toList
theorem QdH(a:Array Keyed)(i:Nat):(a.extract i a.size).toList=a.toList.drop i:=by
 rw[Ru,T6,RN]
 simp
theorem QkU(a:Array Keyed)(i k:Nat):(a.extract i (i+k)).toList=(a.toList.drop i).take k:=by
 rw[Ru,T6,RK]
theorem YL{a:Array Keyed}{i:Nat}(h:i<a.size):nk a[i]=K a i:=(K_eq h).symm
theorem QbV{a:Array Keyed}{i:Nat}{y:Keyed}(h:y∈a.toList.drop i):∃m,i<=m/\m<a.size/\nk y=K a m:=by
 obtain⟨m,hm,e⟩:=U1 h
 rw[TD,Uo]at hm
 rw[List.getElem_drop,To]at e
 exact⟨i+m,by(clear hm e;omega),by(clear e;omega),by rw[<-e,YL]⟩
theorem J9{a:Array Keyed}{i k:Nat}{y:Keyed}(h:y∈(a.toList.drop i).take k):∃m,i<=m/\m<i+k/\m<a.size/\nk y=K a m:=by
 obtain⟨m,hm,e⟩:=U1 h
 rw[Th,TD,Uo]at hm
 rw[List.getElem_take,List.getElem_drop,To]at e
 exact⟨i+m,by(clear hm e;omega),by(clear e;omega),by(clear e;omega),by rw[<-e,YL]⟩
theorem Qiy{a:Array Keyed}{i:Nat}(h:i<a.size):a.toList.drop i=a[i]::a.toList.drop (i+1):=by
 rw[Rw (by rw[Uo];exact h),To]
structure Mid(a b r:Array Keyed)(i j:Nat):Prop where
 jl:JL r.toList (a.toList.drop i) (b.toList.drop j) (a.toList++b.toList)
 hi:i<=a.size
 hj:j<=b.size
theorem Mid.size{a b r:Array Keyed}{i j:Nat}(M:Mid a b r i j):r.size+(a.size-i)+(b.size-j)=a.size+b.size:=by
 have:=M.jl.perm.length_eq
 simp only[Us,TD,Uo]at this
 omega
theorem Mid.pushA{a b r:Array Keyed}{i j:Nat}(M:Mid a b r i j)(h:i<a.size)(c:∀m,j<=m->m<b.size->K a i<=K b m):Mid a b (r.push a[i]) (i+1) j:=by
 refine⟨?_,h,M.hj⟩
 rw[Rq]
 refine JL.take (by have:=M.jl;rw[Qiy h]at this;exact this) λu hu v hv=>?_
 obtain⟨m,h1,h2,e⟩:=QbV hv
 rw[Uw.mp hu,YL h,e]
 exact c m h1 h2
theorem Mid.pushB{a b r:Array Keyed}{i j:Nat}(M:Mid a b r i j)(h:j<b.size)(c:∀m,i<=m->m<a.size->K b j<=K a m):Mid a b (r.push b[j]) i (j+1):=by
 refine⟨?_,M.hi,h⟩
 rw[Rq]
 refine(JL.take (by have:=M.jl.swap;rw[Qiy h]at this;exact this) λu hu v hv=>?_).swap
 obtain⟨m,h1,h2,e⟩:=QbV hv
 rw[Uw.mp hu,YL h,e]
 exact c m h1 h2
theorem Mid.manyA{a b r:Array Keyed}{i j k:Nat}(M:Mid a b r i j)(h:i+k<=a.size)(c:∀m n,i<=m->m<i+k->j<=n->n<b.size->K a m<=K b n):Mid a b (r++a.extract i (i+k)) (i+k) j:=by
 refine⟨?_,h,M.hj⟩
 rw[UQ,QkU]
 refine JL.take (by rw[<-WL,Tj];exact M.jl) λu hu v hv=>?_
 obtain⟨m,h1,h2,h3,e⟩:=J9 hu
 obtain⟨n,h4,h5,e2⟩:=QbV hv
 rw[e,e2]
 exact c m n h1 h2 h4 h5
theorem Mid.manyB{a b r:Array Keyed}{i j k:Nat}(M:Mid a b r i j)(h:j+k<=b.size)(c:∀m n,j<=m->m<j+k->i<=n->n<a.size->K b m<=K a n):Mid a b (r++b.extract j (j+k)) i (j+k):=by
 refine⟨?_,M.hi,h⟩
 rw[UQ,QkU]
 refine(JL.take (by rw[<-WL,Tj];exact M.jl.swap) λu hu v hv=>?_).swap
 obtain⟨m,h1,h2,h3,e⟩:=J9 hu
 obtain⟨n,h4,h5,e2⟩:=QbV hv
 rw[e,e2]
 exact c m n h1 h2 h4 h5
theorem Mid.endB{a b r:Array Keyed}{i j:Nat}(M:Mid a b r i j)(h:j=b.size):Mrg (r++a.extract i a.size++b.extract j b.size) a b:=by
 have e:b.toList.drop j=[]:=Bd (by rw[Uo];omega)
 have p:=M.jl.perm
 have q:=M.jl.sp
 rw[e,UM]at p
 rw[Mrg,UQ,UQ,QdH,QdH,e,UM]
 exact⟨p,q⟩
theorem Mid.endA{a b r:Array Keyed}{i j:Nat}(M:Mid a b r i j)(h:i=a.size):Mrg (r++a.extract i a.size++b.extract j b.size) a b:=by
 have e:a.toList.drop i=[]:=Bd (by rw[Uo];omega)
 have p:=M.jl.perm
 have q:=M.jl.sq
 rw[e,RD]at p
 rw[Mrg,UQ,UQ,QdH,QdH,e,UM]
 exact⟨p,q⟩
theorem Mid.lastA{a b r:Array Keyed}{i j:Nat}(M:Mid a b r i j)(h:i+1=a.size)(c:∀m,m<b.size->K b m<=K a (a.size-1)):Mrg (r++b.extract j b.size++a.extract i a.size) a b:=by
 have N:=M.manyB (k:=b.size-j) (by have:=M.hj;(clear h;omega)) λm n h1 h2 h3 h4=>by
  rw[show n=a.size-1 by(clear h1 h2;omega)]
  exact c m (by have:=M.hj;(clear h h1 h3 h4;omega))
 have e:j+(b.size-j)=b.size:=by have:=M.hj;(clear h;omega)
 rw[e]at N
 have:=N.endB rfl
 rw[show b.extract b.size b.size = #[] by simp,Array.append_empty]at this
 exact this
noncomputable abbrev StO:=Option (Array Keyed)×Array Keyed×Nat×Nat×Nat×Nat
noncomputable abbrev StR:=Option (Array Keyed)×Array Keyed×Nat×Nat×Nat
noncomputable abbrev StL:=Option (Array Keyed)×Array Keyed×Nat×Nat×Nat×Nat×Nat
noncomputable def QlU(a b:Array Keyed)(g:Nat)(r:Array Keyed)(i j ac bc:Nat):StateT SortSt Sem (ForInStep StO):=do
 let z <-lt' (<-elem' b j) (<-elem' a i)
 match z with
 |some y =>
  if y=true then do
   let r:=r.push (<-elem' b j)
   if (j+1 == b.size)=true then pure (ForInStep.done (some (r++a.extract i a.size++b.extract (j+1) b.size),r,i,j+1,0,bc+1))
   else if bc+1>=g then pure (ForInStep.done (none,r,i,j+1,0,bc+1)) else pure (ForInStep.yield (none,r,i,j+1,0,bc+1))
  else do
   let r:=r.push (<-elem' a i)
   if (i+1+1 == a.size)=true then pure (ForInStep.done (some (r++b.extract j b.size++a.extract (i+1) a.size),r,i+1,j,ac+1,0))
   else if ac+1>=g then pure (ForInStep.done (none,r,i+1,j,ac+1,0)) else pure (ForInStep.yield (none,r,i+1,j,ac+1,0))
 |_=>pure (ForInStep.done (some (r++a.extract i a.size++b.extract j b.size),r,i,j,ac,bc))
noncomputable def QdI(a b:Array Keyed)(g k k2 i j:Nat)(r:Array Keyed):StateT SortSt Sem (ForInStep StL):=do
 let r:=r.push (<-elem' a i)
 if (i+1+1 == a.size)=true then pure (ForInStep.done (some (r++b.extract j b.size++a.extract (i+1) a.size),r,i+1,j,g,k,k2))
 else if (decide (k<7) && decide (k2<7))=true then pure (ForInStep.done (none,r,i+1,j,g,k,k2))
 else pure (ForInStep.yield (none,r,i+1,j,g,k,k2))
noncomputable def QdJ(a b:Array Keyed)(g k bc i j:Nat)(r:Array Keyed):StateT SortSt Sem (ForInStep StL):=do
 let r:=r.push (<-elem' b j)
 if (j+1 == b.size)=true then pure (ForInStep.done (some (r++a.extract i a.size++b.extract (j+1) b.size),r,i,j+1,g,k,bc)) else do
  let z <-gal' true (<-elem' a i) b (j+1) (b.size - (j+1)) 0
  match z with
  |some y =>
   if y > 0 then
    if (j+1+y == b.size)=true then pure (ForInStep.done (some (r++b.extract (j+1) (j+1+y)++a.extract i a.size++b.extract (j+1+y) b.size),r++b.extract (j+1) (j+1+y),i,j+1+y,g,k,y))
    else QdI a b g k y i (j+1+y) (r++b.extract (j+1) (j+1+y))
   else QdI a b g k y i (j+1) r
  |_=>pure (ForInStep.done (some (r++a.extract i a.size++b.extract (j+1) b.size),r,i,j+1,g,k,bc))
noncomputable def QeK(a b r:Array Keyed)(i j ac bc g:Nat):StateT SortSt Sem (ForInStep StL):=do
 setG g
 let z <-gal' false (<-elem' b j) a i (a.size-i) 0
 match z with
 |some y =>
  if y > 0 then
   if (i+y+1 == a.size)=true then pure (ForInStep.done (some (r++a.extract i (i+y)++b.extract j b.size++a.extract (i+y) a.size),r++a.extract i (i+y),i+y,j,g,y,bc))
   else if (i+y == a.size)=true then pure (ForInStep.done (some (r++a.extract i (i+y)++a.extract (i+y) a.size++b.extract j b.size),r++a.extract i (i+y),i+y,j,g,y,bc))
   else QdJ a b g y bc (i+y) j (r++a.extract i (i+y))
  else QdJ a b g y bc i j r
 |_=>pure (ForInStep.done (some (r++a.extract i a.size++b.extract j b.size),r,i,j,g,ac,bc))
noncomputable def Qfv(a b r:Array Keyed)(i j ac bc g:Nat):StateT SortSt Sem (ForInStep StR):=do
 liftM (rule "list.sort.gallop")
 let c <-forIn [0:a.size+b.size] ((none,r,i,j,g+1,ac,bc):StL) λ_ c =>
  if c.snd.snd.snd.snd.fst > 1 then QeK a b c.snd.fst c.snd.snd.fst c.snd.snd.snd.fst c.snd.snd.snd.snd.snd.fst c.snd.snd.snd.snd.snd.snd (c.snd.snd.snd.snd.fst-1)
  else QeK a b c.snd.fst c.snd.snd.fst c.snd.snd.snd.fst c.snd.snd.snd.snd.snd.fst c.snd.snd.snd.snd.snd.snd c.snd.snd.snd.snd.fst
 match c.fst with
 |some o=>pure (ForInStep.done (some o,c.snd.fst,c.snd.snd.fst,c.snd.snd.snd.fst,c.snd.snd.snd.snd.fst))
 |none=>do
  setG (c.snd.snd.snd.snd.fst+1)
  pure (ForInStep.yield (none,c.snd.fst,c.snd.snd.fst,c.snd.snd.snd.fst,c.snd.snd.snd.snd.fst+1))
noncomputable def Qfw(a b r:Array Keyed)(i j g:Nat):StateT SortSt Sem (ForInStep StR):=do
 let c <-forIn [0:a.size+b.size] ((none,r,i,j,0,0):StO) λ_ c=>QlU a b g c.snd.fst c.snd.snd.fst c.snd.snd.snd.fst c.snd.snd.snd.snd.fst c.snd.snd.snd.snd.snd
 match c.fst with
 |some o=>pure (ForInStep.done (some o,c.snd.fst,c.snd.snd.fst,c.snd.snd.snd.fst,g))
 |none=>Qfv a b c.snd.fst c.snd.snd.fst c.snd.snd.snd.fst c.snd.snd.snd.snd.fst c.snd.snd.snd.snd.snd g
noncomputable def QnG(a b r:Array Keyed)(g:Nat):StateT SortSt Sem (Array Keyed):=do
 let c <-forIn [0:a.size+b.size] ((none,r,0,1,g):StR) λ_ c=>Qfw a b c.snd.fst c.snd.snd.fst c.snd.snd.snd.fst c.snd.snd.snd.snd
 match c.fst with
 |some o=>pure o
 |none=>liftM (unsupported "internal:list.sort.merge-bound")
theorem QnH(a b:Array Keyed):mlo' a b=(do
 liftM (rule "list.sort.merge-lo")
 let x <-elem' b 0
 if (1 == b.size)=true then pure (#[x]++a.extract 0 a.size++b.extract 1 b.size)
 else if (0+1 == a.size)=true then pure (#[x]++b.extract 1 b.size++a.extract 0 a.size)
 else do
  let t <-get
  QnG a b #[x] (gallopOf t)):=by
 kernel_rfl
section
variable{prog:Program}{w:World}{A:Around}{E:Value->Shared->Prop}{s:Shared}
def Alike(st st':SortSt):Prop:=kindOf st'=kindOf st/\arrOf st'=arrOf st/\pendingOf st'=pendingOf st/\failedOf st'=failedOf st
theorem Alike.refl(st:SortSt):Alike st st:=⟨rfl,rfl,rfl,rfl⟩
theorem Qgq{x:Array Keyed}(sx:SortedTo x x.size):Srt x.toList:=by
 refine T7.mpr λi j hi hj hij=>?_
 rw[Uo]at hi hj
 rw[To,To,YL hi,YL hj]
 exact sx i j (U3 hij) hj
theorem QdK{st:SortSt}{g:Nat}{Q:Unit->SortSt->Prop}(h:∀st',(∀z,Alike z st->Alike z st')->Q () st'):wpS (model prog w) A E s (setG g) Q st:=by
 unfold setG
 exact WP (h _ λz hz=>hz)
theorem LK_f{kv v:Int}:LK false kv v=decide (v<=kv):=rfl
theorem LK_t{kv v:Int}:LK true kv v=decide (v<kv):=rfl
theorem Qbi{st:SortSt}{lf:Bool}{ky:Keyed}{ar:Array Keyed}{bs n hn:Nat}{Q:Option Nat->SortSt->Prop}(hk:kindOf st=oneType')(hky:KI ky)(ha:∀x∈ar,KI x)(hb:bs+n<=ar.size)(hh:hn<n)(so:∀i j,i<=j->j<n->K ar (bs+i)<=K ar (bs+j))(h:∀k,k<=n->(∀i,i<k->LK lf (nk ky) (K ar (bs+i))=true)->(∀i,k<=i->i<n->LK lf (nk ky) (K ar (bs+i))=false)->Q (some k) st):
  wpS (model prog w) A E s (gal' lf ky ar bs n hn) Q st:=by
 refine QnF hk hky ha hb hh (λi=>LK lf (nk ky) (K ar (bs+i))) (λi hi _=>by rw[YL hi]) (λi j hij hj hp=>?_) h
 have:=so i j hij hj
 cases lf with
 |true=>rw[LK_t]at hp ⊢;exact UC (Int.lt_of_le_of_lt this (UJ hp))
 |false=>rw[LK_f]at hp ⊢;exact UC (UP this (UJ hp))
structure Two(a b:Array Keyed):Prop where
 ka:∀x∈a,KI x
 kb:∀x∈b,KI x
 sa:SortedTo a a.size
 sb:SortedTo b b.size
 c0:K b 0<=K a 0
 cl:∀m,m<b.size->K b m<=K a (a.size-1)
structure Am(a b r:Array Keyed)(i j n:Nat):Prop where
 mid:Mid a b r i j
 hi:i+1<a.size
 hj:j<b.size
 hn:n<=r.size
noncomputable def QoY(st:SortSt)(a b:Array Keyed)(n N:Nat):ForInStep StO->SortSt->Prop
 |.done c,st'=>st'=st/\((∃out r i j ac bc,c=(some out,r,i,j,ac,bc)/\Mrg out a b)\/∃r i j ac bc,c=(none,r,i,j,ac,bc)/\Am a b r i j n)
 |.yield c,st'=>st'=st/\∃r i j ac bc,c=(none,r,i,j,ac,bc)/\Am a b r i j N
noncomputable def QlV(st:SortSt)(a b:Array Keyed)(n N:Nat):ForInStep StL->SortSt->Prop
 |.done c,st'=>Alike st st'/\((∃out r i j g ac bc,c=(some out,r,i,j,g,ac,bc)/\Mrg out a b)\/∃r i j g ac bc,c=(none,r,i,j,g,ac,bc)/\Am a b r i j n)
 |.yield c,st'=>Alike st st'/\∃r i j g ac bc,c=(none,r,i,j,g,ac,bc)/\Am a b r i j N
noncomputable def QlW(st:SortSt)(a b:Array Keyed)(N:Nat):ForInStep StR->SortSt->Prop
 |.done c,st'=>Alike st st'/\∃out r i j g,c=(some out,r,i,j,g)/\Mrg out a b
 |.yield c,st'=>Alike st st'/\∃r i j g,c=(none,r,i,j,g)/\Am a b r i j N
variable{st st2:SortSt}{a b r:Array Keyed}{i j n N g:Nat}
theorem Am.no(M:Am a b r i j n)(h:a.size+b.size<=n):False:=by
 have:=M.mid.size
 have:=M.hi
 have:=M.hn
 omega
theorem Am.pushA(M:Am a b r i j n)(h:i<a.size)(c:∀m,j<=m->m<b.size->K a i<=K b m)(e:¬i+1+1=a.size)(hN:N<=n+1):Am a b (r.push a[i]) (i+1) j N :=
 ⟨M.mid.pushA h c,by have:=M.hi;omega,M.hj,by rw[Wq];have:=M.hn;omega⟩
theorem Am.pushB(M:Am a b r i j n)(c:∀m,i<=m->m<a.size->K b j<=K a m)(e:¬j+1=b.size)(hN:N<=n+1):Am a b (r.push (b[j]'M.hj)) i (j+1) N :=
 ⟨M.mid.pushB M.hj c,M.hi,by have:=M.hj;omega,by rw[Wq];have:=M.hn;omega⟩
theorem QjV{ac bc:Nat}(T:Two a b)(hk:kindOf st=oneType')(M:Am a b r i j n)(hN:N<=n+1):
  wpS (model prog w) A E s (QlU a b g r i j ac bc) (QoY st a b N N) st:=by
 have hi:=Tr M.hi
 have hj:=M.hj
 unfold QlU
 refine Uj (QJ hj (Uj (QJ hi (Uj (Qix hk (T.kb _ (UU hj)) (T.ka _ (UU hi)) ?_)))))
 rw[YL hj,YL hi]
 by_cases hw:K b j<K a i
 ·refine Qr (UC hw) (Uj (QJ hj ?_))
  have c:∀m,i<=m->m<a.size->K b j<=K a m:=λm h1 h2=>UP (Tm hw) (T.sa i m h1 h2)
  by_cases e:j+1=b.size
  ·exact Qr (Q0 e) (Um ⟨rfl,.inl ⟨_,_,_,_,_,_,rfl,(M.mid.pushB hj c).endB e⟩⟩)
  have M':=M.pushB c e hN
  exact Qs (Zy e) (QeJ (Um ⟨rfl,.inr ⟨_,_,_,_,_,rfl,M'⟩⟩) (Um ⟨rfl,_,_,_,_,_,rfl,M'⟩))
 ·refine Qs (Qck hw) (Uj (QJ hi ?_))
  have c:∀m,j<=m->m<b.size->K a i<=K b m:=λm h1 h2=>UP (RL.mp hw) (T.sb j m h1 h2)
  by_cases e:i+1+1=a.size
  ·exact Qr (Q0 e) (Um ⟨rfl,.inl ⟨_,_,_,_,_,_,rfl,(M.mid.pushA hi c).lastA e T.cl⟩⟩)
  have M':=M.pushA hi c e hN
  exact Qs (Zy e) (QeJ (Um ⟨rfl,.inr ⟨_,_,_,_,_,rfl,M'⟩⟩) (Um ⟨rfl,_,_,_,_,_,rfl,M'⟩))
theorem Qdf{k k2:Nat}(T:Two a b)(al:Alike st st2)(M:Am a b r i j n)(c:∀m,j<=m->m<b.size->K a i<=K b m)(hN:N<=n+1):
  wpS (model prog w) A E s (QdI a b g k k2 i j r) (QlV st a b N N) st2:=by
 have hi:=Tr M.hi
 unfold QdI
 refine Uj (QJ hi ?_)
 by_cases e:i+1+1=a.size
 ·exact Qr (Q0 e) (Um ⟨al,.inl ⟨_,_,_,_,_,_,_,rfl,(M.mid.pushA hi c).lastA e T.cl⟩⟩)
 have M':=M.pushA hi c e hN
 exact Qs (Zy e) (QeJ (Um ⟨al,.inr ⟨_,_,_,_,_,_,rfl,M'⟩⟩) (Um ⟨al,_,_,_,_,_,_,rfl,M'⟩))
theorem Qgr{P:Nat->Prop}{x m:Nat}(h:P (x+(m-x)))(l:x<=m):P m:=by
 rwa[Ww l]at h
theorem Qdg{k bc:Nat}(T:Two a b)(al:Alike st st2)(k2:kindOf st2=oneType')(M:Am a b r i j n)(c:∀m,i<=m->m<a.size->K b j<=K a m)(hN:N<=n+1):
  wpS (model prog w) A E s (QdJ a b g k bc i j r) (QlV st a b N N) st2:=by
 have hi:=Tr M.hi
 have hj:=M.hj
 unfold QdJ
 refine Uj (QJ hj ?_)
 by_cases e:j+1=b.size
 ·exact Qr (Q0 e) (Um ⟨al,.inl ⟨_,_,_,_,_,_,_,rfl,(M.mid.pushB hj c).endB e⟩⟩)
 have M2:Am a b (r.push b[j]) i (j+1) n:=M.pushB c e (Wk n)
 have hj2:=M2.hj
 refine Qs (Zy e) (Uj (QJ hi (Uj ?_)))
 refine Qbi k2 (T.ka _ (UU hi)) T.kb (RX (Ww (U3 hj2))) (Nat.sub_pos_of_lt hj2) (λx y h1 h2=>T.sb _ _ (Tt h1 _) (Bo h2)) λy hy pk qk=>?_
 rw[YL hi]at pk qk
 have R:∀m,j+1<=m->m<j+1+y->K b m<=K a i:=λm h1 h2=>Tm (UJ (Qgr (P:=λm=>decide (K b m<K a i)=true) (pk (m - (j+1)) (by omega)) h1))
 have R':∀m,j+1+y<=m->m<b.size->K a i<=K b m:=λm h1 h2=>RL.mp (T0 (Qgr (P:=λm=>decide (K b m<K a i)=false) (qk (m - (j+1)) (Bp h1) (Bz (Tg h1) h2)) (Tg h1)))
 by_cases h0:y > 0
 ·refine Qr h0 ?_
  have hy':j+1+y<=b.size:=by omega
  have M3:=M2.mid.manyB (k:=y) hy' λm n h1 h2 h3 h4=>UP (R m h1 h2) (T.sa i n h3 h4)
  by_cases e:j+1+y=b.size
  ·exact Qr (Q0 e) (Um ⟨al,.inl ⟨_,_,_,_,_,_,_,rfl,M3.endB e⟩⟩)
  exact Qs (Zy e) (Qdf (n:=n) T al ⟨M3,M.hi,WH hy' e,by rw[WV];exact Ut M2.hn (Rh _ _)⟩ R' hN)
 ·have e0:y=0:=by omega
  subst e0
  exact Qs h0 (Qdf T al M2 R' hN)
theorem Qiz{ac bc:Nat}(T:Two a b)(hk:kindOf st=oneType')(al0:Alike st st2)(M:Am a b r i j n)(hN:N<=n+1):
  wpS (model prog w) A E s (QeK a b r i j ac bc g) (QlV st a b N N) st2:=by
 have hi:=Tr M.hi
 have hj:=M.hj
 unfold QeK
 refine Uj (QdK λst3 h3=>?_)
 have al:=h3 _ al0
 have k2:=al.1.trans hk
 refine Uj (QJ hj (Uj ?_))
 refine Qbi k2 (T.kb _ (UU hj)) T.ka (RX (Ww (U3 hi))) (Nat.sub_pos_of_lt hi) (λx y h1 h2=>T.sa _ _ (Tt h1 _) (Bo h2)) λy hy pk qk=>?_
 rw[YL hj]at pk qk
 have R:∀m,i<=m->m<i+y->K a m<=K b j:=λm h1 h2=>UJ (Qgr (P:=λm=>decide (K a m<=K b j)=true) (pk (m-i) (Nat.sub_lt_left_of_lt_add h1 h2)) h1)
 have R':∀m,i+y<=m->m<a.size->K b j<=K a m:=λm h1 h2=>Tm (Int.not_le.mp (T0 (Qgr (P:=λm=>decide (K a m<=K b j)=false) (qk (m-i) (Bp h1) (Bz (Tg h1) h2)) (Tg h1))))
 by_cases h0:y > 0
 ·refine Qr h0 ?_
  have hy':i+y<=a.size:=by omega
  have M3:=M.mid.manyA (k:=y) hy' λm n h1 h2 h3 h4=>UP (R m h1 h2) (T.sb j n h3 h4)
  by_cases e:i+y+1=a.size
  ·exact Qr (Q0 e) (Um ⟨al,.inl ⟨_,_,_,_,_,_,_,rfl,M3.lastA e T.cl⟩⟩)
  refine Qs (Zy e) ?_
  by_cases e2:i+y=a.size
  ·exact Qr (Q0 e2) (Um ⟨al,.inl ⟨_,_,_,_,_,_,_,rfl,M3.endA e2⟩⟩)
  exact Qs (Zy e2) (Qdg (n:=n) T al k2 ⟨M3,WH (WH hy' e2) e,hj,by rw[WV];exact Ut M.hn (Rh _ _)⟩ R' hN)
 ·have e0:y=0:=by omega
  subst e0
  exact Qs h0 (Qdg T al k2 M R' hN)
theorem Qhb{ac bc:Nat}(T:Two a b)(hk:kindOf st=oneType')(al:Alike st st2)(M:Am a b r i j n):
  wpS (model prog w) A E s (Qfv a b r i j ac bc g) (QlW st a b n) st2:=by
 unfold Qfv
 refine Uj (Bf (Rc ⟨rfl,?_⟩))
 refine Uj (U7 (I:=λy c st'=>Alike st st'/\∃r i j g ac bc,c=(none,r,i,j,g,ac,bc)/\Am a b r i j (n+y)) ?s2 ?f2 ⟨al,r,i,j,_,ac,bc,rfl,M⟩)
 case f2 =>
  rintro c st' ⟨_,r,i,j,g,ac,bc,rfl,M⟩
  exact(M.no (by omega)).elim
 case s2 =>
  rintro y c st' _ hy ⟨al,r,i,j,g,ac,bc,rfl,M⟩
  have fin:∀g,wpS (model prog w) A E s (QeK a b r i j ac bc g) (λr st'=>match r with
    |.done c=>wpS (model prog w) A E s (match c.fst with
      |some o=>pure (ForInStep.done (some o,c.snd.fst,c.snd.snd.fst,c.snd.snd.snd.fst,c.snd.snd.snd.snd.fst))
      |none=>do
       setG (c.snd.snd.snd.snd.fst+1)
       pure (ForInStep.yield (none,c.snd.fst,c.snd.snd.fst,c.snd.snd.snd.fst,c.snd.snd.snd.snd.fst+1)):StateT SortSt Sem (ForInStep StR)) (QlW st a b n) st'
    |.yield c=>Alike st st'/\∃r i j g ac bc,c=(none,r,i,j,g,ac,bc)/\Am a b r i j (n+(y+1))) st':=λg =>
   Tz (Qiz (N:=n+(y+1)) T hk al M (Uc _)) λq st4 hq=>by
    cases q with
    |yield c=>exact hq
    |done c =>
     obtain⟨al4,(⟨out,r,i,j,g,ac,bc,rfl,R⟩|⟨r,i,j,g,ac,bc,rfl,M⟩)⟩:=hq
     ·exact Um ⟨al4,_,_,_,_,_,rfl,R⟩
     ·exact Uj (QdK λst5 h5=>Um ⟨h5 _ al4,_,_,_,_,rfl,M.mid,M.hi,M.hj,Tg M.hn⟩)
  exact QeJ (Tz (fin _) λq _ h=>by cases q <;> exact h) (Tz (fin _) λq _ h=>by cases q <;> exact h)
theorem Qhc(T:Two a b)(hk:kindOf st=oneType')(al:Alike st st2)(M:Am a b r i j n):
  wpS (model prog w) A E s (Qfw a b r i j g) (QlW st a b (n+1)) st2:=by
 unfold Qfw
 refine Uj (U7 (I:=λy c st'=>st'=st2/\∃r i j ac bc,c=(none,r,i,j,ac,bc)/\Am a b r i j (n+y)) ?s1 ?f1 ⟨rfl,r,i,j,0,0,rfl,M⟩)
 case f1 =>
  rintro c st' ⟨_,r,i,j,ac,bc,rfl,M⟩
  exact(M.no (by omega)).elim
 case s1 =>
  rintro y c st' _ hy ⟨rfl,r,i,j,ac,bc,rfl,M⟩
  refine Tz (QjV (N:=n+(y+1)) T (al.1.trans hk) M (Uc _)) λq st4 hq=>?_
  cases q with
  |yield c=>exact hq
  |done c =>
   obtain⟨rfl,(⟨out,r,i,j,ac,bc,rfl,R⟩|⟨r,i,j,ac,bc,rfl,M⟩)⟩:=hq
   ·exact Um ⟨al,_,_,_,_,_,rfl,R⟩
   ·exact Qhb T hk al ⟨M.mid,M.hi,M.hj,Ut (Tt (We (Tc y)) n) M.hn⟩
theorem QnI{Q:Array Keyed->SortSt->Prop}(T:Two a b)(hk:kindOf st=oneType')(na:0<a.size)(nb:0<b.size)(h:∀out st',Alike st st'->Mrg out a b->Q out st'):wpS (model prog w) A E s (mlo' a b) Q st:=by
 have M0:Mid a b #[] 0 0:=⟨⟨List.Perm.refl _,by simpa using Qgq T.sa,by simpa using Qgq T.sb⟩,Tc _,Tc _⟩
 have M1:Mid a b #[b[0]] 0 1:=M0.pushB nb λm _ hm=>UP T.c0 (T.sa 0 m (Tc _) hm)
 rw[QnH]
 refine Uj (Bf (Rc ⟨rfl,Uj (QJ nb ?_)⟩))
 by_cases e1:1=b.size
 ·exact Qr (Q0 e1) (Um (h _ _ (.refl st) (M1.endB e1)))
 refine Qs (Zy e1) ?_
 by_cases e2:0+1=a.size
 ·exact Qr (Q0 e2) (Um (h _ _ (.refl st) (M1.lastA e2 T.cl)))
 refine Qs (Zy e2) (Uj (WO ?_))
 unfold QnG
 refine Uj (U7 (I:=λx c st'=>Alike st st'/\∃r i j g,c=(none,r,i,j,g)/\Am a b r i j (x+1)) ?step ?fin ⟨.refl st,_,0,1,_,rfl,M1,by omega,by omega,Uc 1⟩)
 case fin =>
  rintro c st' ⟨_,r,i,j,g,rfl,M⟩
  exact(M.no (by omega)).elim
 case step =>
  rintro x c st' _ hx ⟨al,r,i,j,g,rfl,M⟩
  refine Tz (Qhc T hk al M) λq st4 hq=>?_
  cases q with
  |yield c=>exact hq
  |done c =>
   obtain⟨al4,out,r,i,j,g,rfl,R⟩:=hq
   exact Um (h out _ al4 R)
end
structure JH(o p q t:List Keyed):Prop where
 perm:(p++q++o).Perm t
 sp:Srt (p++o)
 sq:Srt (q++o)
theorem JH.swap{o p q t:List Keyed}(h:JH o p q t):JH o q p t :=
 ⟨(RO o Wa).trans h.perm,h.sq,h.sp⟩
theorem JH.take{o x p q t:List Keyed}(h:JH o (p++x) q t)(c:∀u∈q,∀v∈x,nk u<=nk v):JH (x++o) p q t:=by
 refine⟨?_,by rw[<-UG];exact h.sp,?_⟩
 ·refine List.Perm.trans ?_ h.perm
  rw[UG p,UG p,UG p]
  refine R0 p ?_
  rw[<-UG,UG x,<-UG]
  exact RO o Wa
 have h1:=h.sp
 rw[UG]at h1
 have h2:=U5.mp h.sq
 refine U5.mpr ⟨h2.1,(U5.mp h1).2.1,λu hu v hv=>?_⟩
 rcases UX.mp hv with hv|hv
 ·exact c u hu v hv
 ·exact h2.2.2 u hu v hv
theorem QbW(a:Array Keyed)(i:Nat):(a.extract 0 i).toList=a.toList.take i:=by
 rw[Ru,T6,List.drop_zero,Nat.sub_zero]
theorem QaS(a:Array Keyed)(k i:Nat):(a.extract k i).toList=(a.toList.drop k).take (i-k):=by
 rw[Ru,T6]
theorem Qgs{a:Array Keyed}{i:Nat}{y:Keyed}(h:y∈a.toList.take i):∃m,m<i/\m<a.size/\nk y=K a m:=by
 obtain⟨m,hm,e⟩:=U1 h
 rw[Th,Uo]at hm
 rw[List.getElem_take,To]at e
 exact⟨m,by omega,by omega,by rw[<-e,YL]⟩
theorem Qdh{l:List Keyed}{k i:Nat}(h:k<=i):l.take i=l.take k++(l.drop k).take (i-k):=by
 rw[<-List.take_add,show k+(i-k)=i by omega]
theorem QiA{a:Array Keyed}{i:Nat}(h:i<a.size):a.toList.take (i+1)=a.toList.take i++[a[i]]:=by
 rw[UN (by rw[Uo];exact h),To]
structure MidH(a b r:Array Keyed)(i j:Nat):Prop where
 jl:JH r.toList.reverse (a.toList.take i) (b.toList.take j) (a.toList++b.toList)
 hi:i<=a.size
 hj:j<=b.size
theorem MidH.size{a b r:Array Keyed}{i j:Nat}(M:MidH a b r i j):r.size+i+j=a.size+b.size:=by
 have:=M.jl.perm.length_eq
 simp only[Us,Th,Uo,Re]at this
 have:=M.hi
 have:=M.hj
 omega
theorem MidH.pushA{a b r:Array Keyed}{i j:Nat}(M:MidH a b r (i+1) j)(h:i<a.size)(c:∀m,m<j->m<b.size->K b m<=K a i):MidH a b (r.push a[i]) i j:=by
 refine⟨?_,U3 h,M.hj⟩
 rw[Rq,RA,Be]
 refine JH.take (by have:=M.jl;rw[QiA h]at this;exact this) λu hu v hv=>?_
 obtain⟨m,h1,h2,e⟩:=Qgs hu
 rw[Uw.mp hv,YL h,e]
 exact c m h1 h2
theorem MidH.pushB{a b r:Array Keyed}{i j:Nat}(M:MidH a b r i (j+1))(h:j<b.size)(c:∀m,m<i->m<a.size->K a m<=K b j):MidH a b (r.push b[j]) i j:=by
 refine⟨?_,M.hi,U3 h⟩
 rw[Rq,RA,Be]
 refine(JH.take (by have:=M.jl.swap;rw[QiA h]at this;exact this) λu hu v hv=>?_).swap
 obtain⟨m,h1,h2,e⟩:=Qgs hu
 rw[Uw.mp hv,YL h,e]
 exact c m h1 h2
theorem MidH.manyA{a b r:Array Keyed}{i j k:Nat}(M:MidH a b r i j)(h:k<=i)(c:∀m n,k<=m->m<i->n<j->n<b.size->K b n<=K a m):MidH a b (r++(a.extract k i).reverse) k j:=by
 refine⟨?_,Ut h M.hi,M.hj⟩
 rw[UQ,Rv,RA,BA,QaS]
 refine JH.take (by have:=M.jl;rw[Qdh h]at this;exact this) λu hu v hv=>?_
 obtain⟨n,h4,h5,e2⟩:=Qgs hu
 obtain⟨m,h1,h2,h3,e⟩:=J9 hv
 rw[e,e2]
 exact c m n h1 (by omega) h4 h5
theorem MidH.manyB{a b r:Array Keyed}{i j k:Nat}(M:MidH a b r i j)(h:k<=j)(c:∀m n,k<=m->m<j->n<i->n<a.size->K a n<=K b m):MidH a b (r++(b.extract k j).reverse) i k:=by
 refine⟨?_,M.hi,Ut h M.hj⟩
 rw[UQ,Rv,RA,BA,QaS]
 refine(JH.take (by have:=M.jl.swap;rw[Qdh h]at this;exact this) λu hu v hv=>?_).swap
 obtain⟨n,h4,h5,e2⟩:=Qgs hu
 obtain⟨m,h1,h2,h3,e⟩:=J9 hv
 rw[e,e2]
 exact c m n h1 (by omega) h4 h5
theorem MidH.endA{a b r:Array Keyed}{i j:Nat}(M:MidH a b r i j)(h:i=0):Mrg (a.extract 0 i++b.extract 0 j++r.reverse) a b:=by
 subst h
 have p:=M.jl.perm
 rw[WM,RD]at p
 rw[Mrg,UQ,UQ,QbW,QbW,WM,RD,Rv]
 exact⟨p,M.jl.sq⟩
theorem MidH.endB{a b r:Array Keyed}{i j:Nat}(M:MidH a b r i j)(h:j=0):Mrg (a.extract 0 i++b.extract 0 j++r.reverse) a b:=by
 subst h
 have p:=M.jl.perm
 rw[WM,UM]at p
 rw[Mrg,UQ,UQ,QbW,QbW,WM,UM,Rv]
 exact⟨p,M.jl.sp⟩
theorem MidH.firstB{a b r:Array Keyed}{i j:Nat}(M:MidH a b r i j)(h:j=1)(sa:SortedTo a a.size)(c:K b 0<=K a 0):Mrg (b.extract 0 j++a.extract 0 i++r.reverse) a b:=by
 subst h
 have N:=M.manyA (k:=0) (Tc _) λm n _ h2 h3 _=>by
  rw[show n=0 by omega]
  exact UP c (sa 0 m (by omega) (by have:=M.hi;omega))
 have:=N.endA rfl
 rw[Array.reverse_append,Array.reverse_reverse,<-RE]at this
 rw[show a.extract 0 0 = #[] by simp,Array.empty_append]at this
 exact this
noncomputable abbrev HiO:=Option (Array Keyed)×Nat×Nat×Array Keyed×Nat×Nat
noncomputable abbrev HiR:=Option (Array Keyed)×Nat×Nat×Array Keyed×Nat
noncomputable abbrev HiL:=Option (Array Keyed)×Nat×Nat×Array Keyed×Nat×Nat×Nat
noncomputable def QlX(a b:Array Keyed)(g i j:Nat)(r:Array Keyed)(ac bc:Nat):StateT SortSt Sem (ForInStep HiO):=do
 let z <-lt' (<-elem' b (j-1)) (<-elem' a (i-1))
 match z with
 |some y =>
  if y=true then do
   let r:=r.push (<-elem' a (i-1))
   if (i-1 == 0)=true then pure (ForInStep.done (some (a.extract 0 (i-1)++b.extract 0 j++r.reverse),i-1,j,r,ac+1,0))
   else if ac+1>=g then pure (ForInStep.done (none,i-1,j,r,ac+1,0)) else pure (ForInStep.yield (none,i-1,j,r,ac+1,0))
  else do
   let r:=r.push (<-elem' b (j-1))
   if (j-1 == 1)=true then pure (ForInStep.done (some (b.extract 0 (j-1)++a.extract 0 i++r.reverse),i,j-1,r,0,bc+1))
   else if bc+1>=g then pure (ForInStep.done (none,i,j-1,r,0,bc+1)) else pure (ForInStep.yield (none,i,j-1,r,0,bc+1))
 |_=>pure (ForInStep.done (some (a.extract 0 i++b.extract 0 j++r.reverse),i,j,r,ac,bc))
noncomputable def QdL(a b:Array Keyed)(g k k2 i j:Nat)(r:Array Keyed):StateT SortSt Sem (ForInStep HiL):=do
 let r:=r.push (<-elem' a (i-1))
 if (i-1 == 0)=true then pure (ForInStep.done (some (a.extract 0 (i-1)++b.extract 0 j++r.reverse),i-1,j,r,g,k,k2))
 else if (decide (k<7) && decide (k2<7))=true then pure (ForInStep.done (none,i-1,j,r,g,k,k2))
 else pure (ForInStep.yield (none,i-1,j,r,g,k,k2))
noncomputable def QdM(a b:Array Keyed)(g k bc i j:Nat)(r:Array Keyed):StateT SortSt Sem (ForInStep HiL):=do
 let r:=r.push (<-elem' b (j-1))
 if (j-1 == 1)=true then pure (ForInStep.done (some (b.extract 0 (j-1)++a.extract 0 i++r.reverse),i,j-1,r,g,k,bc)) else do
  let z <-gal' true (<-elem' a (i-1)) b 0 (j-1) (j-1-1)
  match z with
  |some y =>
   if j-1-y > 0 then
    if (y == 1)=true then pure (ForInStep.done (some (b.extract 0 y++a.extract 0 i++(r++(b.extract y (j-1)).reverse).reverse),i,y,r++(b.extract y (j-1)).reverse,g,k,j-1-y))
    else if (y == 0)=true then pure (ForInStep.done (some (a.extract 0 i++b.extract 0 y++(r++(b.extract y (j-1)).reverse).reverse),i,y,r++(b.extract y (j-1)).reverse,g,k,j-1-y))
    else QdL a b g k (j-1-y) i y (r++(b.extract y (j-1)).reverse)
   else QdL a b g k (j-1-y) i (j-1) r
  |_=>pure (ForInStep.done (some (a.extract 0 i++b.extract 0 (j-1)++r.reverse),i,j-1,r,g,k,bc))
noncomputable def QeL(a b:Array Keyed)(i j:Nat)(r:Array Keyed)(ac bc g:Nat):StateT SortSt Sem (ForInStep HiL):=do
 setG g
 let z <-gal' false (<-elem' b (j-1)) a 0 i (i-1)
 match z with
 |some y =>
  if i-y > 0 then
   if (y == 0)=true then pure (ForInStep.done (some (a.extract 0 y++b.extract 0 j++(r++(a.extract y i).reverse).reverse),y,j,r++(a.extract y i).reverse,g,i-y,bc))
   else QdM a b g (i-y) bc y j (r++(a.extract y i).reverse)
  else QdM a b g (i-y) bc i j r
 |_=>pure (ForInStep.done (some (a.extract 0 i++b.extract 0 j++r.reverse),i,j,r,g,ac,bc))
noncomputable def Qfx(a b:Array Keyed)(i j:Nat)(r:Array Keyed)(ac bc g:Nat):StateT SortSt Sem (ForInStep HiR):=do
 liftM (rule "list.sort.gallop")
 let c <-forIn [0:a.size+b.size] ((none,i,j,r,g+1,ac,bc):HiL) λ_ c =>
  if c.snd.snd.snd.snd.fst > 1 then QeL a b c.snd.fst c.snd.snd.fst c.snd.snd.snd.fst c.snd.snd.snd.snd.snd.fst c.snd.snd.snd.snd.snd.snd (c.snd.snd.snd.snd.fst-1)
  else QeL a b c.snd.fst c.snd.snd.fst c.snd.snd.snd.fst c.snd.snd.snd.snd.snd.fst c.snd.snd.snd.snd.snd.snd c.snd.snd.snd.snd.fst
 match c.fst with
 |some o=>pure (ForInStep.done (some o,c.snd.fst,c.snd.snd.fst,c.snd.snd.snd.fst,c.snd.snd.snd.snd.fst))
 |none=>do
  setG (c.snd.snd.snd.snd.fst+1)
  pure (ForInStep.yield (none,c.snd.fst,c.snd.snd.fst,c.snd.snd.snd.fst,c.snd.snd.snd.snd.fst+1))
noncomputable def Qfy(a b:Array Keyed)(i j:Nat)(r:Array Keyed)(g:Nat):StateT SortSt Sem (ForInStep HiR):=do
 let c <-forIn [0:a.size+b.size] ((none,i,j,r,0,0):HiO) λ_ c=>QlX a b g c.snd.fst c.snd.snd.fst c.snd.snd.snd.fst c.snd.snd.snd.snd.fst c.snd.snd.snd.snd.snd
 match c.fst with
 |some o=>pure (ForInStep.done (some o,c.snd.fst,c.snd.snd.fst,c.snd.snd.snd.fst,g))
 |none=>Qfx a b c.snd.fst c.snd.snd.fst c.snd.snd.snd.fst c.snd.snd.snd.snd.fst c.snd.snd.snd.snd.snd g
noncomputable def QnJ(a b r:Array Keyed)(g:Nat):StateT SortSt Sem (Array Keyed):=do
 let c <-forIn [0:a.size+b.size] ((none,a.size-1,b.size,r,g):HiR) λ_ c=>Qfy a b c.snd.fst c.snd.snd.fst c.snd.snd.snd.fst c.snd.snd.snd.snd
 match c.fst with
 |some o=>pure o
 |none=>liftM (unsupported "internal:list.sort.merge-bound")
theorem QnK(a b:Array Keyed):mhi' a b=(do
 liftM (rule "list.sort.merge-hi")
 let x <-elem' a (a.size-1)
 if (a.size-1 == 0)=true then pure (a.extract 0 (a.size-1)++b.extract 0 b.size++(#[x]:Array Keyed).reverse)
 else if (b.size == 1)=true then pure (b.extract 0 b.size++a.extract 0 (a.size-1)++(#[x]:Array Keyed).reverse)
 else do
  let t <-get
  QnJ a b #[x] (gallopOf t)):=by
 kernel_rfl
theorem MidH.popA{a b r:Array Keyed}{i j:Nat}(M:MidH a b r i j)(h0:0<i)(h:i-1<a.size)(c:∀m,m<j->m<b.size->K b m<=K a (i-1)):MidH a b (r.push a[i-1]) (i-1) j:=by
 obtain⟨n,rfl⟩:∃n,i=n+1:=⟨i-1,(W5 h0).symm⟩
 exact M.pushA h c
theorem MidH.popB{a b r:Array Keyed}{i j:Nat}(M:MidH a b r i j)(h0:0<j)(h:j-1<b.size)(c:∀m,m<i->m<a.size->K a m<=K b (j-1)):MidH a b (r.push b[j-1]) i (j-1):=by
 obtain⟨n,rfl⟩:∃n,j=n+1:=⟨j-1,(W5 h0).symm⟩
 exact M.pushB h c
structure AmH(a b r:Array Keyed)(i j n:Nat):Prop where
 mid:MidH a b r i j
 hi:0<i
 hj:1<j
 hn:n<=r.size
noncomputable def PoH(st:SortSt)(a b:Array Keyed)(n N:Nat):ForInStep HiO->SortSt->Prop
 |.done c,st'=>st'=st/\((∃out i j r ac bc,c=(some out,i,j,r,ac,bc)/\Mrg out a b)\/∃i j r ac bc,c=(none,i,j,r,ac,bc)/\AmH a b r i j n)
 |.yield c,st'=>st'=st/\∃i j r ac bc,c=(none,i,j,r,ac,bc)/\AmH a b r i j N
noncomputable def PlH(st:SortSt)(a b:Array Keyed)(n N:Nat):ForInStep HiL->SortSt->Prop
 |.done c,st'=>Alike st st'/\((∃out i j r g ac bc,c=(some out,i,j,r,g,ac,bc)/\Mrg out a b)\/∃i j r g ac bc,c=(none,i,j,r,g,ac,bc)/\AmH a b r i j n)
 |.yield c,st'=>Alike st st'/\∃i j r g ac bc,c=(none,i,j,r,g,ac,bc)/\AmH a b r i j N
noncomputable def PbH(st:SortSt)(a b:Array Keyed)(N:Nat):ForInStep HiR->SortSt->Prop
 |.done c,st'=>Alike st st'/\∃out i j r g,c=(some out,i,j,r,g)/\Mrg out a b
 |.yield c,st'=>Alike st st'/\∃i j r g,c=(none,i,j,r,g)/\AmH a b r i j N
section
variable{prog:Program}{w:World}{A:Around}{E:Value->Shared->Prop}{s:Shared}
variable{st st2:SortSt}{a b r:Array Keyed}{i j n N g:Nat}
theorem AmH.no(M:AmH a b r i j n)(h:a.size+b.size<=n):False:=by
 have:=M.mid.size
 have:=M.hi
 have:=M.hn
 omega
theorem AmH.ia(M:AmH a b r i j n):i-1<a.size:=Uq (Rr M.hi) M.mid.hi
theorem AmH.jb(M:AmH a b r i j n):j-1<b.size:=Uq (Rr M.hj) M.mid.hj
theorem AmH.popA(M:AmH a b r i j n)(c:∀m,m<j->m<b.size->K b m<=K a (i-1))(e:¬i-1=0)(hN:N<=n+1):AmH a b (r.push (a[i-1]'M.ia)) (i-1) j N :=
 ⟨M.mid.popA M.hi M.ia c,WI e,M.hj,by rw[Wq];exact Ut hN (We M.hn)⟩
theorem AmH.popB(M:AmH a b r i j n)(c:∀m,m<i->m<a.size->K a m<=K b (j-1))(e:¬j-1=1)(hN:N<=n+1):AmH a b (r.push (b[j-1]'M.jb)) i (j-1) N :=
 ⟨M.mid.popB (Tr M.hj) M.jb c,M.hi,by have:=M.hj;omega,by rw[Wq];exact Ut hN (We M.hn)⟩
theorem QjW{ac bc:Nat}(T:Two a b)(hk:kindOf st=oneType')(M:AmH a b r i j n)(hN:N<=n+1):
  wpS (model prog w) A E s (QlX a b g i j r ac bc) (PoH st a b N N) st:=by
 have hi:=M.ia
 have hj:=M.jb
 unfold QlX
 refine Uj (QJ hj (Uj (QJ hi (Uj (Qix hk (T.kb _ (UU hj)) (T.ka _ (UU hi)) ?_)))))
 rw[YL hj,YL hi]
 by_cases hw:K b (j-1)<K a (i-1)
 ·refine Qr (UC hw) (Uj (QJ hi ?_))
  have c:∀m,m<j->m<b.size->K b m<=K a (i-1):=λm h1 _=>UP (T.sb m (j-1) (RS h1) hj) (Tm hw)
  by_cases e:i-1=0
  ·exact Qr (Q0 e) (Um ⟨rfl,.inl ⟨_,_,_,_,_,_,rfl,(M.mid.popA M.hi hi c).endA e⟩⟩)
  have M':=M.popA c e hN
  exact Qs (Zy e) (QeJ (Um ⟨rfl,.inr ⟨_,_,_,_,_,rfl,M'⟩⟩) (Um ⟨rfl,_,_,_,_,_,rfl,M'⟩))
 ·refine Qs (Qck hw) (Uj (QJ hj ?_))
  have c:∀m,m<i->m<a.size->K a m<=K b (j-1):=λm h1 _=>UP (T.sa m (i-1) (RS h1) hi) (RL.mp hw)
  by_cases e:j-1=1
  ·exact Qr (Q0 e) (Um ⟨rfl,.inl ⟨_,_,_,_,_,_,rfl,(M.mid.popB (Tr M.hj) hj c).firstB e T.sa T.c0⟩⟩)
  have M':=M.popB c e hN
  exact Qs (Zy e) (QeJ (Um ⟨rfl,.inr ⟨_,_,_,_,_,rfl,M'⟩⟩) (Um ⟨rfl,_,_,_,_,_,rfl,M'⟩))
theorem Qdi{k k2:Nat}(al:Alike st st2)(M:AmH a b r i j n)(c:∀m,m<j->m<b.size->K b m<=K a (i-1))(hN:N<=n+1):
  wpS (model prog w) A E s (QdL a b g k k2 i j r) (PlH st a b N N) st2:=by
 unfold QdL
 refine Uj (QJ M.ia ?_)
 by_cases e:i-1=0
 ·exact Qr (Q0 e) (Um ⟨al,.inl ⟨_,_,_,_,_,_,_,rfl,(M.mid.popA M.hi M.ia c).endA e⟩⟩)
 have M':=M.popA c e hN
 exact Qs (Zy e) (QeJ (Um ⟨al,.inr ⟨_,_,_,_,_,_,rfl,M'⟩⟩) (Um ⟨al,_,_,_,_,_,_,rfl,M'⟩))
theorem QnL{r x:Array Keyed}{n:Nat}(h:n<=r.size):n<=(r++x).size:=by
 rw[WV];exact Ut h (Rh _ _)
theorem Qdj{k bc:Nat}(T:Two a b)(al:Alike st st2)(k2:kindOf st2=oneType')(M:AmH a b r i j n)(c:∀m,m<i->m<a.size->K a m<=K b (j-1))(hN:N<=n+1):
  wpS (model prog w) A E s (QdM a b g k bc i j r) (PlH st a b N N) st2:=by
 have hi:=M.ia
 have hj:=M.jb
 unfold QdM
 refine Uj (QJ hj ?_)
 by_cases e:j-1=1
 ·exact Qr (Q0 e) (Um ⟨al,.inl ⟨_,_,_,_,_,_,_,rfl,(M.mid.popB (Tr M.hj) hj c).firstB e T.sa T.c0⟩⟩)
 have M2:AmH a b (r.push b[j-1]) i (j-1) n:=M.popB c e (Wk n)
 refine Qs (Zy e) (Uj (QJ hi (Uj ?_)))
 refine Qbi k2 (T.ka _ (UU hi)) T.kb (by rw[Rx];exact U3 hj) (Rr (Tr M2.hj)) (λx y h1 h2=>T.sb _ _ (Tt h1 _) (by rw[Rx];exact Nat.lt_trans h2 hj)) λy hy pk qk=>?_
 rw[YL hi]at pk qk
 simp only[Rx]at pk qk
 have R:∀m,m<y->K b m<=K a (i-1):=λm h=>Tm (UJ (pk m h))
 have R':∀m,y<=m->m<j-1->K a (i-1)<=K b m:=λm h1 h2=>RL.mp (T0 (qk m h1 h2))
 by_cases h0:j-1-y > 0
 ·refine Qr h0 ?_
  have M3:=M2.mid.manyB (k:=y) hy λm n h1 h2 h3 h4=>UP (T.sa n (i-1) (RS h3) hi) (R' m h1 h2)
  by_cases e:y=1
  ·exact Qr (Q0 e) (Um ⟨al,.inl ⟨_,_,_,_,_,_,_,rfl,M3.firstB e T.sa T.c0⟩⟩)
  refine Qs (Zy e) ?_
  by_cases e2:y=0
  ·exact Qr (Q0 e2) (Um ⟨al,.inl ⟨_,_,_,_,_,_,_,rfl,M3.endB e2⟩⟩)
  exact Qs (Zy e2) (Qdi (n:=n) al ⟨M3,M.hi,by omega,QnL M2.hn⟩ (λm h _=>R m h) hN)
 ·exact Qs h0 (Qdi al M2 (λm h _=>R m (Uq h (by omega))) hN)
theorem QiB{ac bc:Nat}(T:Two a b)(hk:kindOf st=oneType')(al0:Alike st st2)(M:AmH a b r i j n)(hN:N<=n+1):
  wpS (model prog w) A E s (QeL a b i j r ac bc g) (PlH st a b N N) st2:=by
 have hj:=M.jb
 unfold QeL
 refine Uj (QdK λst3 h3=>?_)
 have al:=h3 _ al0
 have k2:=al.1.trans hk
 refine Uj (QJ hj (Uj ?_))
 refine Qbi k2 (T.kb _ (UU hj)) T.ka (by rw[Rx];exact M.mid.hi) (Rr M.hi) (λx y h1 h2=>T.sa _ _ (Tt h1 _) (by rw[Rx];exact Uq h2 M.mid.hi)) λy hy pk qk=>?_
 rw[YL hj]at pk qk
 simp only[Rx]at pk qk
 have R:∀m,m<y->K a m<=K b (j-1):=λm h=>UJ (pk m h)
 have R':∀m,y<=m->m<i->K b (j-1)<=K a m:=λm h1 h2=>Tm (Int.not_le.mp (T0 (qk m h1 h2)))
 by_cases h0:i-y > 0
 ·refine Qr h0 ?_
  have M3:=M.mid.manyA (k:=y) hy λm n h1 h2 h3 h4=>UP (T.sb n (j-1) (RS h3) hj) (R' m h1 h2)
  by_cases e2:y=0
  ·exact Qr (Q0 e2) (Um ⟨al,.inl ⟨_,_,_,_,_,_,_,rfl,M3.endA e2⟩⟩)
  exact Qs (Zy e2) (Qdj (n:=n) T al k2 ⟨M3,WI e2,M.hj,QnL M.hn⟩ (λm h _=>R m h) hN)
 ·exact Qs h0 (Qdj T al k2 M (λm h _=>R m (Uq h (by omega))) hN)
theorem Qhd{ac bc:Nat}(T:Two a b)(hk:kindOf st=oneType')(al:Alike st st2)(M:AmH a b r i j n):
  wpS (model prog w) A E s (Qfx a b i j r ac bc g) (PbH st a b n) st2:=by
 unfold Qfx
 refine Uj (Bf (Rc ⟨rfl,?_⟩))
 refine Uj (U7 (I:=λy c st'=>Alike st st'/\∃i j r g ac bc,c=(none,i,j,r,g,ac,bc)/\AmH a b r i j (n+y)) ?s2 ?f2 ⟨al,i,j,r,_,ac,bc,rfl,M⟩)
 case f2 =>
  rintro c st' ⟨_,i,j,r,g,ac,bc,rfl,M⟩
  exact(M.no (by omega)).elim
 case s2 =>
  rintro y c st' _ hy ⟨al,i,j,r,g,ac,bc,rfl,M⟩
  have fin:∀g,wpS (model prog w) A E s (QeL a b i j r ac bc g) (λr st'=>match r with
    |.done c=>wpS (model prog w) A E s (match c.fst with
      |some o=>pure (ForInStep.done (some o,c.snd.fst,c.snd.snd.fst,c.snd.snd.snd.fst,c.snd.snd.snd.snd.fst))
      |none=>do
       setG (c.snd.snd.snd.snd.fst+1)
       pure (ForInStep.yield (none,c.snd.fst,c.snd.snd.fst,c.snd.snd.snd.fst,c.snd.snd.snd.snd.fst+1)):StateT SortSt Sem (ForInStep HiR)) (PbH st a b n) st'
    |.yield c=>Alike st st'/\∃i j r g ac bc,c=(none,i,j,r,g,ac,bc)/\AmH a b r i j (n+(y+1))) st':=λg =>
   Tz (QiB (N:=n+(y+1)) T hk al M (Uc _)) λq st4 hq=>by
    cases q with
    |yield c=>exact hq
    |done c =>
     obtain⟨al4,(⟨out,i,j,r,g,ac,bc,rfl,R⟩|⟨i,j,r,g,ac,bc,rfl,M⟩)⟩:=hq
     ·exact Um ⟨al4,_,_,_,_,_,rfl,R⟩
     ·exact Uj (QdK λst5 h5=>Um ⟨h5 _ al4,_,_,_,_,rfl,M.mid,M.hi,M.hj,Tg M.hn⟩)
  exact QeJ (Tz (fin _) λq _ h=>by cases q <;> exact h) (Tz (fin _) λq _ h=>by cases q <;> exact h)
theorem Qhe(T:Two a b)(hk:kindOf st=oneType')(al:Alike st st2)(M:AmH a b r i j n):
  wpS (model prog w) A E s (Qfy a b i j r g) (PbH st a b (n+1)) st2:=by
 unfold Qfy
 refine Uj (U7 (I:=λy c st'=>st'=st2/\∃i j r ac bc,c=(none,i,j,r,ac,bc)/\AmH a b r i j (n+y)) ?s1 ?f1 ⟨rfl,i,j,r,0,0,rfl,M⟩)
 case f1 =>
  rintro c st' ⟨_,i,j,r,ac,bc,rfl,M⟩
  exact(M.no (by omega)).elim
 case s1 =>
  rintro y c st' _ hy ⟨rfl,i,j,r,ac,bc,rfl,M⟩
  refine Tz (QjW (N:=n+(y+1)) T (al.1.trans hk) M (Uc _)) λq st4 hq=>?_
  cases q with
  |yield c=>exact hq
  |done c =>
   obtain⟨rfl,(⟨out,i,j,r,ac,bc,rfl,R⟩|⟨i,j,r,ac,bc,rfl,M⟩)⟩:=hq
   ·exact Um ⟨al,_,_,_,_,_,rfl,R⟩
   ·exact Qhd T hk al ⟨M.mid,M.hi,M.hj,Ut (Tt (We (Tc y)) n) M.hn⟩
theorem QnM{Q:Array Keyed->SortSt->Prop}(T:Two a b)(hk:kindOf st=oneType')(na:0<a.size)(nb:0<b.size)(h:∀out st',Alike st st'->Mrg out a b->Q out st'):wpS (model prog w) A E s (mhi' a b) Q st:=by
 have e:∀x:Array Keyed,x.toList.take x.size=x.toList:=λx=>RN (by rw[Uo];exact Uc _)
 have M0:MidH a b #[] a.size b.size:=by
  refine⟨⟨?_,?_,?_⟩,Uc _,Uc _⟩
  ·rw[e,e];simp
  ·rw[e];simpa using Qgq T.sa
  ·rw[e];simpa using Qgq T.sb
 have ha1:a.size-1<a.size:=Rr na
 have M1:MidH a b #[a[a.size-1]] (a.size-1) b.size:=M0.popA na ha1 λm _ hm=>T.cl m hm
 rw[QnK]
 refine Uj (Bf (Rc ⟨rfl,Uj (QJ ha1 ?_)⟩))
 by_cases e1:a.size-1=0
 ·exact Qr (Q0 e1) (Um (h _ _ (.refl st) (M1.endA e1)))
 refine Qs (Zy e1) ?_
 by_cases e2:b.size=1
 ·exact Qr (Q0 e2) (Um (h _ _ (.refl st) (M1.firstB e2 T.sa T.c0)))
 refine Qs (Zy e2) (Uj (WO ?_))
 unfold QnJ
 refine Uj (U7 (I:=λx c st'=>Alike st st'/\∃i j r g,c=(none,i,j,r,g)/\AmH a b r i j (x+1)) ?step ?fin ⟨.refl st,_,_,_,_,rfl,M1,WI e1,by omega,Uc 1⟩)
 case fin =>
  rintro c st' ⟨_,i,j,r,g,rfl,M⟩
  exact(M.no (by omega)).elim
 case step =>
  rintro x c st' _ hx ⟨al,i,j,r,g,rfl,M⟩
  refine Tz (Qhe T hk al M) λq st4 hq=>?_
  cases q with
  |yield c=>exact hq
  |done c =>
   obtain⟨al4,out,i,j,r,g,rfl,R⟩:=hq
   exact Um (h out _ al4 R)
end
noncomputable def lay(xs:Array Keyed)(p:Nat)(l:List Keyed)(n:Nat):Array Keyed:=(l.zipIdx n).foldl (λy (v,k)=>y.setIfInBounds (p+k) v) xs
theorem QnN(i:Nat):mergeAt' i=(do
 let z <-get
 let (some (u,m,pw),some (v,n,_)):=((pendingOf z)[i]?,(pendingOf z)[i+1]?)|unsupported "internal:list.sort.pending"
 set (setPending z (((pendingOf z).setIfInBounds i (u,m+n,pw)).eraseIdxIfInBounds (i+1)))
 let some k <-gal' false (<-elem' (arrOf z) v) (arrOf z) u m 0|return false
 if m-k == 0 then return true
 let some n <-gal' true (<-elem' (arrOf z) (u+k+(m-k) - 1)) (arrOf z) v n (n-1)|return false
 if n == 0 then return true
 let out <-if m-k<=n then mlo' ((arrOf z).extract (u+k) v) ((arrOf z).extract v (v+n)) else mhi' ((arrOf z).extract (u+k) v) ((arrOf z).extract v (v+n))
 modify λz=>setArr z (lay (arrOf z) (u+k) out.toList 0)
 return (failedOf (<-get)).isNone):=by rfl
theorem Qgt(p:Nat):∀(l:List Keyed)(n:Nat)(xs:Array Keyed),p+n+l.length<=xs.size ->
  (lay xs p l n).toList=xs.toList.take (p+n)++(l++xs.toList.drop (p+n+l.length))
 |[],n,xs,_=>by
  show xs.toList=_
  rw[List.length_nil,Bg,RD,Tj]
 |v::l,n,xs,h=>by
  rw[US]at h ⊢
  have ih:=Qgt p l (n+1) (xs.setIfInBounds (p+n) v) (by rw[Array.size_setIfInBounds];omega)
  have e:lay xs p (v::l) n=lay (xs.setIfInBounds (p+n) v) p l (n+1):=rfl
  rw[e,ih,WB]
  have hl:p+n<xs.toList.length:=by rw[Uo];(clear ih e;omega)
  rw[show p+(n+1)=p+n+1 by(clear h ih e hl;omega),UN (by rw[T9];exact hl),List.getElem_set_self,List.take_set_of_le (Uc _),
   List.drop_set_of_lt (by(clear h ih e hl;omega)),UG,show p+n+1+l.length=p+n+(l.length+1) by(clear h ih e hl;omega)]
  rfl
noncomputable def Kl(l:List Keyed)(i:Nat):Int:=match l[i]? with
 |some p=>nk p
 |none=>0
theorem K_l(xs:Array Keyed)(i:Nat):K xs i=Kl xs.toList i:=by
 unfold K Kl
 rw[T4]
 cases xs[i]? <;> rfl
theorem QnO{l:List Keyed}{i:Nat}(h:i<l.length):∃x∈l,Kl l i=nk x:=⟨l[i],UK h,by unfold Kl;rw[UL h]⟩
theorem QnP{l:List Keyed}(h:Srt l){i j:Nat}(hij:i<=j)(hj:j<l.length):Kl l i<=Kl l j:=by
 unfold Kl
 rw[UL hj,UL (WJ hij hj)]
 by_cases e:i=j
 ·subst e;exact UZ _
 ·exact T7.mp h i j _ hj (by(clear hj;omega))
def SOn(xs:Array Keyed)(lo hi:Nat):Prop:=∀i j,lo<=i->i<=j->j<hi->K xs i<=K xs j
theorem QnQ{xs out:Array Keyed}{u p q v e:Nat}(hup:u<=p)(hpv:p<v)(hvq:v<=q)(hqe:q<=e)(he:e<=xs.size)(s1:SOn xs u v)(s2:SOn xs v e)(c1:∀m,u<=m->m<p->K xs m<=K xs v)(c2:∀m,q<=m->m<e->K xs (v-1)<=K xs m)(hm:Mrg out (xs.extract p v) (xs.extract v q)):
  (lay xs p out.toList 0).toList.Perm xs.toList/\SOn (lay xs p out.toList 0) u e/\∀m,m<p\/q<=m->K (lay xs p out.toList 0) m=K xs m:=by
 have hlen:out.toList.length=q-p:=by
  have:=hm.1.length_eq
  rw[Us,QaS,QaS,Th,Th,TD,TD,Uo (xs:=xs)]at this
  (clear hup hm;omega)
 have hL:=Qgt p out.toList 0 xs (by(clear hup hm;omega))
 rw[Bg,hlen,show p+(q-p)=q by(clear hup hqe he hm hlen hL;omega)]at hL
 have hxy:xs.toList=xs.toList.take p++((xs.extract p v).toList++(xs.extract v q).toList++xs.toList.drop q):=by
  rw[QaS,QaS]
  conv=>lhs;rw[<-Tj p xs.toList]
  congr 1
  conv=>lhs;rw[<-Tj (q-p) (xs.toList.drop p),WL,show p+(q-p)=q by(clear hup hqe he hm hlen hL;omega)]
  congr 1
  rw[show q-p=(v-p)+(q-v) by(clear hup hqe he hm hlen hL;omega),List.take_add,WL,show p+(v-p)=v by(clear hup hvq hqe he hm hlen hL;omega)]
 have ltp:(xs.toList.take p).length=p:=by rw[Th,Uo];(clear hup hm hlen hL hxy;omega)
 -- the cells
 have kIn:∀m,p<=m->m<q->K (lay xs p out.toList 0) m=Kl out.toList (m-p):=λm h1 h2=>by
  rw[K_l,hL]
  unfold Kl
  rw[Ux (by(clear hup hpv hvq hqe he hm hlen hL hxy h2;omega)),ltp,UA (by(clear hup hqe he hm hL hxy;omega))]
 have kOut:∀m,m<p\/q<=m->K (lay xs p out.toList 0) m=K xs m:=λm h=>by
  rw[K_l,hL,K_l]
  unfold Kl
  rcases h with h|h
  ·rw[UA (by(clear hup hpv hvq hqe he hm hlen hL hxy;omega)),WX h]
  ·rw[Ux (by(clear hup hqe he hm hlen hL hxy;omega)),ltp,Ux (by(clear hup hqe he hm hL hxy;omega)),hlen,List.getElem?_drop,show q+(m-p - (q-p))=m by(clear hup hqe he hm hlen hL hxy;omega)]
 have kMem:∀m,p<=m->m<q->∃n,p<=n/\n<q/\K (lay xs p out.toList 0) m=K xs n:=λm h1 h2=>by
  rw[kIn m h1 h2]
  obtain⟨x,hx,e⟩:=QnO (l:=out.toList) (i:=m-p) (by(clear hup hqe he hm hL hxy;omega))
  rcases UX.mp (hm.1.mem_iff.mp hx) with hx|hx
  ·rw[QaS]at hx
   obtain⟨n,h3,h4,_,e'⟩:=J9 hx
   exact⟨n,h3,by(clear hup hqe he hm hlen hL hxy h1 h2 e h3 e';omega),e.trans e'⟩
  ·rw[QaS]at hx
   obtain⟨n,h3,h4,_,e'⟩:=J9 hx
   exact⟨n,by(clear hup hvq hqe he hm hlen hL hxy h1 h2 e h4 e';omega),by(clear hup hpv hqe he hm hlen hL hxy ltp h1 h2 e h3 e';omega),e.trans e'⟩
 refine⟨?_,?_,kOut⟩
 ·rw[hL]
  conv=>rhs;rw[hxy]
  exact R0 _ (RO _ hm.1)
 ·intro i j hi hij hj
  by_cases a1:i<p
  ·rw[kOut i (.inl a1)]
   by_cases b1:j<p
   ·rw[kOut j (.inl b1)];exact s1 i j hi hij (by(clear hup hvq hqe he hm hlen hL hxy hi hij hj a1;omega))
   by_cases b2:j<q
   ·obtain⟨n,h3,h4,en⟩:=kMem j (by(clear hup hpv hvq hqe he hm hlen hL hxy hi hij hj a1 b2;omega)) b2
    rw[en]
    by_cases h5:n<v
    ·exact s1 i n hi (by(clear hup hpv hvq hqe he hm hlen hL hxy hi hij hj b1 b2 h4 en h5;omega)) h5
    ·exact UP (c1 i hi a1) (s2 v n (Uc _) (by(clear hup hpv hvq hqe he hm hlen hL hxy ltp hi hij hj a1 b1 b2 h3 h4 en;omega)) (by(clear hup hpv hvq he hm hlen hL hxy ltp hi hij hj a1 b1 b2 h3 en h5;omega)))
   ·rw[kOut j (.inr (by(clear hup hpv hvq hqe he hm hlen hL hxy ltp hi hij hj a1 b1;omega)))]
    exact UP (c1 i hi a1) (s2 v j (Uc _) (by(clear hup hpv hqe he hm hlen hL hxy ltp hi hij hj a1 b1;omega)) hj)
  by_cases a2:i<q
  ·by_cases b2:j<q
   ·rw[kIn i (by(clear hup hpv hvq hqe he hm hlen hL hxy hi hij hj a2 b2;omega)) a2,kIn j (by(clear hup hpv hvq hqe he hm hlen hL hxy hi hj a2 b2;omega)) b2]
    exact QnP hm.2 (by(clear hup hpv hvq hqe he hm hlen hL hxy hi hj a2 b2;omega)) (by(clear hup hqe he hm hL hxy hi hj a2;omega))
   ·obtain⟨n,h3,h4,en⟩:=kMem i (by(clear hup hpv hvq hqe he hm hlen hL hxy hi hij hj a2 b2;omega)) a2
    rw[en,kOut j (.inr (by(clear hup hpv hvq hqe he hm hlen hL hxy ltp hi hij hj a1 a2 h3 h4 en;omega)))]
    by_cases h5:n<v
    ·exact UP (s1 n (v-1) (by(clear hpv hvq hqe he hm hlen hL hxy hi hij hj a1 a2 b2 h4 en h5;omega)) (by(clear hup hpv hvq hqe he hm hlen hL hxy ltp hi hij hj a1 a2 b2 h3 h4 en;omega)) (by(clear hup hpv hvq hqe he hm hlen hL hxy ltp hi hij hj a1 a2 b2 h3 h4 en;omega))) (c2 j (by(clear hup hpv hvq hqe he hm hlen hL hxy ltp hi hij hj a1 a2 h3 h4 en h5;omega)) hj)
    ·exact s2 n j (by(clear hup hpv hvq hqe he hm hlen hL hxy ltp hi hij hj a1 a2 b2 h3 h4 en;omega)) (by(clear hup hpv hvq hqe he hm hlen hL hxy ltp hi hij hj a1 a2 h3 en h5;omega)) hj
  ·rw[kOut i (.inr (by(clear hup hpv hvq hqe he hm hlen hL hxy ltp hi hij hj a1;omega))),kOut j (.inr (by(clear hup hpv hvq hqe he hm hlen hL hxy ltp hi hj a1;omega)))]
   exact s2 i j (by(clear hup hpv hqe he hm hlen hL hxy ltp hi hij hj a1;omega)) hij hj
section
variable{prog:Program}{w:World}{A:Around}{E:Value->Shared->Prop}{s:Shared}
theorem QnR{σ:Type}{M:Model}{x:σ}{Q:PUnit->σ->Prop}{st:σ}(h:Q ⟨⟩ x):wpS M A E s (set x:StateT σ Sem PUnit) Q st:=by
 unfold wpS;rw[StateT.run_set];exact Uh ⟨rfl,h⟩
theorem Qhf{xs:Array Keyed}{p q i:Nat}(hq:q<=xs.size)(hi:p+i<q):K (xs.extract p q) i=K xs (p+i) :=
 K_congr (by rw[Array.getElem?_extract,Ud (by omega)])
theorem QdN{xs:Array Keyed}{p q:Nat}(hq:q<=xs.size):(xs.extract p q).size=q-p:=by
 rw[Array.size_extract];omega
theorem QkV{xs:Array Keyed}(h:∀x∈xs,KI x)(p q:Nat):∀x∈xs.extract p q,KI x:=λx hx=>by
 have h1:=Td.mpr hx
 rw[QaS]at h1
 exact h x (Td.mp (List.mem_of_mem_drop (List.mem_of_mem_take h1)))
theorem Qgu{xs:Array Keyed}{p q:Nat}(hq:q<=xs.size)(h:SOn xs p q):SortedTo (xs.extract p q) (xs.extract p q).size:=λi j hij hj=>by
 rw[QdN hq]at hj
 rw[Qhf hq (by(clear hq;omega)),Qhf hq (by(clear hq;omega))]
 exact h _ _ (by(clear hq hij hj;omega)) (by(clear hq hj;omega)) (by(clear hq;omega))
theorem QnS{st:SortSt}{i u m pw v n pw2:Nat}{Q:Bool->SortSt->Prop}(hk:kindOf st=oneType')(hf:failedOf st=none)(ki:∀x∈arrOf st,KI x)(p1:(pendingOf st)[i]?=some (u,m,pw))(p2:(pendingOf st)[i+1]?=some (v,n,pw2))(hv:v=u+m)(hm:0<m)(hn:0<n)(he:v+n<=(arrOf st).size)(s1:SOn (arrOf st) u v)(s2:SOn (arrOf st) v (v+n))(h:∀st',kindOf st'=oneType'->failedOf st'=none->pendingOf st'=((pendingOf st).setIfInBounds i (u,m+n,pw)).eraseIdxIfInBounds (i+1) ->
   (arrOf st').toList.Perm (arrOf st).toList->SOn (arrOf st') u (v+n)->(∀k,k<u\/v+n<=k->K (arrOf st') k=K (arrOf st) k)->Q true st'):
  wpS (model prog w) A E s (mergeAt' i) Q st:=by
 subst hv
 rw[QnN]
 refine Uj (WO ?_)
 rw[p1,p2]
 dsimp only
 refine Uj (QnR ?_)
 have hv':u+m<(arrOf st).size:=by(clear hk hf p1 hm p2;omega)
 refine Uj (QJ hv' (Uj ?_))
 refine Qbi hk (ki _ (UU hv')) ki (by(clear hk hf p1 hm hn p2 he;omega)) hm (λi j h1 h2=>s1 _ _ (by(clear hk hf p1 hm hn p2 he hv' h1 h2;omega)) (by(clear hk hf p1 hm hn p2 he hv' h2;omega)) (by(clear hk hf p1 hm hn p2 he hv' h1;omega))) λk hkm pk qk=>?_
 rw[YL hv']at pk qk
 simp only[LK_f]at pk qk
 dsimp only
 have P:∀x,u<=x->x<u+k->K (arrOf st) x<=K (arrOf st) (u+m):=λx h1 h2=>by
  have:=UJ (pk (x-u) (by(clear hk hf p1 hm hn p2 he hv' hkm;omega)))
  rwa[show u+(x-u)=x by(clear hk hf p1 hm hn p2 he hv' hkm h2 this;omega)]at this
 -- nothing to do: sorted as it stands
 have asis:(∀x y,u<=x->x<u+m->u+m<=y->y<u+m+n->K (arrOf st) x<=K (arrOf st) y)->SOn (arrOf st) u (u+m+n):=λc x y h1 h2 h3=>by
  by_cases hy:y<u+m
  ·exact s1 x y h1 h2 hy
  ·by_cases hx:x<u+m
   ·exact c x y h1 hx (by(clear hk hf p1 hm hn p2 he hv' hkm h1 h2 h3 hx;omega)) h3
   ·exact s2 x y (by(clear hk hf p1 hm hn p2 he hv' hkm h1 h2 h3 hy;omega)) h2 h3
 by_cases e1:m-k=0
 ·refine Qr (Q0 e1) ?_
  exact Um (h _ hk hf rfl (List.Perm.refl _) (asis λx y h1 h2 h3 h4=>UP (P x h1 (by(clear hk hf p1 hm hn p2 he hv' h1 h3 h4;omega))) (s2 _ y (Uc _) h3 h4)) λ_ _=>rfl)
 refine Qs (Zy e1) ?_
 have hl:u+k+(m-k) - 1<(arrOf st).size:=by(clear hk hf p1 hn p2 he e1;omega)
 refine Uj (QJ hl (Uj ?_))
 refine Qbi hk (ki _ (UU hl)) ki (by(clear hk hf p1 hm hn p2 hv' hkm e1 hl;omega)) (by(clear hk hf p1 hm p2 he hv' hkm e1 hl;omega)) (λi j h1 h2=>s2 _ _ (by(clear hk hf p1 hm hn p2 he hv' hkm e1 hl h1 h2;omega)) (by(clear hk hf p1 hm hn p2 he hv' hkm e1 hl h2;omega)) (by(clear hk hf p1 hm hn p2 he hv' hkm e1 hl h1;omega))) λn2 hn2 rk tk=>?_
 rw[YL hl]at rk tk
 simp only[LK_t,show u+k+(m-k) - 1=u+m-1 by(clear hk hf p1 hn p2 he hv' e1 hl hn2;omega)]at rk tk
 dsimp only
 have T:∀y,u+m+n2<=y->y<u+m+n->K (arrOf st) (u+m-1)<=K (arrOf st) y:=λy h1 h2=>by
  have:=RL.mp (T0 (tk (y - (u+m)) (by(clear hk hf p1 hm hn p2 he hv' hkm e1 hl hn2 h2;omega)) (by(clear hk hf p1 hm hn p2 he hv' hkm e1 hl hn2;omega))))
  rwa[show u+m+(y - (u+m))=y by(clear hk hf p1 hm hn p2 he hv' hkm e1 hl hn2 h2 this;omega)]at this
 by_cases e2:n2=0
 ·refine Qr (Q0 e2) ?_
  exact Um (h _ hk hf rfl (List.Perm.refl _) (asis λx y h1 h2 h3 h4=>UP (s1 x (u+m-1) h1 (by(clear hk hf p1 hm hn p2 he hv' hkm e1 hl hn2 e2 h1 h3 h4;omega)) (by(clear hk hf p1 hm hn p2 he hv' hkm e1 hl hn2 e2 h1 h3 h4;omega))) (T y (by(clear hk hf p1 hm hn p2 he hv' hkm e1 hl hn2 h1 h2 h4;omega)) h4)) λ_ _=>rfl)
 refine Qs (Zy e2) ?_
 have z1:u+m<=(arrOf st).size:=by(clear hk hf p1 hm hn p2 he hkm e1 hl hn2 e2;omega)
 have z2:u+m+n2<=(arrOf st).size:=by(clear hk hf p1 hm hn p2 hv' hkm e1 hl e2 z1;omega)
 have S1:=QdN (p:=u+k) z1
 have S2:=QdN (p:=u+m) z2
 have hb:K ((arrOf st).extract (u+m) (u+m+n2)) 0<=K ((arrOf st).extract (u+k) (u+m)) 0:=by
  rw[Qhf z2 (by(clear hk hf p1 hm hn p2 he hv' e1 hl hn2 z1 z2 S1 S2;omega)),Qhf z1 (by(clear hk hf p1 hn p2 he hv' hl hn2 z1 z2 S1;omega))]
  exact Tm (Int.not_le.mp (T0 (qk k (Uc _) (by(clear hk hf p1 hn p2 he hv' hl hn2 z1 z2 S1;omega)))))
 have hc:∀x,x<((arrOf st).extract (u+m) (u+m+n2)).size->K ((arrOf st).extract (u+m) (u+m+n2)) x<=K ((arrOf st).extract (u+k) (u+m)) (((arrOf st).extract (u+k) (u+m)).size-1):=λx hx=>by
  rw[S2]at hx
  rw[S1,Qhf z2 (by(clear hk hf p1 hm hn p2 he hv' hkm e1 hl hn2 e2 z1 z2 S1 S2 hb;omega)),Qhf z1 (by(clear hk hf p1 hn p2 he hv' hl hn2 z1 z2 S1 hb hx;omega)),show u+k+(u+m - (u+k) - 1)=u+m-1 by(clear hk hf p1 hn p2 he hv' hl hn2 z1 z2 S1 hb hx;omega)]
  exact Tm (UJ (rk x (by(clear hk hf p1 hm hn p2 he hv' hkm e1 hl hn2 e2 z1 z2 S1 S2 hb;omega))))
 have done:∀out st',Alike (setPending st (((pendingOf st).setIfInBounds i (u,m+n,pw)).eraseIdxIfInBounds (i+1))) st'->Mrg out ((arrOf st).extract (u+k) (u+m)) ((arrOf st).extract (u+m) (u+m+n2)) ->
   wpS (model prog w) A E s (do
    modify λz=>setArr z (lay (arrOf z) (u+k) out.toList 0)
    return (failedOf (<-get)).isNone) Q st':=by
  intro out st' al hM
  refine Uj (WP (Uj (WO ?_)))
  have ea:arrOf st'=arrOf st:=al.2.1
  have ef:failedOf st'=none:=al.2.2.2.trans hf
  have L:=QnQ (xs:=arrOf st) (out:=out) (u:=u) (p:=u+k) (q:=u+m+n2) (v:=u+m) (e:=u+m+n) (by(clear hk hf p1 hm hn p2 he hv' hkm e1 hl hn2 e2 z1 z2 S1 S2 hb hM ea ef;omega)) (by(clear hk hf p1 hn p2 he hv' hl hn2 z1 z2 S1 hb hM ea ef;omega)) (by(clear hk hf p1 hm hn p2 he hv' hkm e1 hl hn2 e2 z1 z2 S1 S2 hb hM ea ef;omega)) (by(clear hk hf p1 hm hn p2 he hv' hkm e1 hl e2 z1 z2 S1 S2 hb hM ea ef;omega)) he s1 s2 P T hM
  rw[<-ea]at L
  show wpS _ _ _ _ (pure (failedOf st').isNone) _ _
  rw[ef]
  exact Um (h _ (al.1.trans hk) ef al.2.2.1 (by rw[<-ea];exact L.1) L.2.1 λx hx=>by rw[<-ea];exact L.2.2 x (by(clear hk hf p1 hm hn p2 he hv' hkm e1 hl e2 z1 z2 S1 S2 hb hM ea ef L;omega)))
 have T2:Two ((arrOf st).extract (u+k) (u+m)) ((arrOf st).extract (u+m) (u+m+n2)) :=
  ⟨QkV ki _ _,QkV ki _ _,Qgu z1 λx y h1 h2 h3=>s1 x y (Tg h1) h2 h3,Qgu z2 λx y h1 h2 h3=>s2 x y h1 h2 (Uq h3 (Tt hn2 _)),hb,hc⟩
 have d1:0<((arrOf st).extract (u+k) (u+m)).size:=by(clear hk hf p1 hn p2 he hv' hl hn2 z1 z2 hb;omega)
 have d2:0<((arrOf st).extract (u+m) (u+m+n2)).size:=by(clear hk hf p1 hm hn p2 he hv' e1 hl hn2 z1 z2 S1 hb d1;omega)
 by_cases e3:m-k<=n2
 ·exact Qr e3 (Uj <| QnI (st:=setPending st (((pendingOf st).setIfInBounds i (u,m+n,pw)).eraseIdxIfInBounds (i+1))) T2 hk d1 d2 done)
 ·exact Qs e3 (Uj <| QnM (st:=setPending st (((pendingOf st).setIfInBounds i (u,m+n,pw)).eraseIdxIfInBounds (i+1))) T2 hk d1 d2 done)
end
structure Chg(st st':SortSt)(lo hi:Nat):Prop where
 kind:kindOf st'=kindOf st
 failed:failedOf st'=failedOf st
 pend:pendingOf st'=pendingOf st
 perm:(arrOf st').toList.Perm (arrOf st).toList
 out:∀k,k<lo\/hi<=k->K (arrOf st') k=K (arrOf st) k
theorem Chg.refl(st:SortSt)(lo hi:Nat):Chg st st lo hi:=⟨rfl,rfl,rfl,List.Perm.refl _,λ_ _=>rfl⟩
theorem Chg.trans{st st' st'':SortSt}{lo hi:Nat}(a:Chg st st' lo hi)(b:Chg st' st'' lo hi):Chg st st'' lo hi :=
 ⟨b.kind.trans a.kind,b.failed.trans a.failed,b.pend.trans a.pend,b.perm.trans a.perm,λk h=>(b.out k h).trans (a.out k h)⟩
theorem Chg.size{st st':SortSt}{lo hi:Nat}(a:Chg st st' lo hi):(arrOf st').size=(arrOf st).size:=by
 have:=a.perm.length_eq
 rwa[Uo,Uo]at this
theorem Chg.ki{st st':SortSt}{lo hi:Nat}(a:Chg st st' lo hi)(h:∀x∈arrOf st,KI x):∀x∈arrOf st',KI x :=
 λx hx=>h x (Td.mp (a.perm.mem_iff.mp (Td.mpr hx)))
theorem Chg.wide{st st':SortSt}{lo hi lo' hi':Nat}(a:Chg st st' lo hi)(h1:lo'<=lo)(h2:hi<=hi'):Chg st st' lo' hi' :=
 ⟨a.kind,a.failed,a.pend,a.perm,λk h=>a.out k (by omega)⟩
def NOn(xs:Array Keyed)(lo hi:Nat):Prop:=∀i j,lo<=i->i<=j->j<hi->K xs j<=K xs i
theorem Qaa{st:SortSt}{i j:Nat}(hj:j<=(arrOf st).size):Chg st (setArr st (mirror (arrOf st) i j ((j-i) / 2))) i j :=
 ⟨rfl,rfl,rfl,Rs.mp (mirror_perm _ _ _ _),λk h=>by
  show K (mirror _ _ _ _) k=_
  rw[K_mirror hj,Ue (by(clear hj;omega))]⟩
section
variable{prog:Program}{w:World}{A:Around}{E:Value->Shared->Prop}{s:Shared}
theorem Qcl{st:SortSt}{i j:Nat}{Q:Option Bool->SortSt->Prop}(hk:kindOf st=oneType')(ki:∀x∈arrOf st,KI x)(hi:i<(arrOf st).size)(hj:j<(arrOf st).size)(h:Q (some (decide (K (arrOf st) i<K (arrOf st) j))) st):wpS (model prog w) A E s (ltAt' i j) Q st:=by
 rw[ltAt'_eq]
 refine Uj (WO ?_)
 refine Uj (QJ hi (Uj (QJ hj (Qix hk (ki _ (UU hi)) (ki _ (UU hj)) ?_))))
 rw[YL hi,YL hj]
 exact h
theorem QoZ(lo n ok:Nat):binarySort' lo n ok=(do
 for k in [max ok 1:n] do
  let mut l:=0
  let mut r:=k
  for _ in [0:k] do
   if l>=r then break
   let some y <-ltAt' (lo+k) (lo+(l+r) / 2)|return false
   if y then r:=(l+r) / 2 else l:=(l+r) / 2+1
  moveDown' (lo+k) (lo+l)
 return true):=by rfl
theorem Qo0{st:SortSt}{lo n ok:Nat}{Q:Bool->SortSt->Prop}(hk:kindOf st=oneType')(ki:∀x∈arrOf st,KI x)(hn:lo+n<=(arrOf st).size)(hok:ok<=n)(so:SOn (arrOf st) lo (lo+ok))(h:∀st',Chg st st' lo (lo+n)->SOn (arrOf st') lo (lo+n)->Q true st'):wpS (model prog w) A E s (binarySort' lo n ok) Q st:=by
 rw[QoZ]
 refine Uj (Tz (U7 (I:=λk c st'=>c=(none,())/\Chg st st' lo (lo+n)/\SOn (arrOf st') lo (lo+min k n))
  (Q:=λc st'=>c=(none,())/\Chg st st' lo (lo+n)/\SOn (arrOf st') lo (lo+n)) ?step ?fin ⟨rfl,.refl _ _ _,?init⟩) ?post)
 case post =>
  rintro c st' ⟨rfl,c',s'⟩
  exact Um (h st' c' s')
 case init =>
  intro i j h1 h2 h3
  by_cases e:i=j
  ·subst e;exact UZ _
  ·exact so i j h1 h2 (by(clear hk hn;omega))
 case fin =>
  rintro c st' ⟨rfl,c',s'⟩
  exact⟨rfl,c',by rwa[show min (max (max ok 1) n) n=n by(clear hk hn hok;omega)]at s'⟩
 case step =>
  rintro k c st' hak hkn ⟨rfl,C,S⟩
  rw[show min k n=k by(clear hk hn hok hak;omega)]at S
  have hz:lo+k<(arrOf st').size:=by rw[C.size];(clear hk hok hak;omega)
  refine Uj (Tz (U7 (I:=λx c st''=>st''=st'/\∃l r,c=(none,l,r)/\l<=r/\r<=k/\r-l<=k-x /\
    (∀i,i<l->K (arrOf st') (lo+i)<=K (arrOf st') (lo+k))/\(∀i,r<=i->i<k->K (arrOf st') (lo+k)<K (arrOf st') (lo+i)))
   (Q:=λc st''=>st''=st'/\∃l r,c=(none,l,r)/\l<=k /\
    (∀i,i<l->K (arrOf st') (lo+i)<=K (arrOf st') (lo+k))/\(∀i,l<=i->i<k->K (arrOf st') (lo+k)<K (arrOf st') (lo+i))) ?s1 ?f1
    ⟨rfl,0,k,rfl,by(clear hk hn hok hak hkn hz;omega),by(clear hk hn hok hak hkn hz;omega),by(clear hk hn hok hak hkn hz;omega),λi hi=>by(clear hk hn hok hak hkn hz;omega),λi h1 h2=>by(clear hk hn hok hak hkn hz;omega)⟩) ?p1)
  case f1 =>
   rintro c st'' ⟨rfl,l,r,rfl,a1,a2,a3,a4,a5⟩
   have e:l=r:=by(clear hk hn hok hak hkn hz a2;omega)
   subst e
   exact⟨rfl,l,l,rfl,a2,a4,a5⟩
  case s1 =>
   rintro x c st'' _ hx ⟨rfl,l,r,rfl,a1,a2,a3,a4,a5⟩
   dsimp only
   by_cases hge:l>=r
   ·refine Qr hge ?_
    have e:l=r:=by(clear hk hn hok hak hkn hx hz a2 a3;omega)
    subst e
    exact Um ⟨rfl,l,l,rfl,a2,a4,a5⟩
   ·refine Qs hge ?_
    refine Uj (Qcl (C.kind.trans hk) (C.ki ki) hz (by(clear hk hn hok hak hkn hx a1 a3;omega)) ?_)
    dsimp only
    by_cases hl:K (arrOf st'') (lo+k)<K (arrOf st'') (lo+(l+r) / 2)
    ·refine Qr (UC hl) ?_
     exact Um ⟨rfl,l,(l+r) / 2,rfl,by(clear hk hn hok hak hkn hx hz a1 a2 a3 hl;omega),by(clear hk hn hok hak hkn hx hz a1 a3 hl;omega),by(clear hk hn hok hak hkn hz a1 a2 hl;omega),a4,λi h1 h2=>Int.lt_of_lt_of_le hl (S _ _ (by(clear hk hn hok hak hkn hx hz a1 a2 a3 hl h1 h2;omega)) (by(clear hk hn hok hak hkn hx hz a1 a2 a3 hge hl h2;omega)) (by(clear hk hn hok hak hkn hx hz a1 a2 a3 hge hl h1;omega)))⟩
    ·refine Qs (Qck hl) ?_
     exact Um ⟨rfl,(l+r) / 2+1,r,rfl,by(clear hk hn hok hak hkn hx hz a1 a2 a3 hl;omega),by(clear hk hn hok hak hkn hx hz a1 a3 hge hl;omega),by(clear hk hn hok hak hkn hz a1 a2 hl;omega),λi h1=>UP (S _ (lo+(l+r) / 2) (by(clear hk hn hok hak hkn hx hz a1 a2 a3 hge hl h1;omega)) (by(clear hk hn hok hak hkn hx hz a1 a2 a3 hge hl;omega)) (by(clear hk hn hok hak hkn hx hz a1 a3 hl h1;omega))) (RL.mp hl),a5⟩
  case p1 =>
   rintro c st'' ⟨rfl,l,r,rfl,hl,a4,a5⟩
   dsimp only
   rw[moveDown'_eq]
   have kb:=λm=>K_bubble (xs:=arrOf st'') (src:=lo+k) (d:=lo+k - (lo+l)) hz (by(clear hk hn hok hak hkn hz;omega)) m
   rw[show lo+k - (lo+k - (lo+l))=lo+l by(clear hk hn hok hak hkn hz;omega)]at kb
   refine Uj (WP (Um ⟨rfl,C.trans ⟨rfl,rfl,rfl,Rs.mp (bubble_perm _ _ _),λm hm=>?_⟩,?_⟩))
   ·show K (bubble _ _ _) m=_
    rw[kb,Ue (by(clear hk hn hok hak hz;omega)),Ue (by(clear hk hn hok hak hz hl;omega))]
   ·rw[show min (k+1) n=k+1 by(clear hk hn hok hak hz hl;omega)]
    intro i j h1 h2 h3
    show K (bubble _ _ _) i<=K (bubble _ _ _) j
    have lo4:∀m,lo<=m->m<lo+l->K (arrOf st'') m<=K (arrOf st'') (lo+k):=λm q1 q2=>by
     have:=a4 (m-lo) (by(clear hk hn hok hak hkn hz hl h1 h2 h3;omega))
     rwa[show lo+(m-lo)=m by(clear hk hn hok hak hkn hz hl h1 h2 h3 q2 this;omega)]at this
    have hi5:∀m,lo+l<=m->m<lo+k->K (arrOf st'') (lo+k)<=K (arrOf st'') m:=λm q1 q2=>by
     have:=a5 (m-lo) (by(clear hk hn hok hak hkn hz hl h1 h2 h3 q2;omega)) (by(clear hk hn hok hak hkn hz hl h1 h2 h3;omega))
     rw[show lo+(m-lo)=m by(clear hk hn hok hak hkn hz hl h1 h2 h3 q2 this;omega)]at this
     exact Tm this
    rw[kb,kb]
    by_cases i1:i=lo+l
    ·rw[Ud i1]
     by_cases j1:j=lo+l
     ·rw[Ud j1];exact UZ _
     ·rw[Ue j1,Ud (by(clear hk hn hok hak hkn hz hl h1;omega))];exact hi5 _ (by(clear hk hn hok hak hkn hz hl h1 h3;omega)) (by(clear hk hn hok hak hkn hz hl h1;omega))
    ·rw[Ue i1]
     by_cases i2:lo+l<i/\i<=lo+k
     ·rw[Ud i2,Ue (by(clear hk hn hok hak hkn hz hl h1 h3 i1;omega)),Ud (by(clear hk hn hok hak hkn hz hl h1 i1;omega))]
      exact S _ _ (by(clear hk hn hok hak hkn hz hl h2 h3 i1;omega)) (by(clear hk hn hok hak hkn hz hl h1 h3 i1;omega)) (by(clear hk hn hok hak hkn hz hl h1 i1;omega))
     ·rw[Ue i2]
      by_cases j1:j=lo+l
      ·rw[Ud j1];exact lo4 _ h1 (by(clear hk hn hok hak hkn hz hl h1;omega))
      ·rw[Ue j1]
       by_cases j2:lo+l<j/\j<=lo+k
       ·rw[Ud j2];exact S _ _ h1 (by(clear hk hn hok hak hkn hz hl h1 i1;omega)) (by(clear hk hn hok hak hkn hz hl h1 h2 i1 i2 j1;omega))
       ·rw[Ue j2];exact S _ _ h1 h2 (by(clear hk hn hok hak hkn hz h1 h2 i1 i2;omega))
end
noncomputable def upL(lo b nr:Nat):StateT SortSt Sem (Option (Option Nat)×Nat) :=
 forIn [b:nr] ((none,b):Option (Option Nat)×Nat) λ_ c=>do
  let z <-ltAt' (lo+c.snd) (lo+c.snd-1)
  match z with
  |some y=>if y=true then pure (ForInStep.done (none,c.snd)) else pure (ForInStep.yield (none,c.snd+1))
  |_=>pure (ForInStep.done (some none,c.snd))
noncomputable def endP(lo n nr:Nat):StateT SortSt Sem (Option Nat):=do
 reverseSlice' lo (lo+n)
 let c <-upL lo n nr
 match c.fst with
 |some r=>pure r
 |none=>pure (some c.snd)
noncomputable def dnL(lo n nr:Nat):StateT SortSt Sem (Option (Option Nat)×Nat×Nat) :=
 forIn [n:nr] ((none,n,0):Option (Option Nat)×Nat×Nat) λ_ c=>do
  let z <-ltAt' (lo+c.snd.fst) (lo+c.snd.fst-1)
  match z with
  |some y =>
   if y=true then
    if c.snd.snd > 0 then do
     reverseSlice' (lo+c.snd.fst - (c.snd.snd+1)) (lo+c.snd.fst)
     pure (ForInStep.yield (none,c.snd.fst+1,0))
    else pure (ForInStep.yield (none,c.snd.fst+1,0))
   else do
    let z <-ltAt' (lo+c.snd.fst-1) (lo+c.snd.fst)
    match z with
    |some g=>if g=true then pure (ForInStep.done (none,c.snd.fst,c.snd.snd)) else pure (ForInStep.yield (none,c.snd.fst+1,c.snd.snd+1))
    |_=>pure (ForInStep.done (some none,c.snd.fst,c.snd.snd))
  |_=>pure (ForInStep.done (some none,c.snd.fst,c.snd.snd))
noncomputable def dnP(lo n nr:Nat):StateT SortSt Sem (Option Nat):=do
 liftM (rule "list.sort.descending-run")
 let c <-dnL lo (n+1) nr
 match c.fst with
 |some r=>pure r
 |none =>
  if c.snd.snd > 0 then do
   reverseSlice' (lo+c.snd.fst - (c.snd.snd+1)) (lo+c.snd.fst)
   endP lo c.snd.fst nr
  else endP lo c.snd.fst nr
theorem Qo1(lo nr:Nat):countRun' lo nr=(do
  let c <-upL lo 1 nr
  match c.fst with
  |some r=>pure r
  |none =>
   if (c.snd == nr)=true then pure (some c.snd)
   else if c.snd > 1 then do
    let z <-ltAt' lo (lo+c.snd-1)
    match z with
    |some y=>if y=true then pure (some c.snd) else do
      reverseSlice' lo (lo+c.snd)
      dnP lo c.snd nr
    |_=>pure none
   else dnP lo c.snd nr):=by
 rw[countRun'_eq]
 dsimp only
 unfold dnP endP dnL upL
 congr 1
 funext c
 obtain⟨r,n⟩:=c
 cases r with
 |some r=>rfl
 |none =>
  dsimp only
  split
  ·rfl
  ·split
   ·congr 1
    funext z
    cases z with
    |none=>rfl
    |some y =>
     dsimp only
     split
     ·rfl
     ·congr 1
      funext _
      congr 1;funext _;congr 1;funext c2;obtain⟨r2,n2,q2⟩:=c2;cases r2 with
      |some r2=>rfl
      |none=>(dsimp only;split;(congr 1;funext _;(congr 1;funext _;congr 1;funext c3;obtain⟨r3,n3⟩:=c3;cases r3 <;> rfl));(congr 1;funext _;congr 1;funext c3;obtain⟨r3,n3⟩:=c3;cases r3 <;> rfl))
   ·congr 1;funext _;congr 1;funext c2;obtain⟨r2,n2,q2⟩:=c2;cases r2 with
    |some r2=>rfl
    |none=>(dsimp only;split;(congr 1;funext _;(congr 1;funext _;congr 1;funext c3;obtain⟨r3,n3⟩:=c3;cases r3 <;> rfl));(congr 1;funext _;congr 1;funext c3;obtain⟨r3,n3⟩:=c3;cases r3 <;> rfl))
section
variable{prog:Program}{w:World}{A:Around}{E:Value->Shared->Prop}{s:Shared}{st:SortSt}{lo nr:Nat}
theorem QkW{b:Nat}{Q:Option (Option Nat)×Nat->SortSt->Prop}(hk:kindOf st=oneType')(ki:∀x∈arrOf st,KI x)(hn:lo+nr<=(arrOf st).size)(hb:1<=b)(hbn:b<=nr)(so:SOn (arrOf st) lo (lo+b))(h:∀n,b<=n->n<=nr->SOn (arrOf st) lo (lo+n)->(n=nr\/K (arrOf st) (lo+n)<K (arrOf st) (lo+n-1))->Q (none,n) st):
  wpS (model prog w) A E s (upL lo b nr) Q st:=by
 unfold upL
 refine U7 (I:=λx c st'=>st'=st/\c=(none,x)/\SOn (arrOf st) lo (lo+x)) ?step ?fin ⟨rfl,rfl,so⟩
 case fin =>
  rintro c st' ⟨rfl,rfl,s'⟩
  rw[show max b nr=nr by(clear hb hk hn;omega)]at s' ⊢
  exact h nr hbn (Uc _) s' (.inl rfl)
 case step =>
  rintro x c st' h1 h2 ⟨rfl,rfl,s'⟩
  dsimp only
  refine Uj (Qcl hk ki (by(clear hb hbn h1 hk;omega)) (by(clear hbn hk;omega)) ?_)
  dsimp only
  by_cases hl:K (arrOf st') (lo+x)<K (arrOf st') (lo+x-1)
  ·refine Qr (UC hl) ?_
   exact Um (h x h1 (by(clear hb hbn h1 hk hn hl;omega)) s' (.inr hl))
  ·refine Qs (Qck hl) ?_
   refine Um ⟨rfl,rfl,λi j q1 q2 q3=>?_⟩
   by_cases e:j<lo+x
   ·exact s' i j q1 q2 e
   ·have e':j=lo+x:=by(clear hb hbn h1 h2 hk hn hl q1 q2;omega)
    subst e'
    by_cases e2:i=lo+x
    ·subst e2;exact UZ _
    ·exact UP (s' i (lo+x-1) q1 (by(clear hbn h2 hk hn hl q1 q3 e;omega)) (by(clear hbn h2 hk hn hl q1 q2 q3 e e2;omega))) (RL.mp hl)
theorem QiC{st0:SortSt}{n:Nat}{Q:Option Nat->SortSt->Prop}(hk:kindOf st0=oneType')(ki:∀x∈arrOf st0,KI x)(hn:lo+nr<=(arrOf st0).size)(C:Chg st0 st lo (lo+nr))(h1:1<=n)(h2:n<=nr)(so:NOn (arrOf st) lo (lo+n))(h:∀m st',Chg st0 st' lo (lo+nr)->1<=m->m<=nr->SOn (arrOf st') lo (lo+m)->Q (some m) st'):wpS (model prog w) A E s (endP lo n nr) Q st:=by
 unfold endP
 have hz:lo+n<=(arrOf st).size:=by rw[C.size];(clear hk h1;omega)
 refine Uj (wpS_reverse ?_)
 have C':Chg st0 (setArr st (mirror (arrOf st) lo (lo+n) ((lo+n-lo) / 2))) lo (lo+nr):=C.trans ((Qaa hz).wide (Uc _) (by(clear hk hn h1 hz;omega)))
 refine Uj (QkW (C'.kind.trans hk) (C'.ki ki) (by rw[C'.size];exact hn) h1 h2 (λi j q1 q2 q3=>?_) λm q1 q2 q3 _=>Um (h m _ C' (by(clear hk hn h2 hz q2;omega)) q2 q3))
 show K (mirror _ _ _ _) i<=K (mirror _ _ _ _) j
 rw[K_mirror hz,K_mirror hz,Ud (by(clear hk hn h1 h2 hz;omega)),Ud (by(clear hk hn h1 h2 hz;omega))]
 exact so _ _ (by(clear hk hn h1 h2 hz q1 q2;omega)) (by(clear hk hn h1 h2 hz q1;omega)) (by(clear hk hn h1 h2 hz q2;omega))
theorem QnT{st0:SortSt}{n:Nat}{Q:Option (Option Nat)×Nat×Nat->SortSt->Prop}(hk:kindOf st0=oneType')(ki:∀x∈arrOf st0,KI x)(hn:lo+nr<=(arrOf st0).size)(C:Chg st0 st lo (lo+nr))(h1:1<=n)(h2:n<=nr)(so:NOn (arrOf st) lo (lo+n))(h:∀m q st',Chg st0 st' lo (lo+nr)->n<=m->m<=nr->NOn (arrOf st') lo (lo+m)->q+1<=m->(∀i,lo+m - (q+1)<=i->i<lo+m->K (arrOf st') i=K (arrOf st') (lo+m-1))->Q (none,m,q) st'):
  wpS (model prog w) A E s (dnL lo n nr) Q st:=by
 unfold dnL
 refine U7 (I:=λx c st'=>∃q,c=(none,x,q)/\Chg st0 st' lo (lo+nr)/\NOn (arrOf st') lo (lo+x)/\q+1<=x /\
   (∀i,lo+x - (q+1)<=i->i<lo+x->K (arrOf st') i=K (arrOf st') (lo+x-1))) ?step ?fin ⟨0,rfl,C,so,by(clear hk hn h2;omega),λi q1 q2=>by congr 1;(clear hk hn h2;omega)⟩
 case fin =>
  rintro c st' ⟨q,rfl,C',s',hq,he⟩
  rw[show max n nr=nr by(clear hk hn h1 hq;omega)]at s' hq he ⊢
  exact h nr q st' C' h2 (Uc _) s' hq he
 case step =>
  rintro x c st' a1 a2 ⟨q,rfl,C',s',hq,he⟩
  dsimp only
  have hz:lo+x<(arrOf st').size:=by rw[C'.size];(clear hk h1 h2 a1 hq;omega)
  have more:∀xs:Array Keyed,(∀k,K xs k=K (arrOf st') k)->K (arrOf st') (lo+x)<=K (arrOf st') (lo+x-1)->NOn xs lo (lo+(x+1)):=by
   intro xs hx hl i j q1 q2 q3
   rw[hx,hx]
   by_cases e:j<lo+x
   ·exact s' i j q1 q2 e
   ·have e':j=lo+x:=by(clear hk hn h1 h2 a1 a2 hq hz hl q1 q2;omega)
    subst e'
    by_cases e2:i=lo+x
    ·subst e2;exact UZ _
    ·exact UP hl (s' i (lo+x-1) q1 (by(clear hk hn h1 h2 a1 a2 hq hz hl q1 q3 e;omega)) (by(clear hk hn h2 a2 hq hz hl q1 q2 q3 e e2;omega)))
  refine Uj (Qcl (C'.kind.trans hk) (C'.ki ki) hz (by(clear hk hn h2 a2 hq;omega)) ?_)
  dsimp only
  by_cases hl:K (arrOf st') (lo+x)<K (arrOf st') (lo+x-1)
  ·refine Qr (UC hl) ?_
   by_cases hq0:q > 0
   ·refine Qr hq0 ?_
    refine Uj (wpS_reverse (Um ⟨0,rfl,C'.trans ((Qaa (by(clear hk hn h1 h2 a1 a2 hq hl hq0;omega))).wide (by(clear hk hn h1 h2 a1 a2 hz hl hq0;omega)) (by(clear hk hn h1 h2 a1 hq hz hl hq0;omega))),more _ (λk=>RV (by(clear hk hn h1 h2 a1 a2 hq hl hq0;omega)) he k) (Tm hl),by(clear hk hn h1 h2 a1 a2 hq hz hl hq0;omega),λi q1 q2=>by congr 1;(clear hk hn h2 a2 hq hz hl hq0;omega)⟩))
   ·refine Qs hq0 ?_
    exact Um ⟨0,rfl,C',more _ (λ_=>rfl) (Tm hl),by(clear hk hn h1 h2 a1 a2 hq hz hl hq0;omega),λi q1 q2=>by congr 1;(clear hk hn h2 a2 hq hz hl hq0;omega)⟩
  ·refine Qs (Qck hl) ?_
   refine Uj (Qcl (C'.kind.trans hk) (C'.ki ki) (by(clear hk hn h2 a2 hq hl;omega)) hz ?_)
   dsimp only
   by_cases hg:K (arrOf st') (lo+x-1)<K (arrOf st') (lo+x)
   ·refine Qr (UC hg) ?_
    exact Um (h x q st' C' a1 (by(clear hk hn h1 h2 a1 hq hz hl hg;omega)) s' hq he)
   ·refine Qs (Qck hg) ?_
    have e:K (arrOf st') (lo+x)=K (arrOf st') (lo+x-1):=by(clear hk hn h1 h2 a1 a2 hq hz;omega)
    refine Um ⟨q+1,rfl,C',more _ (λ_=>rfl) (by(clear hk hn h1 h2 a1 a2 hq hz e;omega)),by(clear hk hn h1 h2 a1 a2 hz hl hg e;omega),λi q1 q2=>?_⟩
    rw[show lo+(x+1) - 1=lo+x by(clear hk hn h2 a2 hq hz hl hg e q1 q2;omega)]
    by_cases e2:i=lo+x
    ·subst e2;rfl
    ·rw[e];exact he i (by(clear hk hn h1 h2 a1 a2 hz hl hg e;omega)) (by(clear hk hn h1 h2 a1 a2 hq hz hl hg e q1;omega))
theorem QkX{st0:SortSt}{n:Nat}{Q:Option Nat->SortSt->Prop}(hk:kindOf st0=oneType')(ki:∀x∈arrOf st0,KI x)(hn:lo+nr<=(arrOf st0).size)(C:Chg st0 st lo (lo+nr))(h2:n+1<=nr)(so:NOn (arrOf st) lo (lo+(n+1)))(h:∀m st',Chg st0 st' lo (lo+nr)->1<=m->m<=nr->SOn (arrOf st') lo (lo+m)->Q (some m) st'):wpS (model prog w) A E s (dnP lo n nr) Q st:=by
 unfold dnP
 refine Uj (Bf (Rc ⟨rfl,?_⟩))
 refine Uj (QnT hk ki hn C (by(clear hk hn h2;omega)) h2 so λm q st' C' m1 m2 s' hq he=>?_)
 dsimp only
 have hz:lo+m<=(arrOf st').size:=by rw[C'.size];(clear hk h2 m1 hq;omega)
 by_cases hq0:q > 0
 ·refine Qr hq0 ?_
  refine Uj (wpS_reverse (QiC hk ki hn (C'.trans ((Qaa hz).wide (by(clear hk hn h2 m1 m2 hz hq0;omega)) (by(clear hk hn h2 m1 hq hz hq0;omega)))) (by(clear hk hn h2 m1 m2 hz;omega)) m2 (λi j q1 q2 q3=>?_) h))
  show K (mirror _ _ _ _) j<=K (mirror _ _ _ _) i
  rw[RV hz he,RV hz he]
  exact s' i j q1 q2 q3
 ·refine Qs hq0 ?_
  exact QiC hk ki hn C' (by(clear hk hn h2 m1 m2 hz;omega)) m2 s' h
theorem Qo2{Q:Option Nat->SortSt->Prop}(hk:kindOf st=oneType')(ki:∀x∈arrOf st,KI x)(hn:lo+nr<=(arrOf st).size)(h1:1<=nr)(h:∀m st',Chg st st' lo (lo+nr)->1<=m->m<=nr->SOn (arrOf st') lo (lo+m)->Q (some m) st'):wpS (model prog w) A E s (countRun' lo nr) Q st:=by
 rw[Qo1]
 have one:SOn (arrOf st) lo (lo+1):=λi j q1 q2 q3=>by
  have e:i=j:=by(clear hk hn h1;omega)
  subst e
  exact UZ _
 refine Uj (QkW hk ki hn (Uc 1) h1 one λn n1 n2 sn hor=>?_)
 dsimp only
 by_cases e:n=nr
 ·refine Qr (Q0 e) ?_
  exact Um (h n st (.refl _ _ _) n1 n2 sn)
 refine Qs (Zy e) ?_
 have hl:=hor.resolve_left e
 by_cases hg:n > 1
 ·refine Qr hg ?_
  refine Uj (Qcl hk ki (by(clear hk n1 n2 hor e hl hg;omega)) (by(clear hk h1 n1 hor e hl;omega)) ?_)
  dsimp only
  by_cases hr:K (arrOf st) lo<K (arrOf st) (lo+n-1)
  ·refine Qr (UC hr) ?_
   exact Um (h n st (.refl _ _ _) n1 n2 sn)
  ·refine Qs (Qck hr) ?_
   have hz:lo+n<=(arrOf st).size:=by(clear hk h1 n1 hor e hl hg hr;omega)
   have all:∀k,lo<=k->k<lo+n->K (arrOf st) k=K (arrOf st) (lo+n-1):=λk q1 q2=>by
    have:=sn lo k (Uc _) q1 q2
    have:=sn k (lo+n-1) q1 (by(clear hk hn h1 n1 n2 hor e hl hg hr hz q1 this;omega)) (by(clear hk hn h1 n1 n2 hor e hl hr hz q1 q2 this;omega))
    (clear hk hn h1 n1 n2 hor e hl hg hz q1 q2;omega)
   refine Uj (wpS_reverse (QkX hk ki hn ((Qaa hz).wide (Uc _) (by(clear hk hn h1 n1 hor e hl hg hr hz;omega))) (by(clear hk hn h1 n1 hor hl hg hr hz;omega)) (λi j q1 q2 q3=>?_) h))
   show K (mirror _ _ _ _) j<=K (mirror _ _ _ _) i
   rw[RV hz all,RV hz all]
   by_cases ej:j<lo+n
   ·rw[all i q1 (by(clear hk hn h1 n1 n2 hor e hl hg hr hz q1 q3;omega)),all j (by(clear hk hn h1 n1 n2 hor e hl hg hr hz q3 ej;omega)) ej];exact UZ _
   ·have ej':j=lo+n:=by(clear hk hn h1 n1 n2 hor e hl hg hr hz q1 q2;omega)
    subst ej'
    by_cases ei:i=lo+n
    ·subst ei;exact UZ _
    ·rw[all i q1 (by(clear hk hn h1 n1 n2 hor e hl hg hr hz q1 q3 ej;omega))];exact Tm hl
 ·refine Qs hg ?_
  have e1:n=1:=by(clear hk hn h1 n2 hor e hl;omega)
  subst e1
  refine QkX hk ki hn (.refl _ _ _) (by(clear hk hn n1 n2 hor hl hg;omega)) (λi j q1 q2 q3=>?_) h
  by_cases ei:i=j
  ·subst ei;exact UZ _
  ·have e2:i=lo:=by(clear hk hn h1 n1 n2 hor e hl hg;omega)
   have e3:j=lo+1:=by(clear hk hn h1 n1 n2 hor e hl hg q1;omega)
   subst e2;subst e3
   exact Tm hl
end
noncomputable abbrev Pn:=Nat×Nat×Nat
noncomputable def Tl(xs:Array Keyed):Nat->List Pn->Nat->Prop
 |a,[],b=>a=b
 |a,x::r,b=>x.1=a/\0<x.2.1/\SOn xs a (a+x.2.1)/\Tl xs (a+x.2.1) r b
theorem Tl.le{xs:Array Keyed}:∀{p:List Pn}{a b:Nat},Tl xs a p b->a+p.length<=b
 |[],_,_,h=>RX h
 |x::r,a,b,h=>by
  have:=Tl.le h.2.2.2
  have:=h.2.1
  rw[US]
  omega
theorem Tl.app{xs:Array Keyed}:∀{p q:List Pn}{a b:Nat},Tl xs a (p++q) b->∃c,Tl xs a p c/\Tl xs c q b
 |[],_,a,_,h=>⟨a,rfl,h⟩
 |_::_,_,_,_,h=>let ⟨c,h1,h2⟩:=Tl.app h.2.2.2;⟨c,⟨h.1,h.2.1,h.2.2.1,h1⟩,h2⟩
theorem Tl.glue{xs:Array Keyed}:∀{p q:List Pn}{a c b:Nat},Tl xs a p c->Tl xs c q b->Tl xs a (p++q) b
 |[],_,_,_,_,h,k=>by cases h;exact k
 |_::_,_,_,_,_,h,k=>⟨h.1,h.2.1,h.2.2.1,Tl.glue h.2.2.2 k⟩
theorem Tl.same{xs ys:Array Keyed}:∀{p:List Pn}{a b:Nat},Tl xs a p b->(∀k,a<=k->k<b->K ys k=K xs k)->Tl ys a p b
 |[],_,_,h,_=>h
 |x::r,a,b,h,e=>by
  have hl:=Tl.le h.2.2.2
  refine⟨h.1,h.2.1,λi j h1 h2 h3=>?_,Tl.same h.2.2.2 λk h1 h2=>e k (by omega) h2⟩
  rw[e i h1 (by omega),e j (by omega) (by omega)]
  exact h.2.2.1 i j h1 h2 h3
theorem Tl.pow{xs:Array Keyed}(f:Pn->Pn)(hf:∀x,(f x).1=x.1/\(f x).2.1=x.2.1):∀{p:List Pn}{i a b:Nat},Tl xs a p b->Tl xs a (p.modify i f) b
 |[],i,_,_,h=>by cases i <;> exact h
 |x::r,0,a,b,h=>by
  show Tl xs a (f x::r) b
  unfold Tl
  rw[(hf x).1,(hf x).2]
  exact h
 |_::_,_+1,_,_,h=>⟨h.1,h.2.1,h.2.2.1,Tl.pow f hf h.2.2.2⟩
theorem QnU{l:List Pn}{i:Nat}(h:i+1<l.length):∃p x y q,l=p++x::y::q/\p.length=i:=by
 refine⟨l.take i,l[i],l[i+1],l.drop (i+2),?_,by rw[Th];omega⟩
 rw[<-Rw h,<-Rw (by omega),Tj]
theorem QnV(p q:List Pn)(x y z:Pn):((p++x::y::q).set p.length z).eraseIdx (p.length+1)=p++z::q:=by
 rw[Bq _ _ (Uc _),Nat.sub_self,List.set_cons_zero,List.eraseIdx_append_of_length_le (Rh _ 1),RK,W4,List.eraseIdx_cons_zero]
structure Std(a₀:Array Keyed)(st:SortSt)(hi:Nat):Prop where
 kind:kindOf st=oneType'
 failed:failedOf st=none
 perm:(arrOf st).toList.Perm a₀.toList
 tl:Tl (arrOf st) 0 (pendingOf st).toList hi
 le:hi<=a₀.size
theorem Std.size{a₀:Array Keyed}{st:SortSt}{hi:Nat}(h:Std a₀ st hi):(arrOf st).size=a₀.size:=by
 have:=h.perm.length_eq
 rwa[Uo,Uo]at this
theorem Std.ki{a₀:Array Keyed}{st:SortSt}{hi:Nat}(h:Std a₀ st hi)(k:∀x∈a₀,KI x):∀x∈arrOf st,KI x :=
 λx hx=>k x (Td.mp (h.perm.mem_iff.mp (Td.mpr hx)))
section
variable{prog:Program}{w:World}{A:Around}{E:Value->Shared->Prop}{s:Shared}{a₀:Array Keyed}
theorem QiD{st:SortSt}{i hi:Nat}{Q:Bool->SortSt->Prop}(k0:∀x∈a₀,KI x)(S:Std a₀ st hi)(h1:i+1<(pendingOf st).size)(h:∀st',Std a₀ st' hi->(pendingOf st').size+1=(pendingOf st).size->(∀k,hi<=k->K (arrOf st') k=K (arrOf st) k)->Q true st'):
  wpS (model prog w) A E s (mergeAt' i) Q st:=by
 obtain⟨p,⟨u,m,pw⟩,⟨v,n,pw2⟩,q,e,hp⟩:=QnU (l:=(pendingOf st).toList) (i:=i) (by rw[Uo];exact h1)
 have T:=S.tl
 rw[e]at T
 obtain⟨c,T1,T2⟩:=T.app
 obtain⟨e1,m0,so1,e2,n0,so2,T3⟩:=T2
 dsimp only at e1 m0 so1 e2 n0 so2 T3
 subst e1
 subst e2
 have l3:=T3.le
 have l1:=T1.le
 have l0:=S.le
 have hz:=S.size
 have g1:(pendingOf st)[i]?=some (u,m,pw):=by
  rw[<-T4,e,Ux (by omega),hp,Nat.sub_self];rfl
 have g2:(pendingOf st)[i+1]?=some (u+m,n,pw2):=by
  rw[<-T4,e,Ux (by omega),hp,RK];rfl
 refine QnS S.kind S.failed (S.ki k0) g1 g2 rfl m0 n0 (by omega) so1 so2 λst' hk hf hpe hpm hso hout=>?_
 have ep:(pendingOf st').toList=p++(u,m+n,pw)::q:=by
  rw[hpe,Array.toList_eraseIdxIfInBounds,WB,e,<-hp,QnV]
 refine h st' ⟨hk,hf,hpm.trans S.perm,?_,l0⟩ ?_ λk hk=>hout k (.inr (by omega))
 ·rw[ep]
  refine(T1.same λk _ h2=>hout k (.inl h2)).glue ⟨rfl,by show 0<m+n;omega,?_,?_⟩
  ·show SOn _ u (u+(m+n))
   rw[<-Nat.add_assoc];exact hso
  ·show Tl _ (u+(m+n)) q hi
   rw[<-Nat.add_assoc]
   exact T3.same λk h2 _=>hout k (.inr h2)
 ·rw[<-Uo,ep,<-Uo (xs:=pendingOf st),e,Us,Us]
  rfl
end
noncomputable def QeM(z lo n:Nat):StateT SortSt Sem (ForInStep (Option Unit×Nat)):=do
 let t <-get
 match (pendingOf t).back? with
 |some (u,m,_)=>do
  let c <-forIn [0:z] ((none,()):Option Unit×Unit) λ_ _=>do
   let t <-get
   match (if (pendingOf t).size > 1 then (pendingOf t)[(pendingOf t).size-2]? else none) with
   |some (_,_,o) =>
    if o<=power' z (2*u+m) (2*u+m+m+n) z then pure (ForInStep.done (none,())) else do
     let y <-mergeAt' ((pendingOf t).size-2)
     if (!y)=true then pure (ForInStep.done (some (),())) else pure (ForInStep.yield (none,()))
   |_=>pure (ForInStep.done (none,()))
  match c.fst with
  |some r=>pure (ForInStep.done (some r,lo))
  |none=>do
   modify λt=>setPending t ((pendingOf t).modify ((pendingOf t).size-1) λx=>(x.fst,x.snd.fst,power' z (2*u+m) (2*u+m+m+n) z))
   modify λt=>setPending t ((pendingOf t).push (lo,n,0))
   pure (ForInStep.yield (none,lo+n))
 |_=>do
  modify λt=>setPending t ((pendingOf t).push (lo,n,0))
  pure (ForInStep.yield (none,lo+n))
section
variable{prog:Program}{w:World}{A:Around}{E:Value->Shared->Prop}{s:Shared}{a₀:Array Keyed}
theorem Std.push{st:SortSt}{lo n:Nat}(S:Std a₀ st lo)(h0:0<n)(hn:lo+n<=a₀.size)(so:SOn (arrOf st) lo (lo+n)):
  Std a₀ (setPending st ((pendingOf st).push (lo,n,0))) (lo+n):=by
 refine⟨S.kind,S.failed,S.perm,?_,hn⟩
 show Tl (arrOf st) 0 ((pendingOf st).push (lo,n,0)).toList (lo+n)
 rw[Rq]
 exact S.tl.glue ⟨rfl,h0,so,rfl⟩
noncomputable def Qo3(a₀:Array Keyed)(v:Nat):ForInStep (Option Unit×Nat)->SortSt->Prop
 |.done _,_=>False
 |.yield c,st'=>c=(none,v)/\Std a₀ st' v
theorem QiE{st:SortSt}{z lo n:Nat}(k0:∀x∈a₀,KI x)(S:Std a₀ st lo)(h0:0<n)(hn:lo+n<=a₀.size)(so:SOn (arrOf st) lo (lo+n)):
  wpS (model prog w) A E s (QeM z lo n) (Qo3 a₀ (lo+n)) st:=by
 unfold QeM
 refine Uj (WO ?_)
 cases hb:(pendingOf st).back? with
 |none=>exact Uj (WP (Um ⟨rfl,S.push h0 hn so⟩))
 |some x =>
  obtain⟨u,m,pw⟩:=x
  dsimp only
  refine Uj (Tz (U7 (I:=λ_ c st'=>c=(none,())/\Std a₀ st' lo/\SOn (arrOf st') lo (lo+n)) (Q:=λc st'=>c=(none,())/\Std a₀ st' lo/\SOn (arrOf st') lo (lo+n))
   ?step (λ_ _ h=>h) ⟨rfl,S,so⟩) ?post)
  case post =>
   rintro c st' ⟨rfl,S',so'⟩
   dsimp only
   refine Uj (WP (Uj (WP (Um ⟨rfl,Std.push (st:=setPending st' _) ⟨S'.kind,S'.failed,S'.perm,?_,S'.le⟩ h0 hn so'⟩))))
   show Tl (arrOf st') 0 ((pendingOf st').modify _ _).toList lo
   rw[Array.toList_modify]
   exact Tl.pow (λx=>(x.fst,x.snd.fst,power' z (2*u+m) (2*u+m+m+n) z)) (λ_=>⟨rfl,rfl⟩) S'.tl
  case step =>
   rintro x c st' _ _ ⟨rfl,S',so'⟩
   refine Uj (WO ?_)
   by_cases h1:(pendingOf st').size > 1
   ·rw[Ud h1]
    cases hg:(pendingOf st')[(pendingOf st').size-2]? with
    |none=>exact Um ⟨rfl,S',so'⟩
    |some y =>
     obtain⟨y1,y2,o⟩:=y
     dsimp only
     split
     ·exact Um ⟨rfl,S',so'⟩
     ·refine Uj (QiD k0 S' (by(clear h0 hn hb hg;omega)) λst2 S2 _ ho=>?_)
      rw[Ue (by decide)]
      refine Um ⟨rfl,S2,λi j q1 q2 q3=>?_⟩
      rw[ho i q1,ho j (by(clear h0 hn hb h1 hg q3;omega))]
      exact so' i j q1 q2 q3
   ·rw[Ue h1]
    exact Um ⟨rfl,S',so'⟩
theorem QlY{st:SortSt}{Q:Unit->SortSt->Prop}(k0:∀x∈a₀,KI x)(S:Std a₀ st 0)(h:∀st',(arrOf st').Perm a₀->failedOf st'=none->SortedTo (arrOf st') a₀.size->Q () st'):wpS (model prog w) A E s sortRuns' Q st:=by
 rw[sortRuns'_eq]
 refine Uj (WO ?_)
 dsimp only
 generalize minRun' (arrOf st).size (arrOf st).size 0=mr
 have hz:=S.size
 generalize hzz:(arrOf st).size=z at hz
 have hz2:=hz
 clear hzz
 refine Uj (Tz (U7 (I:=λx c st'=>∃lo,c=(none,lo)/\Std a₀ st' lo/\(x<=lo\/lo=z))
  (Q:=λc st'=>c=(none,z)/\Std a₀ st' z) ?step ?fin ⟨0,rfl,S,.inl (Uc _)⟩) ?post)
 case fin =>
  rintro c st' ⟨lo,rfl,S',hx⟩
  have:=S'.le
  have e:lo=z:=by(clear hz2;omega)
  subst e
  exact⟨rfl,S'⟩
 case step =>
  rintro x c st' _ hx ⟨lo,rfl,S',hlo⟩
  dsimp only
  have hle:=S'.le
  by_cases hge:lo>=z
  ·refine Qr hge ?_
   have e:lo=z:=by(clear hz2 hx hlo;omega)
   subst e
   exact Um ⟨rfl,S'⟩
  refine Qs hge ?_
  have hs:=S'.size
  refine Uj (Qo2 S'.kind (S'.ki k0) (by(clear hz2 hx hlo hle;omega)) (by(clear hz2 hx hlo hle;omega)) λm st2 C2 m1 m2 so2=>?_)
  have S2:Std a₀ st2 lo:=⟨C2.kind.trans S'.kind,C2.failed.trans S'.failed,C2.perm.trans S'.perm,by
   rw[C2.pend];exact S'.tl.same λk _ h2=>C2.out k (.inl h2),hle⟩
  dsimp only
  have fin:∀{n:Nat}{st3:SortSt}(q:StateT SortSt Sem (ForInStep (Option Unit×Nat))),q=QeM z lo n->0<n->lo+n<=a₀.size->Std a₀ st3 lo->SOn (arrOf st3) lo (lo+n) ->
    wpS (model prog w) A E s q (λr st'=>match r with
     |.done c=>c=(none,z)/\Std a₀ st' z
     |.yield c=>∃lo,c=(none,lo)/\Std a₀ st' lo/\(x+1<=lo\/lo=z)) st3:=by
   rintro n st3 _ rfl n0 hn S3 so3
   refine Tz (QiE k0 S3 n0 hn so3) λr st4 hr=>?_
   cases r with
   |done c=>exact hr.elim
   |yield c=>exact⟨lo+n,hr.1,hr.2,by(clear hz2 hx hle m1 m2;omega)⟩
  by_cases hm:m<mr
  ·refine Qr hm ?_
   refine Uj (Bf (Rc ⟨rfl,?_⟩))
   have hz3:=S2.size
   refine Uj (Qo0 S2.kind (S2.ki k0) (n:=min (z-lo) mr) (by(clear hz2 hx hlo hle m1 m2 hm;omega)) (by(clear hz hz2 hx hlo hle hge hs m1 hz3;omega)) so2 λst3 C3 so3=>?_)
   rw[Ue (by decide)]
   have S3:Std a₀ st3 lo:=⟨C3.kind.trans S2.kind,C3.failed.trans S2.failed,C3.perm.trans S2.perm,by
    rw[C3.pend];exact S2.tl.same λk _ h2=>C3.out k (.inl h2),hle⟩
   refine Tz (fin (n:=min (z-lo) mr) _ ?_ (by(clear hz hz2 hx hlo hle hge hs hz3;omega)) (by(clear hz2 hx hlo hle m1 m2 hm;omega)) S3 so3) λr _ h=>by cases r <;> exact h
   unfold QeM
   congr 1
   funext t
   cases (pendingOf t).back? with
   |none=>rfl
   |some x =>
    obtain⟨u,m,pw⟩:=x
    dsimp only
    congr 1
    funext c
    obtain⟨r,u'⟩:=c
    cases r <;> rfl
  ·refine Qs hm ?_
   refine Tz (fin (n:=m) _ ?_ (by(clear hz hz2 hx hlo hle hge hs m2 hm;omega)) (by(clear hz2 hx hlo hle m1 hm;omega)) S2 so2) λr _ h=>by cases r <;> exact h
   unfold QeM
   congr 1
   funext t
   cases (pendingOf t).back? with
   |none=>rfl
   |some x =>
    obtain⟨u,m,pw⟩:=x
    dsimp only
    congr 1
    funext c
    obtain⟨r,u'⟩:=c
    cases r <;> rfl
 case post =>
  rintro c st' ⟨rfl,S'⟩
  dsimp only
  refine Uj (Tz (U7 (I:=λx c st'=>c=(none,())/\Std a₀ st' z/\((pendingOf st').size<=1\/(pendingOf st').size+x<=z))
   (Q:=λc st'=>c=(none,())/\Std a₀ st' z/\(pendingOf st').size<=1) ?s1 ?f1 ⟨rfl,S',.inr ?i1⟩) ?p1)
  case i1 =>
   have:=S'.tl.le
   rw[Uo]at this
   (clear hz2;omega)
  case f1 =>
   rintro c st2 ⟨rfl,S2,hp⟩
   exact⟨rfl,S2,by(clear hz2;omega)⟩
  case p1 =>
   rintro c st2 ⟨rfl,S2,hp⟩
   dsimp only
   refine Um (h st2 (Rs.mpr S2.perm) S2.failed ?_)
   intro i j hij hj
   have T:=S2.tl
   rw[<-Uo]at hp
   cases hl:(pendingOf st2).toList with
   |nil =>
    rw[hl]at T
    have:0=z:=T
    (clear hz2 hp hij hl;omega)
   |cons x r =>
    rw[hl]at T hp
    have hr:r=[]:=by
     cases r with
     |nil=>rfl
     |cons _ _=>simp at hp
    subst hr
    have e:0+x.2.1=z:=T.2.2.2
    exact T.2.2.1 i j (Tc _) hij (by(clear hz2 hij hp hl;omega))
  case s1 =>
   rintro x c st2 _ hx ⟨rfl,S2,hp⟩
   refine Uj (WO ?_)
   by_cases h1:(pendingOf st2).size<=1
   ·rw[Ud h1]
    exact Um ⟨rfl,S2,h1⟩
   rw[Ue h1]
   have go:∀i,i+1<(pendingOf st2).size->wpS (model prog w) A E s (do
     let y <-mergeAt' i
     if (!y)=true then pure (ForInStep.done (some (),())) else pure (ForInStep.yield (none,())))
     (λr st'=>match r with
      |.done c=>c=(none,())/\Std a₀ st' z/\(pendingOf st').size<=1
      |.yield c=>c=((none,()):Option Unit×Unit)/\Std a₀ st' z/\((pendingOf st').size<=1\/(pendingOf st').size+(x+1)<=z)) st2:=λi hi =>
    Uj (QiD k0 S2 hi λst3 S3 hs _=>by
     rw[Ue (by decide)]
     exact Um ⟨rfl,S3,by(clear hz2 hx h1 hi;omega)⟩)
   by_cases hc:Option.any (λq=>decide (q<(pendingOf st2)[(pendingOf st2).size-2+1]?.elim 0 λx=>x.2.1)) (if (pendingOf st2).size-2 > 0 then (pendingOf st2)[(pendingOf st2).size-2-1]?.map (λx=>x.2.1) else none)=true
   ·rw[Ud hc]
    exact Tz (go _ (by(clear hz hz2 hx hp hc;omega))) λr _ h=>by cases r <;> exact h
   ·rw[Ue hc]
    exact Tz (go _ (by(clear hz hz2 hx hp hc;omega))) λr _ h=>by cases r <;> exact h
end
section
variable{prog:Program}{w:World}{A:Around}{E:Value->Shared->Prop}{s:Shared}
theorem QjX{p:Addr}{us:List Value}{zs:List Int}{e0:Nat}{P:Fin->Shared->Prop}(ho:s.heap.get? p=some (seqObj "list" us.toArray e0))(hu:IntsAre us zs)(hl:us.length<=sizeLine)(h:∀(out:Array Value) (ys:List Int),IntsAre out.toList ys->ys.Perm zs->ys.Pairwise (· <= ·)->P (.done (.ret .none)) {s with heap:=sortedHeap s.heap p us out}):
  wpAny (model prog w) A (Builtin.«list.sort» ⟨[.ref p],[]⟩) P E s:=by
 by_cases h64:us.length<64
 ·exact list_sort_tree ho hu h64 h
 rw[list_sort_plain]
 have hp:p<s.heap.objs.size:=Ui ho
 have hs:us.toArray.size=us.length:=Uf
 refine Ua (listItems_at ho rfl (Ua (listUpdate_at ho rfl ?_ (by rw[hs];exact hl) (Tc _))))
 obtain⟨e1,o1⟩:∃e1,(s.heap.update p (Obj.mapSeq λ_=>#[])).get? p=some (seqObj "list" #[] e1):=⟨_,get?_update_seq ho (λ_=>#[])⟩
 refine Ua (seqEpoch_at o1 rfl (Ua (wpAny_newTuple (Ua (wpAny_newList (TR ?_))))))
 have o2:(((s.heap.update p (Obj.mapSeq λ_=>#[])).push (seqObj "tuple" us.toArray 0)).push (seqObj "list" #[] 0)).get? p=some (seqObj "list" #[] e1):=by
  rw[Heap.get?_push_ne _ _ _ (by rw[size_push',W9];exact UD (Nat.lt_succ_of_lt hp)),
   Heap.get?_push_ne _ _ _ (by rw[W9];exact UD hp)]
  exact o1
 show wpAny (model prog w) A _ P E
  {s with heap:=((s.heap.update p (Obj.mapSeq λ_=>#[])).push (seqObj "tuple" us.toArray 0)).push (seqObj "list" #[] 0)}
 dsimp only
 rw[Ue (by omega),Ue (by omega)]
 have kk:keyKind' us.toArray=pure oneType':=by
  match us,hu,h64 with
  |[],_,h64=>exact absurd (show(0:Nat)<64 by omega) h64
  |[_],_,h64=>exact absurd (show(1:Nat)<64 by omega) h64
  |_::_::_,hu,_=>exact keyKind_ints hu
 rw[kk]
 have KS:∀x∈pairsOf us,KI x:=λx hx=>hu.intKeys x (Td.mpr hx)
 have ST:Std (pairsOf us) (SortSt.mk' oneType' (us.toArray.zip us.toArray) #[] 7 none) 0:=⟨rfl,rfl,List.Perm.refl _,rfl,Tc _⟩
 refine Ua (Uh (Ua (U8 (QlY KS ST
  (Q:=λ_ t=>(arrOf t).Perm (pairsOf us)/\failedOf t=none/\SortedTo (arrOf t) (pairsOf us).size) λt b1 b2 b3=>⟨b1,b2,b3⟩) ?_ λ_ _ x=>x)))
 rintro ⟨⟨⟩,t⟩ s' ⟨rfl,b1,b2,b3⟩
 dsimp only
 refine Ua (seqEpoch_at o2 rfl (Ua (listUpdate_at o2 rfl ?_ (Tc _) ?_)))
 ·rw[b2]
  simp only[bne_self_eq_false,Rl,WR]
  obtain⟨ys,c1,c2,c3⟩:=sorted_out hu b1 b3
  exact Uh (h _ ys c1 c2 c3)
 ·have:=b1.size_eq
  rw[pairsOf_size]at this
  rw[Array.size_map]
  exact Ut (RX this) (Nat.le_succ_of_le hl)
theorem sorted_any{p:Addr}{us:List Value}{zs:List Int}{Q:Value->Shared->Prop}(hp:s.heap.IsList p us.toArray)(hu:IntsAre us zs)(hl:us.length<=sizeLine)(h:∀(out:Array Value) (ys:List Int),IntsAre out.toList ys->ys.Perm zs->ys.Pairwise (· <= ·)->Q (.ref (s.heap.objs.size+1)) {s with heap:=sortedAll s.heap us out}):
  wpAny (model prog w) A (call (.builtin "sorted") [.ref p]) Q E s:=by
 refine Calls.call_function_entry kind_sorted plain_sorted entry_sorted (args_sorted1 _) ?_
 unfold Builtin.«sorted»
 refine Ua (m:=checkCount "sorted" 1 1 _) (Uh (Ua (collect_list hp (Ua (wpAny_newList ?_)) hl)))
 have z:((s.heap.push (seqObj "list" #[] 0)).update s.heap.objs.size (Obj.mapSeq (· ++ us.toArray))).objs.size=s.heap.objs.size+1:=by rw[W9,size_push']
 have o:(((s.heap.push (seqObj "list" #[] 0)).update s.heap.objs.size (Obj.mapSeq (· ++ us.toArray))).push (seqObj "list" us.toArray 0)).get? (s.heap.objs.size+1)
   = some (seqObj "list" us.toArray 0):=by rw[<-z];exact Up _ rfl
 show wpAny _ _ _ _ _
  {s with heap:=((s.heap.push (seqObj "list" #[] 0)).update s.heap.objs.size (Obj.mapSeq (· ++ us.toArray))).push (seqObj "list" us.toArray 0)}
 rw[z]
 refine Ua (TR (TU slot_list_sort ⟨_,o,rfl⟩ entry_list_sort (QjX o hu hl λout ys b1 b2 b3=>⟨_,rfl,Uh ⟨_,rfl,h out ys b1 b2 b3⟩⟩) (args_list_sort _)))
end
end SO
namespace L3
open PySem
noncomputable def insZ(x:Int):List Int->List Int
 |[]=>[x]
 |y::r=>if x<=y then x::y::r else y::insZ x r
noncomputable def QG:List Int->List Int
 |[]=>[]
 |x::r=>insZ x (QG r)
noncomputable def Zu(x:D)(g:G):Res D:=match Qv g x with
 |some (true,ds)=>(match Qex ds with
  |some ns=>.ok (.ref g.length) (g++[.lst ((QG ns).map .int)])
  |none=>.stuck)
 |_=>.stuck
theorem Qcm(x:Int):∀l:List Int,(insZ x l).Perm (x::l)
 |[]=>.refl _
 |y::r=>by
  unfold insZ
  split
  ·exact .refl _
  ·exact((Qcm x r).cons y).trans (List.Perm.swap x y r)
theorem QH:∀l:List Int,(QG l).Perm l
 |[]=>.refl _
 |x::r=>(Qcm x (QG r)).trans ((QH r).cons x)
theorem Qcn(x:Int):∀l:List Int,l.Pairwise (· <= ·)->(insZ x l).Pairwise (· <= ·)
 |[],_=>by simp[insZ]
 |y::r,h=>by
  unfold insZ
  have h':=TB.mp h
  split
  ·rename_i hxy
   exact TB.mpr ⟨λz hz=>by
    rcases UE.mp hz with rfl|hz
    ·exact hxy
    ·exact UP hxy (h'.1 z hz),h⟩
  ·rename_i hxy
   refine TB.mpr ⟨λz hz=>?_,Qcn x r h'.2⟩
   rcases UE.mp ((Qcm x r).mem_iff.mp hz) with rfl|hz
   ·omega
   ·exact h'.1 z hz
theorem YR:∀l:List Int,(QG l).Pairwise (· <= ·)
 |[]=>.nil
 |x::r=>Qcn x _ (YR r)
theorem Qco:∀(l m:List Int),l.Perm m->l.Pairwise (· <= ·)->m.Pairwise (· <= ·)->l=m
 |[],m,h,_,_=>(List.nil_perm.mp h).symm
 |x::l,[],h,_,_=>by have:=h.length_eq;simp at this
 |x::l,y::m,h,hl,hm=>by
  have hl':=TB.mp hl
  have hm':=TB.mp hm
  have e:x=y:=by
   have h1:x∈y::m:=h.mem_iff.mp (Uu ..)
   have h2:y∈x::l:=h.mem_iff.mpr (Uu ..)
   have a:y<=x:=by
    rcases UE.mp h1 with e|h1
    ·omega
    ·exact hm'.1 x h1
   have b:x<=y:=by
    rcases UE.mp h2 with e|h2
    ·omega
    ·exact hl'.1 y h2
   omega
  subst e
  rw[Qco l m ((List.perm_cons x).mp h) hl'.2 hm'.2]
end L3
namespace L3
open PySem PySem.Spec PyProof.Rows L2
section
variable{X:Cx}{ca:Nat->Addr}{a b e o i:Expr}{ma mb me mo mi:ME}{pos p p2 apos:Pos}{k:Nat}
theorem intsAre_of:∀{ns:List Int}{us:List Value},Vals (ns.map V.int) us->IntsAre us ns
 |[],_,h=>by cases h;exact .nil
 |n::ns,_,h=>by
  cases h with
  |cons h1 h2 =>
   obtain⟨t,rfl⟩:=h1
   exact .cons n t (intsAre_of h2)
theorem QiF:∀{us:List Value}{ns:List Int},IntsAre us ns->Vals (ns.map V.int) us
 |_,_,.nil=>.nil
 |_,_,.cons n t r=>.cons ⟨t,rfl⟩ (QiF r)
theorem Qfz:CallR X (.builtin "sorted") (λxs H Q=>∃(p:Addr)(ns:List Int),xs=[.ref p]/\SqL X.K H p (ns.map V.int)/\∀l,H l=none->Q (.ref l) (upd H l (.lst ((QG ns).map V.int)))):=by
 intro pins s σ H xs us Q I r h
 obtain⟨p,ns,rfl,hq,q⟩:=h
 obtain⟨u,rfl,rx⟩:=QjC r
 cases rx
 obtain⟨its,r',pl,hz⟩:=I.list hq
 have hlen:=r'.length
 rw[Ur]at hlen
 refine SO.sorted_any pl.isList (intsAre_of r') (by rw[Ur]at hz;rw[<-hlen];exact hz) λout ns' a1 a2 a3=>?_
 have e:ns'=QG ns:=Qco _ _ (a2.trans (QH ns).symm) a3 (YR ns)
 subst e
 obtain⟨c,he⟩:=sortedAll_at s.heap its out
 have hl2:((QG ns).map V.int).length<=sizeLine:=by rw[Ur,(QH ns).length_eq];rw[Ur]at hz;exact hz
 exact⟨.ref (s.heap.objs.size+1),_,I.laid (t':=s.toks) (λb o=>sortedAll_old) (Wk _) (show ObjOk X.prog X.w _ _ _ (.lst ((QG ns).map V.int)) from ⟨hl2,out.toList,c,QiF a1,he⟩),rfl,q _ (I.hok.fresh (Wk _))⟩
theorem QfA{K:Frag}{μ:List Addr}{H:Hp}:∀ns:List Int,Dens K μ H (ns.map V.int) (ns.map D.int)
 |[]=>.nil
 |n::ns=>.cons (.int n) (QfA ns)
theorem QdO(hm:X.mg "sorted" = none)(he:PE3 ca X e me)(hg:Gl X "sorted":=by rfl)(hs:starEach [e] X.env=[(false,eval e X.env)]:=by rfl)(hpl:(backTo pos (starEach [] X.env)).any (·.1)=false:=by rfl):
  PE3 ca X (.Call (.Name "sorted" p) [e] [] pos) (mOp1 Zu me) :=
 QjQ (r:=λxs H Q=>∃(p:Addr)(ns:List Int),xs=[V.ref p]/\SqL X.K H p (ns.map V.int)/\∀l,H l=none->Q (.ref l) (upd H l (.lst ((QG ns).map V.int)))) (λ_ _=>Qfz) hm boot_sorted (λΦ σ H μ g y d Q r q pp=>by
  have el:∀l:Addr,(μ++[l])[g.length]?=some l:=λl=>by rw[<-r.len];simp
  unfold Zu at pp
  cases hs1:Qv g d with
  |none=>rw[hs1]at pp;exact pp.elim
  |some p1 =>
   obtain⟨b,ds⟩:=p1
   rw[hs1]at pp
   cases b with
   |false=>exact pp.elim
   |true =>
    dsimp only at pp
    cases hi:Qex ds with
    |none=>rw[hi]at pp;exact pp.elim
    |some ns =>
     rw[hi]at pp
     dsimp only at pp
     obtain⟨a,ws,rfl,sq,dn⟩:=Z4 r q hs1
     have ew:=QeG dn hi
     subst ew
     exact⟨a,ns,rfl,sq,λl hl=>pp _ _ (μ++[l]) (Qq hl) (r.push hl ⟨_,Ql,QfA _⟩) (.ref (el l))⟩) he hg (by decide) (by decide) hs hpl
end
end L3
namespace L3
open PySem
noncomputable def QfB(d:D)(g:G):Res Src:=match Qv g d with
 |some (true,ds)=>.ok ⟨λg i=>(match Qv g d with
  |some (_,es)=>(match es[i]? with
   |some x=>some (some (.tup [.int i,x]))
   |none=>some none)
  |none=>none),ds.length⟩ g
 |_=>.stuck
noncomputable def Qcp(a:ME):MI:=λσ g=>(a σ g).bind QfB
end L3
namespace L3
open PySem PySem.Spec PyProof.Rows L2
noncomputable def Ite(K:Frag)(a:Addr):It :=
  ⟨λi H=>∃xs x,SqL K H a xs/\xs[i]?=some x,
   λi H v H'=>∃p x,H p=none/\v=.ref p/\H'=upd H p (.tup [.int (i:Int),x])/\∀xs,SqL K H a xs->xs[i]?=some x,
   λi H=>∃xs,SqL K H a xs/\xs.length<=i⟩
def EnTn(e it l:Addr)(i:Nat)(h:Heap):Prop:=(∃old,IsEnum h e it (i:Int) old)/\h.IsListIter it l i
theorem QiG{P:Program}{w:World}{K:Frag}{elts:List Expr}{kk:Nat}{tp:Pos}(e it l:Addr)(hei:e≠it):
  Turn P w K (.Tuple elts kk tp) (Ite K l) [e,it] e (EnTn e it l) where
 mem:=by simp
 obj:=λi h st b hb=>by
  obtain⟨⟨old,hE⟩,hI⟩:=st
  have hb':b=e\/b=it:=by simpa using hb
  rcases hb' with rfl|rfl
  ·exact⟨_,hE,λv q=>by cases q⟩
  ·obtain⟨o,eo,c,d⟩:=hI
   exact⟨o,eo,λv z=>by rw[d]at z;cases z⟩
 keep:=λi h h' st k=>by
  obtain⟨⟨old,hE⟩,hI⟩:=st
  exact⟨⟨old,k e (by simp) _ hE⟩,hI.at λo x=>k it (by simp) o x⟩
 item:=by
  intro X hP hw hK hc i pins s σ H E I hf st hg
  subst hP hw hK
  obtain⟨xs,x,q1,hx⟩:=hg
  obtain⟨its,r1,p1,hz1⟩:=I.list q1
  obtain⟨u,hu,ru⟩:=r1.get hx
  obtain⟨⟨old,hE⟩,hI⟩:=st
  have fe:=hf e (by simp)
  have fi:=hf it (by simp)
  refine wpAny_pyNext_enum_item hE hI p1.isList (x:=u) (by simpa using hu) hei λh' ho hit' hT hsz hk=>?_
  have hp:H s.heap.objs.size=none:=I.hok.fresh (Uc _)
  have inC:∀b,b∈[e,it]->FpOk X pins H b:=λb hb=>hf b hb
  have hk':∀b o,b∉[e,it]->s.heap.get? b=some o->h'.get? b=some o:=λb o hb ee=>hk b o (λq=>hb (by simp[q])) (λq=>hb (by simp[q])) ee
  have nC:∀b v,H b=some v->b∉[e,it]:=λb v ee hb=>by rw[(inC b hb).1]at ee;cases ee
  have nP:∀b v,H b=some v->b≠s.heap.objs.size:=λb v ee=>QF ee hp
  have I1:Inv X pins σ (upd H s.heap.objs.size (.tup [.int (i:Int),x])) {s with heap:=h',toks:=s.toks+1}:=by
   refine I.step (g':=s.gens) (t':=s.toks+1) (d':=s.drawn) (ch:=[e,it]) (λb hb=>⟨(inC b hb).2.2.2.1,(inC b hb).2.1,(inC b hb).2.2.2.2.1,(inC b hb).2.2.2.2.2⟩) (λb o _ _ hb ee _=>hk' b o hb ee) (λb o _ _ hb ee _=>⟨o.slots,hk' b o hb ee⟩)
    (λb o hb ee n=>by rw[Qp (UD (Ui ee))];exact n) (λb o hb ee=>⟨o,hk' b o hb ee⟩) (λb v ee=>by rw[Qp (nP b _ ee)];exact ee) (λb o v ee=>by rw[Qp (nP b _ ee)];exact ee) (λb ps ee=>⟨#[],by rw[Qp (nP b _ ee),ee];simp⟩)
    (λm hm=>?_) (λb v ee=>?_) I.bare
   ·obtain⟨o,es,ep,hoo,rr⟩:=hm
    exact⟨o,es,ep,hk' _ o (λhb=>(inC _ hb).2.1 rfl) hoo,rr⟩
   ·by_cases hb:b=s.heap.objs.size
    ·subst hb
     rw[Ql]at ee;cases ee
     exact⟨by rw[Wj];show 2<=16777216;decide,[.int (i:Int) s.toks,u],.cons ⟨_,rfl⟩ (.cons ru .nil),⟨_,hT,rfl,_,rfl⟩⟩
    ·rw[Qp hb]at ee
     refine(I.hok b v ee).stay (λc' v' hc' q=>?_) (λc' q=>by rw[Qp (nP c' _ q)];exact q) λc' xs' q=>by rw[Qp (nP c' _ q)];exact q
     rcases hc' with rfl|hc'
     ·exact hk' _ _ (nC _ _ ee) q
     ·exact hk' _ _ (nC _ _ hc') q
  refine⟨_,rfl,wpAny_letOwnedTupleGo_enum (s:={s with heap:=h',toks:=s.toks+1}) ho λh'' hE'' hs''=>?_⟩
  have hpe:s.heap.objs.size≠e:=RW (Ui hE)
  have I2:Inv X pins σ (upd H s.heap.objs.size (.tup [.int (i:Int),x])) {s with heap:=h'',toks:=s.toks+1}:=Inv.turned (s:={s with heap:=h',toks:=s.toks+1}) (t':=s.toks+1) I1 (λb o hb ee=>hs''.extBut b o hb ee) (by rw[Qp (Ne.symm hpe)];exact fe.1) fe.2.1 fe.2.2.2.1 fe.2.2.2.2.1 fe.2.2.2.2.2
  have e2:(i:Int)+1=((i+1:Nat):Int):=by omega
  rw[e2]at hE''
  refine⟨.ref s.heap.objs.size,_,I2,rfl,⟨_,x,hp,rfl,rfl,λxs' q=>by rw[I.list_inj q q1];exact hx⟩,⟨⟨_,hE''⟩,hit'.at λo ee=>hs''.extBut _ o (Ne.symm hei) ee⟩,λb hb=>?_⟩
  have lt:b<s.heap.objs.size:=by
   have hb':b=e\/b=it:=by simpa using hb
   rcases hb' with rfl|rfl
   ·exact Ui hE
   ·obtain⟨o,eo,_⟩:=hI
    exact Ui eo
  rw[Qp (UD lt)]
  exact(hf b hb).1
 done:=by
  intro X hP hw hK hc i pins s σ H E I hf st hg
  subst hP hw hK
  obtain⟨xs,q1,hl⟩:=hg
  obtain⟨its,r1,p1,hz1⟩:=I.list q1
  have hlen:=r1.length
  obtain⟨⟨old,hE⟩,hI⟩:=st
  obtain⟨f0,f1,f2,f3,f4,f5⟩:=hf it (by simp)
  exact wpAny_pyNext_enum_end (I.ok.hd hc) hE hI p1.isList (RP (by simp;omega)) λh' eb=>⟨rfl,I.turned (t':=s.toks) (λb o hb ee=>eb b o hb ee) f0 f1 f3 f4 f5⟩
 self:=λ_ _ _ _ _ st h=>by
  obtain⟨⟨old,hE⟩,_⟩:=st
  exact wpAny_pyIter_enum hE h
section
variable{X:Cx}{ca:Nat->Addr}{e1:Expr}{m1:ME}{p pos tp:Pos}{elts:List Expr}{kk:Nat}
theorem QlZ{ta:TA}(hg:Gl X "enumerate")(hm:X.mg "enumerate" = none)(ha:PA X [e1] ta)(hs:starEach [e1] X.env=[(false,eval e1 X.env)]):
  PI X (.Tuple elts kk tp) (.Call (.Name "enumerate" p) [e1] [] pos) (λσ H R=>ta σ H λvs H1=>∃a xs,vs=[.ref a]/\SqL X.K H1 a xs/\R (Ite X.K a) H1):=by
 intro pins s σ H R I h
 refine Call_ (Qaj I hg hm boot_enumerate (UR (thn (ha pos pins s σ H _ I h) λus s1 ⟨vs,H1,I1,r1,q1⟩=>?_) hs rfl))
 obtain⟨a,xs,rfl,hq,q⟩:=q1
 cases r1 with
 |cons ru rr =>
  cases rr
  cases ru
  obtain⟨its,v1,p1,hz⟩:=I1.list hq
  refine call_enumerate_list p1.isList λh' hE hI hsz hk=>wpAny_pyIter_enum hE ?_
  have I2:Inv X pins σ H1 {s1 with heap:=h'}:=I1.kept (t':=s1.toks) hk
  refine⟨s1.heap.objs.size+1,_,_,_,H1,rfl,I2,QiG _ s1.heap.objs.size a (Nat.succ_ne_self _),⟨⟨_,hE⟩,hI⟩,λb hb=>?_,q⟩
  have hb':b=s1.heap.objs.size+1\/b=s1.heap.objs.size:=by simpa using hb
  have hle:s1.heap.objs.size<=b:=by rcases hb' with h|h <;> rw[h] <;> first|exact Uc _|exact Rh _ _
  exact I1.fpOk hle (I1.hok.fresh hle)
theorem QjY{K:Frag}{μ:List Addr}{H:Hp}{g:G}{v1:V}{d1:D}{xs:List D}{t:Nat}(q1:Den K μ H v1 d1)(h1:Qv g d1=some (true,xs)){a1:Addr}(e1:v1=.ref a1):
  Sim K ca μ H ⟨λg i=>(match Qv g d1 with
  |some (_,es)=>(match es[i]? with
   |some x=>some (some (.tup [.int i,x]))
   |none=>some none)
  |none=>none),t⟩ (Ite K a1):=by
 intro i H1 μ1 g1 ex r
 dsimp only
 cases k1:Qv g1 d1 with
 |none=>trivial
 |some p1 =>
  obtain⟨c1,xs1⟩:=p1
  have f1:=Qbg (K:=K) (μ:=μ) (H:=H) (μ':=μ) (H':=H) (v:=v1) h1 k1
  subst f1
  obtain⟨z1,vs,w1,s1,d1s⟩:=Z4 r (q1.mono ex) k1
  rw[e1]at w1;cases w1
  dsimp only
  cases hx:xs1[i]? with
  |none =>
   refine⟨vs,s1,?_⟩
   rw[d1s.length];exact UW.mp hx
  |some x =>
   obtain⟨vx,hvx,qx⟩:=d1s.get hx
   refine⟨⟨vs,vx,s1,hvx⟩,λv H' yl=>?_⟩
   obtain⟨pp,x',hp,rfl,rfl,u1⟩:=yl
   have:=u1 vs s1
   rw[hvx]at this;cases this
   exact⟨QI hp,r.new hp,.tup (.of Ql) (.cons (.int _) (.cons (qx.mono (QI hp)) .nil))⟩
theorem QjZ(hm:X.mg "enumerate" = none)(h1:PE3 ca X e1 m1)(hg:Gl X "enumerate":=by rfl)(hs:starEach [e1] X.env=[(false,eval e1 X.env)]:=by rfl):PI3 ca X (.Tuple elts kk tp) (.Call (.Name "enumerate" p) [e1] [] pos) (Qcp m1) :=
 λpn Φ=>QdA (QlZ (X:=xat X ca pn Φ) hg hm (Yk h1 Qj hs pn Φ) hs) λσ H R hQ=>by
  obtain⟨σ3,g,μ,Rp,q⟩:=hQ
  refine⟨σ3,g,μ,Rp,?_⟩
  unfold Qcp at q
  unfold Qb mNil
  cases hm1:m1 σ3 g with
  |raise _ _=>rw[hm1]at q;exact q
  |stuck=>rw[hm1]at q;exact q.elim
  |ok d1 g1 =>
   rw[hm1,Res.bind_ok]at q
   rw[Res.bind_ok,Res.bind_ok]
   intro vs H1 μ1 ex r1 q1
   unfold QfB at q
   cases hs1:Qv g1 d1 with
   |none=>rw[hs1]at q;exact q.elim
   |some p1 =>
    obtain⟨b,ds⟩:=p1
    rw[hs1]at q
    cases b with
    |false=>exact q.elim
    |true =>
     cases q1 with
     |@cons v _ _ _ n1 q1 =>
      cases q1
      obtain⟨a,ws,rfl,sq,dn⟩:=Z4 r1 n1 hs1
      exact⟨a,ws,rfl,sq,q _ H1 μ1 ex r1 (QjY n1 hs1 rfl)⟩
end
end L3
namespace PySem
open Sem (wp)
namespace F
theorem nolen_lri:typeLookup (.type "list_reverseiterator") "__len__" = pure none:=by rw[typeLookup_type,builtinLookup_eq_fast];kernel_rfl
theorem hint_lri:typeLookup (.type "list_reverseiterator") "__length_hint__" = pure (some (.builtin "list_reverseiterator.__length_hint__")):=by rw[typeLookup_type,builtinLookup_eq_fast];kernel_rfl
end F
section
variable{prog:Program}{w:World}{A:Around}{E:Value->Shared->Prop}{s:Shared}{I:Addr}{fp wr:List Addr}{G:Array GenState->Array GenState->Prop}{n:Nat}{P:Nat->Value->Prop}{St:Nat->Shared->Prop}
theorem Qbj{Q:List Value->Shared->Prop}(W:WalksS prog w A.in1 I fp wr G n P St)(hT:∀i s,St i s->s.TypeIs (.ref I) "list_reverseiterator")(hst:St 0 s)(hfp:∀b∈fp,b<s.heap.objs.size)(hI:I∈fp)(hQ:∀s' acc,Moved wr G s s'->ItemsOf P acc n->Q acc.toList s')(hn:n<=sizeLine):wpAny (model prog w) A (collect (.ref I)) Q E s:=by
 have hSf:s.heap.objs.size∉fp:=λhm=>Te _ (hfp _ hm)
 have hSI:s.heap.objs.size≠I:=λe=>hSf (e ▸ hI)
 unfold collect
 refine Ua (wpAny_runValue (Bi F.entry_proto_collect ?_))
 rw[Wi F.plain_proto_collect _]
 show wpAny _ A.in1 (newList [] >>= λl=>again (.builtin "list.__iadd__" ⟨[l,.ref I],[]⟩)) _ _ s
 refine Ua (U4 ?_)
 refine Uh ⟨W1 F.plain_list_iadd _,Bi F.entry_list_iadd ?_⟩
 rw[Wi F.plain_list_iadd _]
 have hst₁:=W.frame 0 s (s.heap.push {cls:=.type "list",data:=.seq ([]:List Value).toArray}) s.toks hst (Uc _) λb _ o e=>Ub _ e
 have hS₁:(s.heap.push {cls:=.type "list",data:=.seq ([]:List Value).toArray}).get? s.heap.objs.size=some {cls:=.type "list",data:=.seq ([]:List Value).toArray}:=Up _ rfl
 have h1:Builtin.List.listSameRef (.ref s.heap.objs.size) (.ref I)=false:=by simp[Builtin.List.listSameRef,hSI]
 show wpAny _ A.in1 (Builtin.List.listExtendWith (.ref s.heap.objs.size) (.ref I) (.ref s.heap.objs.size)) _ _ _
 unfold Builtin.List.listExtendWith
 refine Ua (RY (hT 0 _ hst₁) ?_)
 rw[Ue (by rw[h1];decide)]
 refine Ua (W.self 0 _ _ _ hst₁ ?_)
 refine Ua (TR ?_)
 unfold Builtin.List.listLengthHint
 refine Ua (Wr (hT 0 _ hst₁) F.nolen_lri ?_)
 show wpAny _ A.in1 (specialOf (Value.ref I) (Str.ofString "__length_hint__") >>= _) _ _ _
 refine Ua (Wr (hT 0 _ hst₁) F.hint_lri ?_)
 (generalize hid:("list_reverseiterator.__length_hint__" : String)=id0;(fail_if_success (clear hid id0));wp_delta;rw[show splitId id0=some ("list_reverseiterator", "__length_hint__") from by subst hid;decide +kernel];subst hid)
 refine Ua (W8 (b:=true) (hT 0 _ hst₁) (by rw[isSubtype_type];kernel_rfl) ?_)
 refine Uh ?_
 rw[Ue (by decide)]
 refine Uh ⟨W1 F.plain_extend_loop _,codeAny_extend_loopS W hn _ hSf _ n 0 _ _ _ rfl (Tc _) hst₁ hS₁ (ItemsOf.nil P) λs' acc' c' hm hS' hacc=>?_⟩
 show wpAny _ A (load s.heap.objs.size >>= _) _ _ s'
 refine Ua (wpAny_load hS' ?_)
 exact Uh (hQ s' acc' (Moved.drop_new (o:={cls:=.type "list",data:=.seq ([]:List Value).toArray}) (tk:=s.toks) hm (Uc _)) hacc)
theorem QaT{Q₁:Value->Shared->Prop}(W:WalksS prog w A.in1.in1 I fp wr G n P St)(hT:∀i s,St i s->s.TypeIs (.ref I) "list_reverseiterator")(hst:St 0 s)(hfp:∀b∈fp,b<s.heap.objs.size)(hI:I∈fp)(h:∀s' acc,Moved wr G s s'->ItemsOf P acc n->Q₁ (.ref s'.heap.objs.size) {s' with heap:=s'.heap.push {cls:=.type "tuple",data:=.seq acc} })(hsz:n<=sizeLine):
  codeAny (model prog w) A (.call (.builtin "tuple.__new__") ⟨[.type "tuple",.ref I],[]⟩) (wants Q₁ E) s:=by
 refine codeAny_of_tree ?_
 show wpAny _ A.in1 (do checkBuiltinCall "tuple.__new__" ⟨[.type "tuple",.ref I],[]⟩;again (.builtin "tuple.__new__" ⟨[.type "tuple",.ref I],[]⟩)) _ _ s
 refine Ua (wpAny_of_eq (F.newCall_tuple_1 _) (Uh ⟨W1 F.plain_tuple_new _,Bi F.entry_tuple_new ?_⟩))
 rw[Wi F.plain_tuple_new _]
 have hsub:=sub_tuple_self
 have hinit:=init_tuple_lookup
 have hmh:=madeHere_tuple
 have hTI:=hT 0 s hst
 wp_walk using RY hTI,Qbj (hn:=hsz) W hT hst hfp hI
 intro s' acc hm hacc
 show wpAny _ _ (Builtin.Tuple.tupleExact acc.toList.toArray >>= λv=>ret v) _ _ _
 unfold Builtin.Tuple.tupleExact
 refine Ua (U4 ?_ (by show acc.toList.toArray.size<=sizeLine;simp only[Array.toArray_toList];rw[hacc.1];exact hsz))
 refine Uh ?_
 have e:acc.toList.toArray=acc:=by simp
 rw[e]
 exact h s' acc hm hacc
theorem QcZ{Q:Value->Shared->Prop}(W:WalksS prog w A.in1.in1.in1 I fp wr G n P St)(hT:∀i s,St i s->s.TypeIs (.ref I) "list_reverseiterator")(hst:St 0 s)(hfp:∀b∈fp,b<s.heap.objs.size)(hI:I∈fp)(hQ:∀s' acc,Moved wr G s s'->ItemsOf P acc n->Q (.ref s'.heap.objs.size) {s' with heap:=s'.heap.push {cls:=.type "tuple",data:=.seq acc} })(hsz:n<=sizeLine):
  wpAny (model prog w) A (call (.type "tuple") [.ref I]) Q E s:=by
 refine callType_codes (Q₁:=λobj s₁=>s₁.TypeIs obj "tuple" /\ Q obj s₁) F.called_tuple (F.typeCall_tuple_1 _) F.entry_object_init
  (QaT (hsz:=hsz) W hT hst hfp hI λs' acc hm hacc=>⟨⟨_,Up _ rfl,rfl⟩,hQ s' acc hm hacc⟩) λobj s₁ h₁=>?_
 exact⟨h₁.1,F.args_object_init_2 obj _,object_init_meets F.called_tuple.init.lookup F.called_tuple.made (by decide) prog w A.in1 _ s₁ ⟨h₁.1,rfl,h₁.2⟩⟩
theorem Qc0{l:Addr}{its:List Value}{Q:Value->Shared->Prop}(hh:A.handled=none)(hne:l≠I)(hit:s.heap.IsRevIter I l ((its.toArray.size:Int) - 1))(hl:s.heap.IsList l its.toArray)(hsz:its.toArray.size<=sizeLine)(hQ:∀(h':Heap) (tk:Nat),(∀b o,b≠I->s.heap.get? b=some o->h'.get? b=some o)->Q (.ref h'.objs.size) {s with heap:=h'.push {cls:=.type "tuple",data:=.seq its.reverse.toArray},toks:=tk}):
  wpAny (model prog w) A (call (.type "tuple") [.ref I]) Q E s:=by
 refine QcZ (Walks.listRev (A:=A.in1.in1.in1) hh I l hne its.toArray).toS (λ_ _ st=>st.2.1.typeIs) ⟨Tc _,by simpa using hit,hl⟩ (λb hb=>?_) (by simp) (λs' acc hm ha=>?_) hsz
 ·obtain⟨o,ho,_⟩:=hit
  obtain⟨o',ho',_⟩:=hl
  rcases UE.mp hb with rfl|hb
  ·exact Ui ho
  ·rw[Uw.mp hb];exact Ui ho'
 ·have e:acc=its.reverse.toArray:=by
   apply Array.ext_getElem?
   intro i
   by_cases hi:i<its.length
   ·have h1:acc[i]?=some (acc[i]'(by rw[ha.1];simpa using hi)):=WQ _
    have h2:=ha.2 i _ h1
    rw[h1,<-h2]
    simp only[Uf,Tx,Bs hi]
   ·have hs:acc.size=its.length:=by rw[ha.1];simp
    rw[RP (by omega),Tx,Ta (by simp;omega)]
  subst e
  have e2:s' = {s with heap:=s'.heap,toks:=s'.toks}:=by
   have a1:=hm.gens
   have a2:=hm.drawn
   have a3:=hm.os
   cases s'
   cases s
   simp only at a1 a2 a3 ⊢
   subst a1 a2 a3
   rfl
  have:=hQ s'.heap s'.toks λb o hb e=>hm.heap b o (by simpa using hb) e
  rw[e2]
  exact this
end
end PySem
namespace L3
open PySem
noncomputable def JR(x:D)(g:G):Res D:=match Qv g x with
 |some (true,ds)=>.ok (.tup ds.reverse) g
 |_=>.stuck
end L3
namespace L3
open PySem PySem.Spec PyProof.Rows L2
theorem QdP:∀{xs:List V}{us:List Value},Vals xs us->Vals xs.reverse us.reverse
 |_,_,.nil=>.nil
 |_,_,.cons h t=>by rw[Ra,Ra];exact(QdP t).append (.cons h .nil)
theorem Dens.rev{K:Frag}{μ:List Addr}{H:Hp}:∀{vs:List V}{ds:List D},Dens K μ H vs ds->Dens K μ H vs.reverse ds.reverse
 |_,_,.nil=>.nil
 |_,_,.cons h t=>by rw[Ra,Ra];exact(Dens.rev t).append (.cons h .nil)
section
variable{X:Cx}{ca:Nat->Addr}{e:Expr}{me:ME}{p p2 pos pos2:Pos}
theorem QiH{ta:TA}(hs0:starEach [.Call (.Name "reversed" p2) [e] [] pos2] X.env=[(false,eval (.Call (.Name "reversed" p2) [e] [] pos2) X.env)])(hg:Gl X "tuple")(hm:X.mg "tuple" = none)(hg2:Gl X "reversed")(hm2:X.mg "reversed" = none)(ha:PA X [e] ta)(hs:starEach [e] X.env=[(false,eval e X.env)])(hc:X.calm=true):
  PE X (.Call (.Name "tuple" p) [.Call (.Name "reversed" p2) [e] [] pos2] [] pos) (λσ H Q=>ta σ H λvs H1=>∃a xs,vs=[.ref a]/\SqL X.K H1 a xs/\∀l,H1 l=none->Q (.ref l) (upd H1 l (.tup xs.reverse))):=by
 intro pins s σ H Q I h
 refine Call_ (Qaj I hg hm boot_tuple (UR ?_ hs0 rfl))
 rw[hs0]
 show wpAny _ _ (spliced ((false,eval (.Call (.Name "reversed" p2) [e] [] pos2) X.env)::[])) _ _ s
 refine WF (Call_ (Qaj I hg2 hm2 boot_reversed (UR (thn (ha pos2 pins s σ H _ I h) λus s1 hv=>?_) hs rfl)))
 obtain⟨vs,H1,I1,r1,a,xs,rfl,hq,q⟩:=hv
 cases r1 with
 |cons r rr =>
  cases rr
  cases r
  have h63:=Qc7
  obtain⟨its,rv,pl,hz⟩:=I1.list hq
  have hl:=rv.length
  obtain⟨f0,f1,f2,f3,f4,f5⟩:=I1.fpOk (Uc _) (I1.hok.fresh (Uc _))
  refine call_reversed_list pl.isList (WT ?_)
  have I2:Inv X pins σ H1 {s1 with heap:=s1.heap.push (revObj a ((its.toArray.size:Int) - 1))}:=I1.kept (t':=s1.toks) λb o e=>Ub _ e
  have ll:a≠s1.heap.objs.size:=λz=>by
   obtain⟨o,ho,_⟩:=pl.isList
   exact absurd (Ui ho) (by rw[z];exact Te _)
  refine Qc0 (I:=s1.heap.objs.size) (l:=a) (its:=its) (s:={s1 with heap:=s1.heap.push (revObj a ((its.toArray.size:Int) - 1))}) (I1.ok.hd hc) ll ⟨_,Up _ rfl,rfl,rfl⟩ (pl.isList.at λo e=>Ub _ e) (by simp only[Uf];omega) λh' tk kp=>?_
  have I3:Inv X pins σ H1 {s1 with heap:=h',toks:=tk}:=I2.turned (t':=tk) (λb o hb e=>kp b o hb e) f0 f1 f3 f4 f5
  refine⟨.ref h'.objs.size,_,I3.laid (t':=tk) (λb o e=>Ub _ e) (Uc _) (show ObjOk X.prog X.w _ _ _ (.tup xs.reverse) from ⟨by rw[Re];exact hz,its.reverse,QdP rv,IsTup.new _ _⟩),rfl,q _ (I3.hok.fresh (Uc _))⟩
theorem Qhg(hc:X.calm=true)(hm:X.mg "tuple" = none)(hm2:X.mg "reversed" = none)(he:PE3 ca X e me)(hs0:starEach [.Call (.Name "reversed" p2) [e] [] pos2] X.env=[(false,eval (.Call (.Name "reversed" p2) [e] [] pos2) X.env)]:=by rfl)(hg:Gl X "tuple":=by rfl)(hg2:Gl X "reversed":=by rfl)(hs:starEach [e] X.env=[(false,eval e X.env)]:=by rfl):
  PE3 ca X (.Call (.Name "tuple" p) [.Call (.Name "reversed" p2) [e] [] pos2] [] pos) (mOp1 JR me) :=
 λpn Φ=>Q3 (QiH (X:=xat X ca pn Φ) hs0 hg hm hg2 hm2 (Yk he Qj hs pn Φ) hs hc) λσ H Q hQ=>by
  obtain⟨σ3,g,μ,R,q⟩:=hQ
  refine⟨σ3,g,μ,R,?_⟩
  unfold mOp1 at q
  unfold Qb mNil
  cases hm:me σ3 g with
  |raise _ _=>rw[hm]at q;exact q
  |stuck=>rw[hm]at q;exact q.elim
  |ok d g1 =>
   rw[hm,Res.bind_ok]at q
   rw[Res.bind_ok,Res.bind_ok]
   intro vs H1 μ1 e1 r1 q1
   cases q1 with
   |@cons v _ _ _ h1 h2 =>
    cases h2
    unfold JR at q
    cases hs1:Qv g1 d with
    |none=>rw[hs1]at q;exact q.elim
    |some p1 =>
     obtain⟨b,ds⟩:=p1
     rw[hs1]at q
     cases b with
     |false=>exact q.elim
     |true =>
      obtain⟨a,ws,rfl,sq,dn⟩:=Z4 r1 h1 hs1
      exact⟨a,ws,rfl,sq,λl hl=>q _ _ μ1 (e1.trans (QI hl)) (r1.new hl) (.tup (.of Ql) (dn.rev.mono (QI hl)))⟩
end
end L3
namespace PySem
open Sem (wp)
section
variable{prog:Program}{w:World}{A:Around}{E:Value->Shared->Prop}{s:Shared}{I:Addr}{fp wr:List Addr}{G:Array GenState->Array GenState->Prop}{n:Nat}{P:Nat->Value->Prop}{St:Nat->Shared->Prop}
theorem Qhh{R:Result->Shared->Prop}(W:WalksS prog w A.in1 I fp wr G n P St)(hT:∀i s,St i s->s.TypeIs (.ref I) "list_reverseiterator")(S:Addr)(res:Value)(c₀:Nat)(hst:St 0 s)(hSf:S∉fp)(hI:I∈fp)(hS:s.heap.get? S=some {cls:=.type "list",data:=.seq #[] c₀})(hR:∀s' acc' c',Moved (S::wr) G s s'->s'.heap.get? S=some {cls:=.type "list",dict:=none,data:=.seq acc' c',slots:=#[]}->ItemsOf P acc' n->R (.ok (.ret res)) s')(hn:n<=sizeLine):
  wpAny (model prog w) A.in1 (Builtin.List.listExtendWith (.ref S) (.ref I) res)
   (λfin s'=>match fin with | .done f=>R (.ok f) s' | .again c'=>c'.quiet=true/\codeAny (model prog w) A c' R s') (λe s'=>R (.error e) s') s:=by
 have hSI:S≠I:=λe=>hSf (e ▸ hI)
 have h1:Builtin.List.listSameRef (.ref S) (.ref I)=false:=by simp[Builtin.List.listSameRef,hSI]
 unfold Builtin.List.listExtendWith
 refine Ua (RY (hT 0 _ hst) ?_)
 rw[Ue (by rw[h1];decide)]
 refine Ua (W.self 0 _ _ _ hst ?_)
 refine Ua (TR ?_)
 unfold Builtin.List.listLengthHint
 refine Ua (Wr (hT 0 _ hst) F.nolen_lri ?_)
 show wpAny _ A.in1 (specialOf (Value.ref I) (Str.ofString "__length_hint__") >>= _) _ _ _
 refine Ua (Wr (hT 0 _ hst) F.hint_lri ?_)
 (generalize hid:("list_reverseiterator.__length_hint__" : String)=id0;(fail_if_success (clear hid id0));wp_delta;rw[show splitId id0=some ("list_reverseiterator", "__length_hint__") from by subst hid;decide +kernel];subst hid)
 refine Ua (W8 (b:=true) (hT 0 _ hst) (by rw[isSubtype_type];kernel_rfl) ?_)
 refine Uh ?_
 rw[Ue (by decide)]
 refine Uh ⟨W1 F.plain_extend_loop _,codeAny_extend_loopS W hn _ hSf _ n 0 _ _ _ rfl (Tc _) hst hS (ItemsOf.nil P) λs' acc' c' hm hS' hacc=>?_⟩
 exact hR s' acc' c' hm hS' hacc
theorem Qj0{R:Result->Shared->Prop}(W:WalksS prog w A.in1 I fp wr G n P St)(hT:∀i s,St i s->s.TypeIs (.ref I) "list_reverseiterator")(S:Addr)(hst:St 0 s)(hSf:S∉fp)(hI:I∈fp)(hS:s.heap.get? S=some {cls:=.type "list",data:=.seq #[]})(hR:∀s' acc' c',Moved (S::wr) G s s'->s'.heap.get? S=some {cls:=.type "list",dict:=none,data:=.seq acc' c',slots:=#[]}->ItemsOf P acc' n->R (.ok (.ret .none)) s')(hn:n<=sizeLine):
  wpAny (model prog w) A.in1 (Builtin.«list.__init__» ⟨[.ref S,.ref I],[]⟩)
   (λfin s'=>match fin with | .done f=>R (.ok f) s' | .again c'=>c'.quiet=true/\codeAny (model prog w) A c' R s') (λe s'=>R (.error e) s') s:=by
 show wpAny _ A.in1 (do let old <-Builtin.List.listItems (.ref S);Builtin.List.listUpdate (.ref S) (λ_=>#[]);letGo old.toList.reverse;Builtin.List.listExtendWith (.ref S) (.ref I) .none) _ _ s
 refine Ua ?_
 unfold Builtin.List.listItems
 refine Ua (TH hS rfl (Uh ?_))
 show wpAny _ A.in1 (updateSeq S (λ_=>#[]) >>= λ_=>letGo (#[]:Array Value).toList.reverse >>= λ_=>Builtin.List.listExtendWith (.ref S) (.ref I) .none) _ _ s
 refine Ua (wpAny_updateSeq hS rfl ?_)
 have hS₂:=Rn (Obj.mapSeq (λ_=>(#[]:Array Value))) hS rfl
 have oth:∀b o,b≠S->s.heap.get? b=some o->(s.heap.update S (Obj.mapSeq (λ_=>(#[]:Array Value)))).get? b=some o:=λb o hb e=>(U6 _ _ (Ne.symm hb)).trans e
 refine Ua (BD ?_)
 refine Qhh (hn:=hn) W hT S .none _ (W.frame 0 s _ s.toks hst (Uc _) λb hb o e=>oth b o (λh=>hSf (h ▸ hb)) e) hSf hI hS₂ λs' acc' c' hm hS' hacc=>?_
 exact hR s' acc' c' (Moved.trans W.gtrans ((Moved.refl W.grefl).then_heap (Uc _) λb o hb e=>oth b o (λh=>hb (h ▸ Uu)) e) hm) hS' hacc
theorem QdQ{Q:Value->Shared->Prop}(W:WalksS prog w A.in1.in1 I fp wr G n P St)(hT:∀i s,St i s->s.TypeIs (.ref I) "list_reverseiterator")(hst:St 0 s)(hfp:∀b∈fp,b<s.heap.objs.size)(hI:I∈fp)(hQ:∀s' acc' c',Moved (s.heap.objs.size::wr) G {s with heap:=s.heap.push {cls:=.type "list",data:=.seq #[]} } s' ->
   s'.heap.get? s.heap.objs.size=some {cls:=.type "list",dict:=none,data:=.seq acc' c',slots:=#[]}->ItemsOf P acc' n->Q (.ref s.heap.objs.size) s')(hn:n<=sizeLine):
  wpAny (model prog w) A (call (.type "list") [.ref I]) Q E s:=by
 have hSf:s.heap.objs.size∉fp:=λhm=>Te _ (hfp _ hm)
 refine callType_codes (Q₁:=λobj s₁=>obj=.ref s.heap.objs.size/\s₁ = {s with heap:=s.heap.push {cls:=.type "list",data:=.seq #[]} }) F.called_list (F.typeCall_list_1 _) F.entry_list_init
  (code_list_new _ ⟨rfl,rfl⟩) λobj s₁ h₁=>?_
 obtain⟨rfl,rfl⟩:=h₁
 have hS:(s.heap.push {cls:=.type "list",data:=.seq #[]}).get? s.heap.objs.size=some {cls:=.type "list",data:=.seq #[]}:=Up _ rfl
 refine⟨⟨_,hS,rfl⟩,F.args_list_init_2 _ _,Qj0 (hn:=hn) W hT _ (W.frame 0 s _ s.toks hst (Uc _) λb _ o e=>Ub _ e) hSf hI hS λs' acc' c' hm hS' hacc=>?_⟩
 exact⟨rfl,hQ s' acc' c' hm hS' hacc⟩
theorem QdR{l:Addr}{its:List Value}{Q:Value->Shared->Prop}(hh:A.handled=none)(hne:l≠I)(hit:s.heap.IsRevIter I l ((its.toArray.size:Int) - 1))(hl:s.heap.IsList l its.toArray)(hsz:its.toArray.size<=sizeLine)(hQ:∀(h':Heap) (tk c:Nat),(∀b o,b≠I->s.heap.get? b=some o->h'.get? b=some o)->h'.get? s.heap.objs.size=some {cls:=.type "list",data:=.seq its.reverse.toArray c}->Q (.ref s.heap.objs.size) {s with heap:=h',toks:=tk}):
  wpAny (model prog w) A (call (.type "list") [.ref I]) Q E s:=by
 refine QdQ (Walks.listRev (A:=A.in1.in1) hh I l hne its.toArray).toS (λ_ _ st=>st.2.1.typeIs) ⟨Tc _,by simpa using hit,hl⟩ (λb hb=>?_) (by simp) (λs' acc c' hm hS ha=>?_) hsz
 ·obtain⟨o,ho,_⟩:=hit
  obtain⟨o',ho',_⟩:=hl
  rcases UE.mp hb with rfl|hb
  ·exact Ui ho
  ·rw[Uw.mp hb];exact Ui ho'
 ·have e:acc=its.reverse.toArray:=by
   apply Array.ext_getElem?
   intro i
   by_cases hi:i<its.length
   ·have h1:acc[i]?=some (acc[i]'(by rw[ha.1];simpa using hi)):=WQ _
    have h2:=ha.2 i _ h1
    rw[h1,<-h2]
    simp only[Uf,Tx,Bs hi]
   ·have hs:acc.size=its.length:=by rw[ha.1];simp
    rw[RP (by omega),Tx,Ta (by simp;omega)]
  subst e
  have e2:s' = {s with heap:=s'.heap,toks:=s'.toks}:=by
   have a1:=hm.gens
   have a2:=hm.drawn
   have a3:=hm.os
   cases s'
   cases s
   simp only at a1 a2 a3 ⊢
   subst a1 a2 a3
   rfl
  have:=hQ s'.heap s'.toks c' (λb o hb e=>hm.heap b o (by simp;exact⟨UD (Ui e),hb⟩) (Ub _ e)) hS
  rw[e2]
  exact this
end
end PySem
namespace L2
open PySem PySem.Spec PyProof.Rows
section
variable{κ:Type}[DecidableEq κ]
noncomputable def valV(kvs:List (κ×V))(k:κ):Option V:=(kvs.find? λkv=>decide (kv.1=k)).map (·.2)
noncomputable def putK(kvs:List (κ×V))(k:κ)(v:V):List (κ×V) :=
 if (kvs.any λkv=>decide (kv.1=k))=true then kvs.map (λkv=>if kv.1=k then (kv.1,v) else kv) else kvs++[(k,v)]
noncomputable def QeN(kvs:List (κ×V))(k:κ):List (κ×V):=kvs.filter λkv=>decide (kv.1≠k)
theorem Qgv{p:κ×V}{r:List (κ×V)}{k:κ}(e:p.1=k):valV (p::r) k=some p.2:=by simp[valV,UO,e]
theorem Qgw{p:κ×V}{r:List (κ×V)}{k:κ}(e:¬p.1=k):valV (p::r) k=valV r k:=by simp[valV,UO,e]
theorem QfC(kvs:List (κ×V))(k:κ)(v:V):(putK kvs k v).length<=kvs.length+1:=by
 unfold putK
 split
 ·rw[Ur];omega
 ·rw[Us,US,List.length_nil];omega
theorem RelO.getD{o:Option V}{u:Option Value}{d:V}{d':Value}(r:RelO o u)(rd:RelV d d'):RelV (o.getD d) (u.getD d'):=by
 cases o with
 |none=>cases u with
  |none=>exact rd
  |some _=>exact(show False from r).elim
 |some _=>cases u with
  |none=>exact(show False from r).elim
  |some _=>exact r
theorem KV.val{kvs:List (κ×V)}{vs:List (κ×Value)}(r:KV kvs vs)(k:κ):RelO (valV kvs k) (valueAt vs k):=by
 unfold KV at r
 induction r with
 |nil=>exact True.intro
 |@cons p q ps qs h t ih =>
  obtain⟨h1,h2⟩:=h
  by_cases e:p.1=k
  ·have e':q.1=k:=h1.symm.trans e
   have b:valueAt (q::qs) k=some q.2:=by simp[valueAt,UO,e']
   rw[Qgv e,b];exact h2
  ·have e':¬q.1=k:=λz=>e (h1.trans z)
   have b:valueAt (q::qs) k=valueAt qs k:=by simp[valueAt,UO,e']
   rw[Qgw e,b];exact ih
theorem KV.any{kvs:List (κ×V)}{vs:List (κ×Value)}(r:KV kvs vs)(k:κ):(kvs.any λkv=>decide (kv.1=k))=vs.any λkv=>decide (kv.1=k):=by
 unfold KV at r
 induction r with
 |nil=>rfl
 |cons h t ih=>rw[TV,TV,ih,h.1]
theorem KV.repl{kvs:List (κ×V)}{vs:List (κ×Value)}(r:KV kvs vs)(k:κ){y:V}{u:Value}(ry:RelV y u):
  KV (kvs.map λkv=>if kv.1=k then (kv.1,y) else kv) (vs.map λkv=>if kv.1=k then (kv.1,u) else kv):=by
 unfold KV at r ⊢
 induction r with
 |nil=>exact .nil
 |@cons p q ps qs h t ih =>
  rw[UI,UI]
  refine .cons ?_ ih
  obtain⟨h1,h2⟩:=h
  by_cases e:p.1=k
  ·rw[Ud e,Ud (h1.symm.trans e)];exact⟨h1,ry⟩
  ·rw[Ue e,Ue (λz=>e (h1.trans z))];exact⟨h1,h2⟩
theorem KV.put{kvs:List (κ×V)}{vs:List (κ×Value)}(r:KV kvs vs)(k:κ){y:V}{u:Value}(ry:RelV y u):KV (putK kvs k y) (stored vs k u):=by
 unfold putK stored
 rw[r.any k]
 by_cases e:(vs.any λkv=>decide (kv.1=k))=true
 ·rw[Ud e,Ud e];exact r.repl k ry
 ·rw[Ue e,Ue e];exact Paired.snoc r ⟨rfl,ry⟩
theorem KV.drop{kvs:List (κ×V)}{vs:List (κ×Value)}(r:KV kvs vs)(k:κ):KV (QeN kvs k) (without vs k):=by
 unfold KV at r ⊢
 unfold QeN without
 induction r with
 |nil=>exact .nil
 |@cons p q ps qs h t ih =>
  obtain⟨h1,h2⟩:=h
  rw[TW,TW]
  by_cases e:p.1=k
  ·have a:¬decide (p.1≠k)=true:=by simp[e]
   have b:¬decide (q.1≠k)=true:=by simp[h1.symm.trans e]
   rw[Ue a,Ue b];exact ih
  ·have e':¬q.1=k:=λz=>e (h1.trans z)
   have a:decide (p.1≠k)=true:=by simp[e]
   have b:decide (q.1≠k)=true:=by simp[e']
   rw[Ud a,Ud b];exact .cons ⟨h1,h2⟩ ih
theorem KV.length{kvs:List (κ×V)}{vs:List (κ×Value)}(r:KV kvs vs):kvs.length=vs.length:=Paired.length r
theorem Qj1(kvs:List (κ×V))(k:κ):(QeN kvs k).length<=kvs.length:=Wb _ _
end
theorem Qj2{P:Program}{w:World}{k:Key}{u:Value}(r:RelV (kV k) u):(Yt P w).is k u=true:=by
 cases k with
 |inl i=>obtain⟨t,e⟩:=(show ∃t,u=Value.int i t from r);subst e;exact Qfi P w i t
 |inr x=>obtain⟨t,e⟩:=(show ∃t,u=Value.str x t from r);subst e;exact Qfj P w x t
section
variable{P:Program}{w:World}{H:Hp}{h:Heap}{a:Addr}
theorem Qo4{u:HO}(ok:HOk P w H h)(e:Rd H a u):ObjOk P w H h a u:=e.ok ok
theorem Qo5{kvs:List (Key×V)}(ok:HOk P w H h)(e:Rd H a (.dK kvs)):kvs.length<=sizeLine/\(a == sysModules)=false/\∃vs,KV kvs vs/\h.DictOf (Yt P w) a vs :=
 show ObjOk P w H h a (.dK kvs) from Qo4 ok e
theorem QiI{kvs:List (Key×V)}(ok:HOk P w H h)(e:H a=some (.dK kvs)):kvs.length<=sizeLine/\(a == sysModules)=false/\∃vs,KV kvs vs/\h.DictOf (Yt P w) a vs:=Qo5 ok (.inl e)
end
section
variable{X:Cx}{pins:List (Addr×Obj)}{σ:St}{H:Hp}{s:Shared}{a:Addr}{y v:V}{u r:Value}{o:Option V}{A:Around}{E:Value->Shared->Prop}
theorem Inv.big(I:Inv X pins σ H s):sysModules<s.heap.objs.size:=by
 have h:mainGlobals<s.heap.objs.size:=(I.mod.glob.keeps I.bk).lt
 exact Nat.lt_trans (by decide) h
theorem QiJ{h':Heap}{t':Nat}{ob:HO}(I:Inv X pins σ H s)(mu:Mut (H a))(hs:Heap.SameBut a s.heap h')(he:∃q,h'.get? a=some q)(new:ObjOk X.prog X.w (upd H a ob) h' a ob):
  Inv X pins σ (upd H a ob) {s with heap:=h',toks:=t'} :=
 I.write (x:=a) (e:=a) mu (.inl rfl) (λb q hb z=>(hs.2 b hb).trans z) he new
theorem QkY{P:Program}{w:World}{H':Hp}{h':Heap}{kvs:List (Key×V)}{vs:List (Key×Value)}(z:kvs.length<=sizeLine)(hd:(a == sysModules)=false)(rel:KV kvs vs)(dd:h'.DictOf (Yt P w) a vs):
  ObjOk P w H' h' a (.dK kvs):=⟨z,hd,vs,rel,dd⟩
end
section
variable{X:Cx}{pins:List (Addr×Obj)}{σ:St}{H:Hp}{s:Shared}{a:Addr}{kvs:List (Key×V)}{k:Key}{u:Value}{A:Around}{E:Value->Shared->Prop}
theorem Qo6{v:V}{more:List Value}{Q:Value->Shared->Prop}(I:Inv X pins σ H s)(e:H a=some (.dK kvs))(ry:RelV (kV k) u)(l:valV kvs k=some v)(hm:more=[]\/∃x,more=[x])(h:∀w' s',Inv X pins σ (upd H a (.dK (QeN kvs k))) s'->RelV v w'->Q w' s'):wpAny (model X.prog X.w) A (call (.builtin "dict.pop") (.ref a::u::more)) Q E s:=by
 obtain⟨z,hd,vs,rel,dd⟩:=QiI I.hok e
 obtain⟨w',hw,rw'⟩:=RelO.some_of (v:=v) (o:=valueAt vs k) (by rw[<-l];exact rel.val k)
 have hp:(keyPart u).isSome=true:=by
  cases k with
  |inl i=>obtain⟨t,q⟩:=(show ∃t,u=Value.int i t from ry);subst q;rfl
  |inr x=>obtain⟨t,q⟩:=(show ∃t,u=Value.str x t from ry);subst q;rfl
 have ha:argsOk "dict.pop" ⟨.ref a::u::more,[]⟩:=by
  rcases hm with q|⟨x,q⟩
  ·subst q;exact PySem.F.args_dict_pop_2 _ _
  ·subst q;exact PySem.F.args_dict_pop_3 _ _ _
 refine call_meetsIn Bt dd.typeIs PySem.F.entry_dict_pop ha (meets_dict_pop_there (Yt X.prog X.w) a (Qj2 ry) more hm hp)
  ⟨vs,w',dd,by rw[<-rel.length];exact z,hw,λh' dd' hs=>h w' _ ?_ rw'⟩
 have he:∃q,h'.get? a=some q:=let ⟨q,_,_,hq,_⟩:=dd';⟨q,hq⟩
 exact QiJ I (by rw[e];exact True.intro) hs he (QkY (Ut (Qj1 kvs k) z) hd (rel.drop k) dd')
end
section
variable{X:Cx}{o i e value:Expr}{pos pos' tpos:Pos}{td ty tv:TE}
end
theorem Qj3{P:Program}{w:World}{H:Hp}(h:Heap)(hb:sysModules<h.objs.size):ObjOk P w H (h.push {cls:=.type "dict",data:=.dict #[]}) h.objs.size (.dK []) :=
 ⟨Tc _,Ts.mpr (Ne.symm (UD hb)),[],.nil,Heap.DictOf.new h⟩
noncomputable def QnW:TE:=λ_ H Q=>∀p,H p=none->Q (.ref p) (upd H p (.dK []))
section
variable{X:Cx}{pos:Pos}
theorem Qj4:PE X (.Dict [] [] pos) QnW:=λpins s σ H Q I h =>
 wpAny_Dict_empty ⟨.ref s.heap.objs.size,_,I.laid (a:=s.heap.objs.size) (o:=.dK []) (t':=s.toks) (λ_ _ q=>Ub _ q) (Uc _) (Qj3 s.heap I.big),rfl,h _ (I.hok.fresh (Uc _))⟩
end
section
variable{X:Cx}{pins:List (Addr×Obj)}{σ:St}{H:Hp}{s:Shared}{a:Addr}{y d:V}{u r:Value}{o:Option V}{A:Around}{E:Value->Shared->Prop}
end
section
variable{X:Cx}{o e f:Expr}{apos cpos:Pos}{td ty tx:TE}
end
section
variable{X:Cx}{pins:List (Addr×Obj)}{σ:St}{H:Hp}{s:Shared}{a:Addr}{kvs:List (Key×V)}{A:Around}{E:Value->Shared->Prop}
end
section
variable{X:Cx}{pins:List (Addr×Obj)}{σ:St}{H:Hp}{s:Shared}{a:Addr}{y:V}{u:Value}{A:Around}{E:Value->Shared->Prop}
end
end L2
namespace L3
open PySem
noncomputable abbrev DK:=Sum Int Str
noncomputable def dGet(ks:List (DK×D))(k:DK):Option D:=(ks.find? λp=>decide (p.1=k)).map (·.2)
noncomputable def dPut(ks:List (DK×D))(k:DK)(v:D):List (DK×D):=if (ks.any λp=>decide (p.1=k))=true then ks.map λp=>if p.1=k then (p.1,v) else p else ks++[(k,v)]
noncomputable def QbI(ks:List (DK×D))(k:DK):List (DK×D):=ks.filter λp=>decide (p.1≠k)
noncomputable def Qj5:ME:=λ_ g=>.ok (.ref g.length) (g++[.dct []])
noncomputable def QeO(o k x:ME):ME:=λσ g=>(o σ g).bind λa g1=>match a with
 |.ref n=>(match g1[n]? with
  |some (.dct _)=>(k σ g1).bind λy g2=>(x σ g2).bind λz g3=>(match y with
   |.int i=>(match g3[n]? with
    |some (.dct ks)=>.ok ((dGet ks (.inl i)).getD z) g3
    |_=>.stuck)
   |_=>.stuck)
  |_=>.stuck)
 |_=>.stuck
noncomputable def QiK(o k:ME):ME:=λσ g=>(o σ g).bind λa g1=>match a with
 |.ref n=>(match g1[n]? with
  |some (.dct _)=>(k σ g1).bind λy g2=>(match y with
   |.int i=>(match g2[n]? with
    |some (.dct ks)=>(match dGet ks (.inl i) with
     |some v=>.ok v (g2.set n (.dct (QbI ks (.inl i))))
     |none=>.stuck)
    |_=>.stuck)
   |_=>.stuck)
  |_=>.stuck)
 |_=>.stuck
noncomputable def Qhi(o k v:ME):MS:=λσ g=>match v σ g with
 |.ok y g1=>(match o σ g1 with
  |.ok (.ref n) g2=>(match k σ g2 with
   |.ok (.int i) g3=>(match g3[n]? with
    |some (.dct ks)=>if ks.length<SZ then .nx σ (g3.set n (.dct (dPut ks (.inl i) y))) else .stuck
    |_=>.stuck)
   |.raise e g'=>.raise e σ g'
   |_=>.stuck)
  |.raise e g'=>.raise e σ g'
  |_=>.stuck)
 |.raise e g'=>.raise e σ g'
 |.stuck=>.stuck
end L3
namespace L3
open PySem PySem.Spec PyProof.Rows L2
section
variable{K:Frag}{μ:List Addr}{H:Hp}
theorem KRel.get{kv:List (Key×V)}{ks:List (Key×D)}(r:KRel K μ H kv ks)(k:Key):(valV kv k=none/\dGet ks k=none)\/∃v d,valV kv k=some v/\dGet ks k=some d/\Den K μ H v d:=by
 unfold KRel at r
 induction r with
 |nil=>exact .inl ⟨rfl,rfl⟩
 |@cons p q ps qs h t ih =>
  obtain⟨h1,h2⟩:=h
  by_cases e:p.1=k
  ·refine .inr ⟨p.2,q.2,Qgv e,?_,h2⟩
   unfold dGet;rw[UO,UC (h1.symm.trans e)];rfl
  ·have e':dGet (q::qs) k=dGet qs k:=by
    unfold dGet;rw[UO,UB (λz=>e (h1.trans z))]
   rw[Qgw e,e'];exact ih
theorem KRel.put{kv:List (Key×V)}{ks:List (Key×D)}{v:V}{d:D}(r:KRel K μ H kv ks)(k:Key)(h:Den K μ H v d):KRel K μ H (putK kv k v) (dPut ks k d):=by
 have ha:(kv.any λp=>decide (p.1=k))=ks.any λp=>decide (p.1=k):=by
  unfold KRel at r
  induction r with
  |nil=>rfl
  |cons h t ih=>rw[TV,TV,ih,h.1]
 unfold putK dPut
 rw[ha]
 by_cases e:(ks.any λp=>decide (p.1=k))=true
 ·rw[Ud e,Ud e]
  clear ha e
  unfold KRel at r ⊢
  induction r with
  |nil=>exact .nil
  |@cons p q ps qs hp t ih =>
   rw[UI,UI]
   refine .cons ?_ ih
   obtain⟨h1,h2⟩:=hp
   by_cases e:p.1=k
   ·rw[Ud e,Ud (h1.symm.trans e)];exact⟨h1,h⟩
   ·rw[Ue e,Ue (λz=>e (h1.trans z))];exact⟨h1,h2⟩
 ·rw[Ue e,Ue e];exact Paired.snoc r ⟨rfl,h⟩
theorem KRel.drop{kv:List (Key×V)}{ks:List (Key×D)}(r:KRel K μ H kv ks)(k:Key):KRel K μ H (QeN kv k) (QbI ks k):=by
 unfold KRel at r ⊢
 unfold QeN QbI
 induction r with
 |nil=>exact .nil
 |@cons p q ps qs h t ih =>
  obtain⟨h1,h2⟩:=h
  rw[TW,TW,<-h1]
  by_cases e:decide (p.1≠k)=true
  ·rw[Ud e,Ud e];exact .cons ⟨h1,h2⟩ ih
  ·rw[Ue e,Ue e];exact ih
end
section
variable{X:Cx}
theorem Qj6:MtR X "dict.get" (λx vs H Q=>∃a kvs k d,x=.ref a/\vs=[kV k,d]/\H a=some (.dK kvs)/\Q ((valV kvs k).getD d) H):=by
 intro pins s σ H x vs v us Q I rx rv h
 obtain⟨a,kvs,k,d,rfl,rfl,e,q⟩:=h
 cases rx
 cases rv with
 |cons ry r2=>cases r2 with
  |cons rd r3 =>
   cases r3
   obtain⟨z,hd,vs,rel,dd⟩:=QiI I.hok e
   exact call_meetsIn Bu dd.typeIs PySem.F.entry_dict_get (PySem.F.args_dict_get_3 _ _ _) (meets_dict_get_default (Yt X.prog X.w) a (Qj2 ry) hd _) ⟨_,dd.mapOf,_,H,I.tok _,(rel.val k).getD rd,q⟩
theorem Ql0:MtR X "dict.pop" (λx vs H Q=>∃a kvs k v,x=.ref a/\vs=[kV k]/\H a=some (.dK kvs)/\valV kvs k=some v/\Q v (upd H a (.dK (QeN kvs k)))):=by
 intro pins s σ H x vs v us Q I rx rv h
 obtain⟨a,kvs,k,w,rfl,rfl,e,l,q⟩:=h
 cases rx
 obtain⟨u,rfl,ru⟩:=rv.one
 exact Qo6 I e ru l (.inl rfl) λw' s' I' rw'=>⟨_,_,I',rw',q⟩
theorem Qj7:PSet X (λo i v H Q=>∃a kvs k,o=.ref a/\i=kV k/\H a=some (.dK kvs)/\kvs.length<sizeLine/\Q (upd H a (.dK (putK kvs k v)))):=by
 intro pins s σ H o i v ov iv u Q I ro ri rv h
 obtain⟨a,kvs,k,rfl,rfl,e,l,q⟩:=h
 cases ro
 obtain⟨z,hd,vs,rel,dd⟩:=QiI I.hok e
 have hz:vs.length<=sizeLine:=by rw[<-rel.length];exact z
 have hl:(putK kvs k v).length<=sizeLine:=by have:=QfC kvs k v;omega
 refine wpAny_setItem_pairs (hsz:=hz) (Qj2 ri) dd λh' dd' hs=>?_
 have he:∃q,h'.get? a=some q:=let ⟨q,_,_,hq,_⟩:=dd';⟨q,hq⟩
 exact⟨_,QiJ I (by rw[e];exact True.intro) hs he (QkY hl hd (rel.put k rv) dd'),q⟩
end
section
variable{X:Cx}{ca:Nat->Addr}{o e f:Expr}{mo me mf:ME}{p pos apos:Pos}
theorem QnX:PE3 ca X (.Dict [] [] pos) Qj5 :=
 λpn Φ=>Q3 (Qj4 (X:=xat X ca pn Φ)) λσ H Q ⟨σ3,g,μ,R,q⟩=>λt ht=>q _ _ (μ++[t]) (Qq ht) (R.g.push ht ⟨[],Ql,.nil⟩) (.ref (by rw[<-R.g.len];simp))
theorem Ql1(ho:PE3 ca X o mo)(he:PE3 ca X e me)(hf:PE3 ca X f mf)(hbase:attributeBase o "get" X.env (eval o X.env)=eval o X.env:=by rfl)(hfew:((backTo pos (starEach [e,f] X.env)).all (λx=>!x.1) && (backToKw pos (keywordEach [] X.env)).all (λx=>x.1.isSome) && decide ([e,f].length+([]:List Keyword).length+(if ([]:List Keyword).isEmpty then 0 else 1)<30))=true:=by rfl)(hline:(apos.endLine == pos.line)=true:=by rfl)(hs:starEach [e,f] X.env=(false,eval e X.env)::starEach [f] X.env:=by rfl)(hs2:starEach [f] X.env=(false,eval f X.env)::starEach [] X.env:=by rfl)(hplain:(backTo pos (starEach [f] X.env)).any (·.1)=false:=by rfl):
  PE3 ca X (.Call (.Attribute o "get" apos) [e,f] [] pos) (QeO mo me mf) :=
 λpn Φ=>Q3 (QjI (X:=xat X ca pn Φ) W6 Bu PySem.F.type_dict_get Qj6 (ho pn Φ) (Yk he (Yk hf Qj hs2) hs pn Φ) hbase hfew hline hs hplain) λσ H Q ⟨σ3,g,μ,R,q⟩=>QZ (Jn R q) λx H1 hQ=>by
  obtain⟨d,g1,μ1,e1,R1,q1,p1⟩:=hQ
  cases q1 with
  |@ref n t hn =>
   dsimp only at p1
   cases hgn:g1[n]? with
   |none=>rw[hgn]at p1;exact p1.elim
   |some ob =>
    rw[hgn]at p1
    obtain⟨t',ht',orp⟩:=R1.g.addr hgn
    rw[hn]at ht';cases ht'
    cases ob with
    |dct ks0 =>
     obtain⟨kv0,hH0,_⟩:=orp
     dsimp only at p1
     refine⟨.inr (.inr (.inl ⟨rfl,.inl ⟨_,hH0⟩⟩)),σ3,g1,μ1,R1,?_⟩
     unfold Qb mNil
     cases hm:me σ3 g1 with
     |raise _ _=>rw[hm]at p1;exact p1
     |stuck=>rw[hm]at p1;exact p1.elim
     |ok y g2 =>
      rw[hm,Res.bind_ok]at p1
      rw[Res.bind_ok]
      cases hm2:mf σ3 g2 with
      |raise _ _=>rw[hm2]at p1;exact p1
      |stuck=>rw[hm2]at p1;exact p1.elim
      |ok z g3 =>
       rw[hm2,Res.bind_ok]at p1
       rw[Res.bind_ok,Res.bind_ok,Res.bind_ok]
       intro vs H2 μ2 e2 r2 q2
       cases q2 with
       |cons h1 h2=>cases h2 with
        |cons h2 h3 =>
         cases h3
         cases h1 with
         |int i =>
          dsimp only at p1
          cases hg2:g3[n]? with
          |none=>rw[hg2]at p1;exact p1.elim
          |some ob2 =>
           rw[hg2]at p1
           obtain⟨t',ht',orp⟩:=r2.addr hg2
           rw[e2.at hn]at ht';cases ht'
           cases ob2 with
           |dct ks =>
            obtain⟨kv,hH,qs⟩:=orp
            dsimp only at p1
            refine⟨t,kv,.inl i,_,rfl,rfl,hH,p1 _ _ μ2 e2 r2 ?_⟩
            rcases qs.get (.inl i) with⟨a,b⟩|⟨v,d,a,b,c⟩
            ·rw[a,b];exact h2
            ·rw[a,b];exact c
           |_=>exact p1.elim
         |_=>exact p1.elim
    |_=>exact p1.elim
  |_=>exact p1.elim
theorem QnY(ho:PE3 ca X o mo)(he:PE3 ca X e me)(hbase:attributeBase o "pop" X.env (eval o X.env)=eval o X.env:=by rfl)(hfew:((backTo pos (starEach [e] X.env)).all (λx=>!x.1) && (backToKw pos (keywordEach [] X.env)).all (λx=>x.1.isSome) && decide ([e].length+([]:List Keyword).length+(if ([]:List Keyword).isEmpty then 0 else 1)<30))=true:=by rfl)(hline:(apos.endLine == pos.line)=true:=by rfl)(hs:starEach [e] X.env=(false,eval e X.env)::starEach [] X.env:=by rfl)(hplain:(backTo pos (starEach [] X.env)).any (·.1)=false:=by rfl):
  PE3 ca X (.Call (.Attribute o "pop" apos) [e] [] pos) (QiK mo me) :=
 λpn Φ=>Q3 (QjI (X:=xat X ca pn Φ) W6 Bt PySem.F.type_dict_pop Ql0 (ho pn Φ) (Yk he Qj hs pn Φ) hbase hfew hline hs hplain) λσ H Q ⟨σ3,g,μ,R,q⟩=>QZ (Jn R q) λx H1 hQ=>by
  obtain⟨d,g1,μ1,e1,R1,q1,p1⟩:=hQ
  cases q1 with
  |@ref n t hn =>
   dsimp only at p1
   cases hgn:g1[n]? with
   |none=>rw[hgn]at p1;exact p1.elim
   |some ob =>
    rw[hgn]at p1
    obtain⟨t',ht',orp⟩:=R1.g.addr hgn
    rw[hn]at ht';cases ht'
    cases ob with
    |dct ks0 =>
     obtain⟨kv0,hH0,_⟩:=orp
     dsimp only at p1
     refine⟨.inr (.inr (.inl ⟨rfl,.inl ⟨_,hH0⟩⟩)),σ3,g1,μ1,R1,?_⟩
     unfold Qb mNil
     cases hm:me σ3 g1 with
     |raise _ _=>rw[hm]at p1;exact p1
     |stuck=>rw[hm]at p1;exact p1.elim
     |ok y g2 =>
      rw[hm,Res.bind_ok]at p1
      rw[Res.bind_ok,Res.bind_ok]
      intro vs H2 μ2 e2 r2 q2
      cases q2 with
      |cons h1 h2 =>
       cases h2
       cases h1 with
       |int i =>
        dsimp only at p1
        cases hg2:g2[n]? with
        |none=>rw[hg2]at p1;exact p1.elim
        |some ob2 =>
         rw[hg2]at p1
         obtain⟨t',ht',orp⟩:=r2.addr hg2
         rw[e2.at hn]at ht';cases ht'
         cases ob2 with
         |dct ks =>
          obtain⟨kv,hH,qs⟩:=orp
          dsimp only at p1
          rcases qs.get (.inl i) with⟨a,b⟩|⟨v,d,a,b,c⟩
          ·rw[b]at p1;exact p1.elim
          ·rw[b]at p1
           have ex:Ext X.K μ2 H2 μ2 (upd H2 t (.dK (QeN kv (.inl i)))):=JK hH (by intro _ z;cases z) (by intro _ _ z;cases z)
           refine⟨t,kv,.inl i,v,rfl,rfl,hH,a,p1 _ _ μ2 (e2.trans ex) ?_ (c.mono ex)⟩
           exact r2.set (e2.at hn) hH (by intro _ z;cases z) (by intro _ _ z;cases z) ⟨_,Ql,(qs.mono ex).drop _⟩
         |_=>exact p1.elim
       |_=>exact p1.elim
    |_=>exact p1.elim
  |_=>exact p1.elim
theorem QnZ{i:Expr}{mi:ME}{pos':Pos}(ho:PE3 ca X o mo)(hi:PE3 ca X i mi)(he:PE3 ca X e me)(hs:swapsWithSole [.Subscript o i pos'] e pos.line X.env=pure false:=by rfl)(hw:swappedStores [.Subscript o i pos'] e X.env=pure none:=by rfl)(h1:(assignEach [.Subscript o i pos'] X.env).map (·.2)=[assign (.Subscript o i pos') X.env]:=by rfl)(ha:∀v,assign (.Subscript o i pos') X.env v=(do
   let ov <-holding [v] (eval o X.env)
   let iv <-holding [v,ov] (eval i X.env)
   standAt pos'
   holding [v,ov,iv] (setItem ov iv v)
   release [v,ov,iv] []):=by intro _;rfl):PS3 ca X (.Assign [.Subscript o i pos'] e pos) (Qhi mo mi me) :=
 λpn Φ=>ZW (QhK (X:=xat X ca pn Φ) (he pn Φ) (QkE (X:=xat X ca pn Φ) (ho pn Φ) (hi pn Φ) Qj7 ha) hs hw h1) λE σ H ⟨σ3,g,μ,R,p⟩=>⟨σ3,g,μ,R,by
  unfold Qhi at p
  cases hm:me σ3 g with
  |ok y g1 =>
   rw[hm]at p
   dsimp only at p
   intro vy H1 μ1 e1 r1 q1
   refine⟨σ3,g1,μ1,R.go e1 r1,?_⟩
   cases hm2:mo σ3 g1 with
   |ok d g2 =>
    rw[hm2]at p
    intro vx H2 μ2 e2 r2 q2
    cases q2 with
    |@ref n a hn =>
     dsimp only at p
     refine⟨σ3,g2,μ2,R.go (e1.trans e2) r2,?_⟩
     cases hm3:mi σ3 g2 with
     |ok di g3 =>
      rw[hm3]at p
      intro vi H3 μ3 e3 r3 q3
      cases q3 with
      |int k =>
       dsimp only at p
       cases hg:g3[n]? with
       |none=>rw[hg]at p;exact p.elim
       |some ob =>
        rw[hg]at p
        obtain⟨a',ha',orp⟩:=r3.addr hg
        rw[e3.at hn]at ha';cases ha'
        cases ob with
        |dct ks =>
         dsimp only at p
         obtain⟨kv,hH,q⟩:=orp
         by_cases z:ks.length<SZ
         ·rw[Ud z]at p
          have ex:Ext X.K μ3 H3 μ3 (upd H3 a (.dK (putK kv (.inl k) vy))):=JK hH (by intro _ z;cases z) (by intro _ _ z;cases z)
          refine⟨a,kv,.inl k,rfl,rfl,hH,by rw[Paired.length q];exact Uq z Y3,?_⟩
          refine p σ _ μ3 (((e1.trans e2).trans e3).trans ex) ((R.go ((e1.trans e2).trans e3) r3).go ex ?_)
          exact r3.set (e3.at hn) hH (by intro _ z;cases z) (by intro _ _ z;cases z) ⟨_,Ql,(q.mono ex).put _ (((q1.mono e2).mono e3).mono ex)⟩
         ·rw[Ue z]at p;exact p.elim
        |_=>exact p.elim
      |_=>exact p.elim
     |raise _ _=>rw[hm3]at p;exact(RaP.stmt R p).go (e1.trans e2)
     |stuck=>rw[hm3]at p;exact p
    |_=>exact p.elim
   |raise _ _=>rw[hm2]at p;exact(RaP.stmt R p).go e1
   |stuck=>rw[hm2]at p;exact p
  |raise _ _=>rw[hm]at p;exact RaP.stmt R p
  |stuck=>rw[hm]at p;exact p⟩
end
end L3
namespace L3
open PySem
noncomputable def Qhj(x y:D)(g:G):Res D:=match x,y with
 |.int i,.int j=>.ok (.int (if j<i then j else i)) g
 |_,_=>.stuck
noncomputable def QfD(o e:ME):ME:=λσ g=>(o σ g).bind λx g1=>match x with
 |.ref n=>(match g1[n]? with
  |some (.lst _)=>(e σ g1).bind λy g2=>(match y with
   |.ref m=>(match g2[n]?,g2[m]? with
    |some (.lst ds),some (.lst es)=>if n≠m/\ds.length+es.length<=SZ then .ok .non (g2.set n (.lst (ds++es))) else .stuck
    |_,_=>.stuck)
   |_=>.stuck)
  |_=>.stuck)
 |_=>.stuck
noncomputable def Yn:List (DK×D)->Option (List Int)
 |[]=>some []
 | (.inl i,_)::r=>(Yn r).map (i :: ·)
 |_::_=>none
noncomputable def QbJ(x:D)(g:G):Res D:=match x with
 |.ref n=>(match g[n]? with
  |some (.dct ks)=>(match Yn ks with
   |some is=>if is.length<=100000 then .ok (.ref g.length) (g++[.lst (is.map .int)]) else .stuck
   |none=>.stuck)
  |_=>.stuck)
 |_=>.stuck
noncomputable def pDIx(x y:D)(g:G):Res D:=match x,y with
 |.ref n,.int i=>(match g[n]? with
  |some (.dct ks)=>(match dGet ks (.inl i) with
   |some v=>.ok v g
   |none=>.stuck)
  |_=>.stuck)
 |_,_=>.stuck
end L3
namespace L3
open PySem PySem.Spec PyProof.Rows L2
section
variable{X:Cx}
theorem Ql2{i:Int}{v:Value}(h:Qfh (.inl i) v=true):∃t,v=.int i t:=by
 rcases QY h with⟨j,t,e1,e2⟩|⟨x,t,e1,e2⟩
 ·cases e1;exact⟨t,e2⟩
 ·cases e1
theorem Ql3{kvs:List (Key×V)}{vs:List (Key×Value)}(rel:KV kvs vs):kvs.map (·.1)=vs.map (·.1):=by
 unfold KV at rel
 induction rel with
 |nil=>rfl
 |cons h t ih=>rw[UI,UI,ih,h.1]
theorem QiL(hc:X.calm=true):CallR X (.type "list") (λxs H Q=>∃(a:Addr)(kvs:List (Key×V))(is:List Int),xs=[.ref a]/\H a=some (.dK kvs)/\kvs.map (·.1)=is.map Sum.inl/\∀l,H l=none->Q (.ref l) (upd H l (.lst (is.map V.int)))):=by
 intro pins s σ H xs us Q I rv h
 obtain⟨a,kvs,is,rfl,e,hk,q⟩:=h
 obtain⟨u,rfl,ru⟩:=rv.one
 cases ru
 obtain⟨z,hd,vs,rel,dd⟩:=QiI I.hok e
 obtain⟨ep,hat⟩:=dd.dictAt
 have hl:vs.length=is.length:=by rw[<-rel.length,<-Ur (f:=λp:Key×V=>p.1),hk,Ur]
 have hkv:kvs.length=is.length:=by rw[rel.length,hl]
 refine kdl_call (kdl_dict (knd:=Yt X.prog X.w) (kvs:=vs) (ep:=ep) hd) (I.ok.hd hc) hat (by rw[<-rel.length];exact z) λh' tk acc' c' kp hD hacc=>?_
 refine⟨.ref s.heap.objs.size,_,I.laid (a:=s.heap.objs.size) (o:=.lst (is.map V.int)) (t':=tk) kp (Uc _) (show ObjOk X.prog X.w _ _ _ (.lst (is.map V.int)) from ⟨by rw[Ur,<-hkv];exact z,acc'.toList,c',?_,hD⟩),rfl,q _ (I.hok.fresh (Uc _))⟩
 have key:∀(ws:List Value)(js:List Int),ws.length=js.length->(∀(j:Nat)(v:Value)(i:Int),ws[j]?=some v->js[j]?=some i->∃t,v=Value.int i t)->Vals (js.map V.int) ws:=by
  intro ws
  induction ws with
  |nil=>intro js h1 _;cases js with
   |nil=>exact .nil
   |cons _ _=>cases h1
  |cons w ws ih =>
   intro js h1 h2
   cases js with
   |nil=>cases h1
   |cons i js=>exact .cons (h2 0 w i rfl rfl) (ih js (by simpa using h1) λj v k a b=>h2 (j+1) v k a b)
 refine key _ _ (by rw[Uo,hacc.1,hl]) λj v i hv hi=>?_
 obtain⟨k,x,hx,hkk⟩:=hacc.2 j v (by rw[<-T4];exact hv)
 have h1:(vs.map (·.1))[j]?=some k:=by rw[Uy,hx];rfl
 have hkeys:=Ql3 rel
 rw[<-hkeys,hk,Uy,hi]at h1
 cases h1
 exact Ql2 hkk
theorem Qj8:IxR X (λx y H Q=>∃a kvs k v,x=.ref a/\y=kV k/\H a=some (.dK kvs)/\valV kvs k=some v/\Q v H):=by
 intro value slice pins s σ H x y v u Q I rx ry h hs
 obtain⟨a,kvs,k,w,rfl,rfl,e,l,q⟩:=h
 cases rx
 obtain⟨z,hd,vs,rel,dd⟩:=QiI I.hok e
 obtain⟨w',hw,rw'⟩:=RelO.some_of (v:=w) (o:=valueAt vs k) (by rw[<-l];exact rel.val k)
 exact tail_any dd.typeIs PySem.F.slot_dict_getitem.lookup (wpAny_getItem_of (Qj2 ry) dd.mapOf hw ⟨_,H,I.tok _,rw',q⟩) hs
end
section
variable{X:Cx}{ca:Nat->Addr}{a b e f o:Expr}{ma mb me mf mo:ME}{p pos apos:Pos}
theorem Qj9{K:Frag}:Jp K ca (λx y H Q=>∃a kvs k v,x=.ref a/\y=kV k/\H a=some (.dK kvs)/\valV kvs k=some v/\Q v H) pDIx:=by
 intro Φ σ H μ g x y dx dy Q r qx qy p
 unfold pDIx at p
 cases qx with
 |@ref n t hn =>
  cases qy with
  |int i =>
   dsimp only at p
   cases hg:g[n]? with
   |none=>rw[hg]at p;exact p.elim
   |some ob =>
    rw[hg]at p
    obtain⟨t',ht',orp⟩:=r.addr hg
    rw[hn]at ht';cases ht'
    cases ob with
    |dct ks =>
     obtain⟨kv,hH,q⟩:=orp
     dsimp only at p
     rcases q.get (.inl i) with⟨a,b⟩|⟨v,d,a,b,c⟩
     ·rw[b]at p;exact p.elim
     ·rw[b]at p
      exact⟨t,kv,.inl i,v,rfl,rfl,hH,a,p v H μ .refl r c⟩
    |_=>exact p.elim
  |_=>exact p.elim
 |_=>cases qy <;> exact p.elim
theorem Qn0(ha:PE3 ca X a ma)(hb:PE3 ca X b mb)(hs:Qds b:=by exact λ_ _=>rfl):PE3 ca X (.Subscript a b pos) (mOp2 pDIx ma mb):=r_ix (λ_ _=>Qj8) Qj9 ha hb hs
theorem KRel.keys{K:Frag}{μ:List Addr}{H:Hp}{kv:List (Key×V)}{ks:List (Key×D)}(r:KRel K μ H kv ks):kv.map (·.1)=ks.map (·.1):=by
 unfold KRel at r
 induction r with
 |nil=>rfl
 |cons h t ih=>rw[UI,UI,ih,h.1]
theorem QeP:∀{ks:List (Key×D)}{is:List Int},Yn ks=some is->ks.map (·.1)=is.map Sum.inl
 |[],_,h=>by cases h;rfl
 | (.inl i,_)::r,is,h=>by
  have h:(Yn r).map (i :: ·)=some is:=h
  obtain⟨js,h1,h2⟩:=Rj.mp h
  subst h2
  rw[UI,UI,QeP h1]
theorem QkZ(hc:X.calm=true)(hm:X.mg "list" = none)(he:PE3 ca X e me)(hg:Gl X "list":=by rfl)(hs:starEach [e] X.env=[(false,eval e X.env)]:=by rfl)(hpl:(backTo pos (starEach [] X.env)).any (·.1)=false:=by rfl):
  PE3 ca X (.Call (.Name "list" p) [e] [] pos) (mOp1 QbJ me) :=
 r_ty (λpn Φ=>QiL (X:=xat X ca pn Φ) hc) hm boot_list (λΦ σ H μ g y d Q r q pp=>by
  unfold QbJ at pp
  cases q with
  |@ref n t hn =>
   dsimp only at pp
   cases hgn:g[n]? with
   |none=>rw[hgn]at pp;exact pp.elim
   |some ob =>
    rw[hgn]at pp
    obtain⟨t',ht',orp⟩:=r.addr hgn
    rw[hn]at ht';cases ht'
    cases ob with
    |dct ks =>
     obtain⟨kv,hH,q⟩:=orp
     dsimp only at pp
     cases hk:Yn ks with
     |none=>rw[hk]at pp;exact pp.elim
     |some is =>
      rw[hk]at pp
      dsimp only at pp
      by_cases z:is.length<=100000
      ·rw[Ud z]at pp
       have e1:kv.map (·.1)=ks.map (·.1):=q.keys
       exact⟨t,kv,is,rfl,hH,by rw[e1];exact QeP hk,λl hl=>pp _ _ (μ++[l]) (Qq hl) (r.push hl ⟨_,Ql,QfA _⟩) (.ref (by rw[<-r.len];simp))⟩
      ·rw[Ue z]at pp;exact pp.elim
    |_=>exact pp.elim
  |_=>exact pp.elim) he hg (by decide) (by decide) hs hpl
theorem Qn1{x:Str}{id:String}{r:List V->Hp->VK->Prop}{h:D->D->G->Res D}(hc:∀pn Φ,CallR (xat X ca pn Φ) (.builtin id) r)(hm:X.mg x=none)(hv:bootBuiltins x=some (.builtin id))(hp:∀(Φ:XS) (σ:L2.St) (H:Hp) (μ:List Addr) (g:G) (y z:V) (d c:D) (Q:VK),GRep X.K ca μ H g->Den X.K μ H y d->Den X.K μ H z c->Post X.K ca Φ σ Q H μ (h d c g)->r [y,z] H Q)(he:PE3 ca X e me)(hf:PE3 ca X f mf)(hg:Gl X x)(hn:x ≠ "__name__")(hdb:(x == ("__debug__" : Str))=false)(hs:starEach [e,f] X.env=(false,eval e X.env)::starEach [f] X.env)(hs2:starEach [f] X.env=(false,eval f X.env)::starEach [] X.env)(hpl:(backTo pos (starEach [f] X.env)).any (·.1)=false):PE3 ca X (.Call (.Name x p) [e,f] [] pos) (mOp2 h me mf) :=
 λpn Φ=>Q3 (QbR (X:=xat X ca pn Φ) (hc pn Φ) hg hm hv (Yk he (Yk hf Qj hs2) hs pn Φ) hn hdb hs hpl) λσ H Q hQ=>by
  obtain⟨σ3,g,μ,R,q⟩:=hQ
  refine⟨σ3,g,μ,R,?_⟩
  unfold mOp2 at q
  unfold Qb mNil
  cases hm:me σ3 g with
  |raise _ _=>rw[hm]at q;exact q
  |stuck=>rw[hm]at q;exact q.elim
  |ok d g1 =>
   rw[hm,Res.bind_ok]at q
   rw[Res.bind_ok]
   cases hm2:mf σ3 g1 with
   |raise _ _=>rw[hm2]at q;exact q
   |stuck=>rw[hm2]at q;exact q.elim
   |ok c g2 =>
    rw[hm2,Res.bind_ok]at q
    rw[Res.bind_ok,Res.bind_ok,Res.bind_ok]
    intro vs H1 μ1 e1 r1 q1
    cases q1 with
    |cons h1 h2=>cases h2 with
     |cons h2 h3 =>
      cases h3
      exact hp Φ σ H1 μ1 g2 _ _ d c Q r1 h1 h2 (q.go e1)
theorem Qk0(hc:X.calm=true)(hm:X.mg "min" = none)(he:PE3 ca X e me)(hf:PE3 ca X f mf)(hg:Gl X "min":=by rfl)(hs:starEach [e,f] X.env=(false,eval e X.env)::starEach [f] X.env:=by rfl)(hs2:starEach [f] X.env=(false,eval f X.env)::starEach [] X.env:=by rfl)(hpl:(backTo pos (starEach [f] X.env)).any (·.1)=false:=by rfl):
  PE3 ca X (.Call (.Name "min" p) [e,f] [] pos) (mOp2 Qhj me mf) :=
 Qn1 (λpn Φ=>QhQ (X:=xat X ca pn Φ) hc) hm boot_min (λΦ σ H μ g y z d c Q r q1 q2 pp=>by
  unfold Qhj at pp
  cases q1 with
  |int i =>
   cases q2 with
   |int j=>exact⟨i,j,rfl,pp _ H μ .refl r (.int _)⟩
   |_=>exact pp.elim
  |_=>cases q2 <;> exact pp.elim) he hf hg (by decide) (by decide) hs hs2 hpl
theorem Qka(ho:PE3 ca X o mo)(he:PE3 ca X e me)(hbase:attributeBase o "extend" X.env (eval o X.env)=eval o X.env:=by rfl)(hfew:((backTo pos (starEach [e] X.env)).all (λx=>!x.1) && (backToKw pos (keywordEach [] X.env)).all (λx=>x.1.isSome) && decide ([e].length+([]:List Keyword).length+(if ([]:List Keyword).isEmpty then 0 else 1)<30))=true:=by rfl)(hline:(apos.endLine == pos.line)=true:=by rfl)(hs:starEach [e] X.env=(false,eval e X.env)::starEach [] X.env:=by rfl)(hplain:(backTo pos (starEach [] X.env)).any (·.1)=false:=by rfl):
  PE3 ca X (.Call (.Attribute o "extend" apos) [e] [] pos) (QfD mo me) :=
 λpn Φ=>Q3 (QjI (X:=xat X ca pn Φ) RJ PySem.F.slot_list_extend PySem.F.type_list_extend QhZ (ho pn Φ) (Yk he Qj hs pn Φ) hbase hfew hline hs hplain) λσ H Q ⟨σ3,g,μ,R,q⟩=>QZ (Jn R q) λx H1 hQ=>by
  obtain⟨d,g1,μ1,e1,R1,q1,p1⟩:=hQ
  cases q1 with
  |@ref n t hn =>
   dsimp only at p1
   cases hgn:g1[n]? with
   |none=>rw[hgn]at p1;exact p1.elim
   |some ob =>
    rw[hgn]at p1
    obtain⟨t',ht',orp⟩:=R1.g.addr hgn
    rw[hn]at ht';cases ht'
    cases ob with
    |lst ds0 =>
     obtain⟨vs0,hH0,_⟩:=orp
     dsimp only at p1
     refine⟨.inl ⟨rfl,_,.of hH0⟩,σ3,g1,μ1,R1,?_⟩
     unfold Qb mNil
     cases hm:me σ3 g1 with
     |raise _ _=>rw[hm]at p1;exact p1
     |stuck=>rw[hm]at p1;exact p1.elim
     |ok y g2 =>
      rw[hm,Res.bind_ok]at p1
      rw[Res.bind_ok,Res.bind_ok]
      intro vs H2 μ2 e2 r2 q2
      cases q2 with
      |cons h1 h2 =>
       cases h2
       cases h1 with
       |@ref m c hmm =>
        dsimp only at p1
        cases hg2:g2[n]? with
        |none=>rw[hg2]at p1;exact p1.elim
        |some ob2 =>
         cases hg3:g2[m]? with
         |none=>rw[hg2,hg3]at p1;cases ob2 <;> exact p1.elim
         |some ob3 =>
          rw[hg2,hg3]at p1
          obtain⟨t',ht',orp⟩:=r2.addr hg2
          rw[e2.at hn]at ht';cases ht'
          obtain⟨c',hc',orp3⟩:=r2.addr hg3
          rw[hmm]at hc';cases hc'
          cases ob2 with
          |lst ds =>
           cases ob3 with
           |lst es =>
            obtain⟨ws,hH,qs⟩:=orp
            obtain⟨zs,hH3,qz⟩:=orp3
            dsimp only at p1
            by_cases z:n≠m/\ds.length+es.length<=SZ
            ·rw[Ud z]at p1
             have ex:Ext X.K μ2 H2 μ2 (upd H2 t (.lst (ws++zs))):=JK hH (by intro _ z;cases z) (by intro _ _ z;cases z)
             refine⟨t,c,ws,zs,rfl,rfl,hH,hH3,by rw[qs.length,qz.length];exact Ut z.2 Y3,p1 _ _ μ2 (e2.trans ex) ?_ .non⟩
             exact r2.set (e2.at hn) hH (by intro _ z;cases z) (by intro _ _ z;cases z) ⟨_,Ql,(qs.mono ex).append (qz.mono ex)⟩
            ·rw[Ue z]at p1;exact p1.elim
           |_=>exact p1.elim
          |_=>cases ob3 <;> exact p1.elim
       |_=>exact p1.elim
    |_=>exact p1.elim
  |_=>exact p1.elim
end
end L3
namespace L3
open PySem
noncomputable def QeQ(x:D)(g:G):Res D:=match tyOf g x with
 |some t=>.ok (.bl (tyLe t .list || tyLe t .tuple)) g
 |none=>.stuck
def cP(i j:Int):Prop:=0<=j/\j<=1000/\i.natAbs<1000000
noncomputable instance (i j:Int):Decidable (cP i j):=inferInstanceAs (Decidable (_/\_/\_))
noncomputable def pPow(x y:D)(g:G):Res D:=match x,y with
 |.int i,.int j=>if cP i j then .ok (.int (i^j.toNat)) g else .stuck
 |_,_=>.stuck
end L3
namespace L3
open PySem PySem.Spec PyProof.Rows L2
section
variable{X:Cx}{ca:Nat->Addr}{e:Expr}{me:ME}{pos p p2 tp:Pos}{all cs:List Nat}
theorem JS(K:Frag)(t:Ty):kitAny K (.type t.name) [.type "list",.type "tuple"]=some (tyLe t .list || tyLe t .tuple):=by
 unfold kitAny
 rw[show Value.type "list" = .type Ty.list.name from rfl,Y4]
 cases tyLe t .list with
 |true=>rfl
 |false =>
  dsimp only
  unfold kitAny
  rw[show Value.type "tuple" = .type Ty.tuple.name from rfl,Y4]
  cases tyLe t .tuple <;> rfl
theorem Ql4{h:Heap}{a:Addr}{xs:Array Value}(p:IsTup h a xs):∃dd n sl,h.get? a=some ⟨.type "tuple",dd,.seq xs n,sl⟩:=by
 obtain⟨⟨cls,dd,data,sl⟩,h1,h2,n,h3⟩:=p
 simp only at h2 h3
 subst h2 h3
 exact⟨dd,n,sl,h1⟩
theorem Qhk:CallR X (.builtin "isinstance") (λxs H Q=>∃x q g μ d t,xs=[x,.ref q]/\SqT X.K H q [.ty "list",.ty "tuple"]/\GRep X.K ca μ H g/\Den X.K μ H x d/\tyOf g d=some t/\Q (.bl (tyLe t .list || tyLe t .tuple)) H):=by
 intro pins s σ H xs us Q I rv h
 obtain⟨x,q,g,μ,d,t,rfl,hq,r,qd,ht,qq⟩:=h
 obtain⟨u,u2,rfl,ru,ru2⟩:=rv.two
 cases ru2
 obtain⟨its,r1,p1,_⟩:=I.tuple hq
 obtain⟨w1,w2,rfl,a1,a2⟩:=r1.two
 cases a1;cases a2
 obtain⟨dd,n,sl,ho⟩:=Ql4 p1
 have fin:∀tk,EP X pins σ Q (.bool (tyLe t .list || tyLe t .tuple)) {s with toks:=tk}:=λtk=>⟨.bl _,H,I.tok tk,rfl,qq⟩
 cases qd with
 |non=>cases ht;cases (show u=Value.none from ru);exact TK kitx_none I.kIn True.intro ho (JS X.K .non) (λz=>nomatch z) fin
 |bl y=>cases ht;cases (show u=Value.bool y from ru);exact TK kitx_bool I.kIn True.intro ho (JS X.K .bool) (λz=>nomatch z) fin
 |int y=>cases ht;obtain⟨t,q⟩:=(show ∃t,u=Value.int y t from ru);cases q;exact TK kitx_int I.kIn True.intro ho (JS X.K .int) (λz=>nomatch z) fin
 |str y=>cases ht;obtain⟨t,q⟩:=(show ∃t,u=Value.str y t from ru);cases q;exact TK kitx_str I.kIn True.intro ho (JS X.K .str) (λz=>nomatch z) fin
 |@tup a vs ds hq hs =>
  cases ht
  cases ru
  obtain⟨its,_,⟨o,h1,h2,_⟩,_⟩:=I.tuple hq
  exact TK WE I.kIn ⟨o,h1,h2⟩ ho (JS X.K .tuple) (λz=>nomatch z) fin
 |@fl a vs ds hq hs =>
  cases ht
  cases ru
  obtain⟨its,_,p,_⟩:=I.list hq.sq
  obtain⟨o,h1,h2,_⟩:=p.isList
  exact TK Ro I.kIn ⟨o,h1,h2⟩ ho (JS X.K .list) (λz=>nomatch z) fin
 |@ref n a hn =>
  unfold tyOf at ht
  dsimp only at ht
  cases hg:g[n]? with
  |none=>rw[hg]at ht;cases ht
  |some o =>
   rw[hg]at ht
   obtain⟨a',ha',ob⟩:=r.addr hg
   rw[hn]at ha';cases ha'
   cases o with
   |lst ds =>
    cases ht
    obtain⟨vs,hH,_⟩:=ob
    cases ru
    obtain⟨_,_,n,_,h1⟩:=(show ObjOk X.prog X.w H s.heap a (.lst vs) from I.hok a _ hH)
    exact TK Ro I.kIn ⟨_,h1,rfl⟩ ho (JS X.K .list) (λz=>nomatch z) fin
   |dct ks =>
    cases ht
    obtain⟨kv,hH,_⟩:=ob
    cases ru
    obtain⟨_,_,vs,_,p⟩:=(show ObjOk X.prog X.w H s.heap a (.dK kv) from I.hok a _ hH)
    obtain⟨o,es,ep,h1,h2,_⟩:=p
    exact TK WS I.kIn ⟨o,h1,h2.1⟩ ho (JS X.K .dict) (λz=>nomatch z) fin
   |ins _ _=>cases ht
   |exc _=>cases ht
theorem Ql5{k:Nat}{p3:Pos}(hi:X.mg "isinstance" = none)(hl:X.mg "list" = none)(ht:X.mg "tuple" = none)(he:PE3 ca X e me)(hgi:Gl X "isinstance":=by rfl)(hgl:Gl X "list":=by rfl)(hgt:Gl X "tuple":=by rfl)(hs:starEach [e,.Tuple [.Name "list" p2,.Name "tuple" p3] k tp] X.env=(false,eval e X.env)::starEach [.Tuple [.Name "list" p2,.Name "tuple" p3] k tp] X.env:=by rfl)(hs2:starEach [.Tuple [.Name "list" p2,.Name "tuple" p3] k tp] X.env=(false,eval (.Tuple [.Name "list" p2,.Name "tuple" p3] k tp) X.env)::starEach [] X.env:=by rfl)(hs3:starEach [.Name "list" p2,.Name "tuple" p3] X.env=(false,eval (.Name "list" p2) X.env)::starEach [.Name "tuple" p3] X.env:=by rfl)(hs4:starEach [.Name "tuple" p3] X.env=(false,eval (.Name "tuple" p3) X.env)::starEach [] X.env:=by rfl)(hpl:(backTo pos (starEach [.Tuple [.Name "list" p2,.Name "tuple" p3] k tp] X.env)).any (·.1)=false:=by rfl):
  PE3 ca X (.Call (.Name "isinstance" p) [e,.Tuple [.Name "list" p2,.Name "tuple" p3] k tp] [] pos) (mOp1 QeQ me) :=
 λpn Φ=>Q3 (QbR (X:=xat X ca pn Φ) (Qhk (ca:=ca)) hgi hi boot_isinstance (Qas (X:=xat X ca pn Φ) (he pn Φ) (Qas (X:=xat X ca pn Φ) (QkG (X:=xat X ca pn Φ) (Qas (X:=xat X ca pn Φ) (Qfk (X:=xat X ca pn Φ) (v:=.ty "list") hgl hl boot_list rfl (by decide) (by decide)) (Qas (X:=xat X ca pn Φ) (Qfk (X:=xat X ca pn Φ) (v:=.ty "tuple") hgt ht boot_tuple rfl (by decide) (by decide)) Qf4 hs4) hs3)) Qf4 hs2) hs) (by decide) (by decide) hs hpl) λσ H Q ⟨σ3,g,μ,R,q⟩ =>
  QZ (Jn R q) λy H1 hQ=>by
   obtain⟨d,g1,μ1,e1,R1,q1,p1⟩:=hQ
   unfold QeQ at p1
   cases ht:tyOf g1 d with
   |none=>rw[ht]at p1;exact p1.elim
   |some t =>
    rw[ht]at p1
    exact⟨Ut (by decide:2<=SZ) Y3,λq hq=>⟨y,q,g1,μ1,d,t,rfl,.of Ql,R1.g.new hq,q1.mono (QI hq),ht,p1 _ _ μ1 (QI hq) (R1.g.new hq) (.bl _)⟩⟩
end
theorem Qn2{X:Cx}{ca:Nat->Addr}{a b:Expr}{ma mb:ME}{pos:Pos}(ha:PE3 ca X a ma)(hb:PE3 ca X b mb):PE3 ca X (.BinOp a .Pow b pos) (mOp2 pPow ma mb) :=
 Qg6 (λ_ _=>QmY) (Qfs (λΦ σ i j g Q H μ r p=>by
  unfold pPow at p
  by_cases z:cP i j
  ·dsimp only at p;rw[Ud z]at p;exact⟨⟨z.1,UP z.2.1 (by decide),Uq z.2.2 (by decide)⟩,p _ H μ .refl r (.int _)⟩
  ·dsimp only at p;rw[Ue z]at p;exact p.elim) (QaO λx y g=>by cases x <;> cases y <;> first|exact .inl ⟨_,_,rfl,rfl⟩|exact .inr rfl)) ha hb
end L3
namespace L3
open PySem
noncomputable def anyB:List D->Option Bool
 |[]=>some false
 |.bl b::r=>(anyB r).map (b || ·)
 |_::_=>none
noncomputable def pAny(x:D)(g:G):Res D:=match x with
 |.ref n=>(match g[n]? with
  |some (.lst ds)=>(match anyB ds with
   |some b=>.ok (.bl b) g
   |none=>.stuck)
  |_=>.stuck)
 |_=>.stuck
noncomputable def ZA(x:D)(g:G):Res D:=match Qv g x with
 |some (true,ds)=>.ok (.ref g.length) (g++[.lst ds.reverse])
 |_=>.stuck
end L3
namespace L3
open PySem PySem.Spec PyProof.Rows L2
section
variable{X:Cx}{ca:Nat->Addr}{e:Expr}{me:ME}{p p2 pos pos2:Pos}
theorem Qgx{K:Frag}{μ:List Addr}{H:Hp}:∀{vs:List V}{ds:List D}{us:List Value}{b:Bool},Dens K μ H vs ds->Vals vs us->anyB ds=some b->∃bs:List Bool,us=bs.map Value.bool/\bs.any id=b
 |_,_,_,b,.nil,.nil,h=>by cases h;exact⟨[],rfl,rfl⟩
 |_,_,_,b,@Dens.cons _ _ _ _ _ _ ds q qs,.cons r rs,h=>by
  cases q with
  |bl c =>
   unfold anyB at h
   cases hd:anyB ds with
   |none=>rw[hd]at h;cases h
   |some d =>
    rw[hd]at h
    cases h
    obtain⟨bs,h1,h2⟩:=Qgx qs rs hd
    cases r
    exact⟨c::bs,by rw[h1];rfl,by simp[h2]⟩
  |_=>cases h
theorem QiM(bs:List Bool):((List.range bs.length).any λi=>(bs[i]?).getD false)=bs.any id:=by
 rw[Rm,List.any_eq_true,List.any_eq_true]
 constructor
 ·intro ⟨i,hi,h⟩
  have hi':=Tu.mp hi
  exact⟨bs[i],UK hi',by simpa[hi']using h⟩
 ·intro ⟨b,hb,h⟩
  obtain⟨i,hi,rfl⟩:=U1 hb
  exact⟨i,Tu.mpr hi,by simpa[hi]using h⟩
theorem QiN(hc:X.calm=true):CallR X (.builtin "any") (λxs H Q=>∃p vs ds μ b,xs=[.ref p]/\SqL X.K H p vs/\Dens X.K μ H vs ds/\anyB ds=some b/\Q (.bl b) H):=by
 intro pins s σ H xs us Q I rv h
 obtain⟨l,vs,ds,μ,b,rfl,hq,q,hb,qq⟩:=h
 obtain⟨u,rfl,ru⟩:=rv.one
 cases ru
 obtain⟨its,rs,pl,_⟩:=I.list hq
 obtain⟨bs,rfl,e2⟩:=Qgx q rs hb
 have hl:=pl.isList
 have hlt:l<s.heap.objs.size:=by obtain⟨_,e,_⟩:=hl;exact Ui e
 refine call_any_walk (RQ hl ⟨s.heap.objs.size,[s.heap.objs.size,l],[s.heap.objs.size],_,_,_,λi=>(bs[i]?).getD false,rfl,Walks.list (A:=X.A.in1) (show X.A.in1.handled=none from I.ok.hd hc) _ l (UD hlt) _,⟨⟨_,Up _ rfl,rfl,rfl⟩,hl.push _⟩,λi v s' Q' E' hP hQ=>?_,λh' tk hk=>?_⟩)
 ·have hP:(bs.map Value.bool).toArray[i]?=some v:=hP
  rw[Tx,Uy]at hP
  cases hi:bs[i]? with
  |none=>rw[hi]at hP;cases hP
  |some c =>
   rw[hi]at hP
   cases hP
   simp only[hi,Option.getD_some]at hQ
   exact Ti hQ
 ·have kept:∀c o,s.heap.get? c=some o->h'.get? c=some o:=λc o e=>hk c o (λhm=>by rw[Uw.mp hm]at e;exact Te _ (Ui e)) (Ub _ e)
  have ea:((List.range (bs.map Value.bool).toArray.size).any λi=>(bs[i]?).getD false)=b:=by
   rw[Uf,Ur,QiM,e2]
  rw[ea]
  exact⟨.bl b,H,I.kept kept,rfl,qq⟩
theorem Qo7(hc:X.calm=true)(hm:X.mg "any" = none)(he:PE3 ca X e me)(hg:Gl X "any":=by rfl)(hs:starEach [e] X.env=[(false,eval e X.env)]:=by rfl)(hpl:(backTo pos (starEach [] X.env)).any (·.1)=false:=by rfl):
  PE3 ca X (.Call (.Name "any" p) [e] [] pos) (mOp1 pAny me) :=
 QjQ (r:=λxs H Q=>∃p vs ds μ b,xs=[V.ref p]/\SqL X.K H p vs/\Dens X.K μ H vs ds/\anyB ds=some b/\Q (.bl b) H) (λpn Φ=>QiN (X:=xat X ca pn Φ) hc) hm boot_any (λΦ σ H μ g y d Q r q pp=>by
  unfold pAny at pp
  cases q with
  |@ref n t hn =>
   dsimp only at pp
   cases hgn:g[n]? with
   |none=>rw[hgn]at pp;exact pp.elim
   |some ob =>
    rw[hgn]at pp
    obtain⟨t',ht',orp⟩:=r.addr hgn
    rw[hn]at ht';cases ht'
    cases ob with
    |lst ds =>
     obtain⟨vs,hH,q⟩:=orp
     dsimp only at pp
     cases hb:anyB ds with
     |none=>rw[hb]at pp;exact pp.elim
     |some b=>rw[hb]at pp;exact⟨t,vs,ds,μ,b,rfl,.of hH,q,hb,pp _ H μ .refl r (.bl _)⟩
    |_=>exact pp.elim
  |_=>exact pp.elim) he hg (by decide) (by decide) hs hpl
theorem Qhl{ta:TA}(hs0:starEach [.Call (.Name "reversed" p2) [e] [] pos2] X.env=[(false,eval (.Call (.Name "reversed" p2) [e] [] pos2) X.env)])(hg:Gl X "list")(hm:X.mg "list" = none)(hg2:Gl X "reversed")(hm2:X.mg "reversed" = none)(ha:PA X [e] ta)(hs:starEach [e] X.env=[(false,eval e X.env)])(hc:X.calm=true):
  PE X (.Call (.Name "list" p) [.Call (.Name "reversed" p2) [e] [] pos2] [] pos) (λσ H Q=>ta σ H λvs H1=>∃a xs,vs=[.ref a]/\SqL X.K H1 a xs/\∀l,H1 l=none->Q (.ref l) (upd H1 l (.lst xs.reverse))):=by
 intro pins s σ H Q I h
 refine Call_ (Qaj I hg hm boot_list (UR ?_ hs0 rfl))
 rw[hs0]
 show wpAny _ _ (spliced ((false,eval (.Call (.Name "reversed" p2) [e] [] pos2) X.env)::[])) _ _ s
 refine WF (Call_ (Qaj I hg2 hm2 boot_reversed (UR (thn (ha pos2 pins s σ H _ I h) λus s1 hv=>?_) hs rfl)))
 obtain⟨vs,H1,I1,r1,a,xs,rfl,hq,q⟩:=hv
 cases r1 with
 |cons r rr =>
  cases rr
  cases r
  obtain⟨its,rv,pl,hz⟩:=I1.list hq
  have hl:=rv.length
  obtain⟨f0,f1,f2,f3,f4,f5⟩:=I1.fpOk (Uc _) (I1.hok.fresh (Uc _))
  refine call_reversed_list pl.isList (WT ?_)
  have I2:Inv X pins σ H1 {s1 with heap:=s1.heap.push (revObj a ((its.toArray.size:Int) - 1))}:=I1.kept (t':=s1.toks) λb o e=>Ub _ e
  have ll:a≠s1.heap.objs.size:=λz=>by
   obtain⟨o,ho,_⟩:=pl.isList
   exact absurd (Ui ho) (by rw[z];exact Te _)
  refine QdR (I:=s1.heap.objs.size) (l:=a) (its:=its) (s:={s1 with heap:=s1.heap.push (revObj a ((its.toArray.size:Int) - 1))}) (I1.ok.hd hc) ll ⟨_,Up _ rfl,rfl,rfl⟩ (pl.isList.at λo e=>Ub _ e) (by simp only[Uf];omega) λh' tk c kp e=>?_
  have kq:∀b o,s1.heap.get? b=some o->h'.get? b=some o:=λb o eb=>kp b o (UD (Ui eb)) (Ub _ eb)
  have hsz:s1.heap.objs.size<=(s1.heap.push (revObj a ((its.toArray.size:Int) - 1))).objs.size:=by rw[Tv];exact Wk _
  exact⟨.ref _,_,I1.laid (t':=tk) kq hsz (show ObjOk X.prog X.w _ h' _ (.lst xs.reverse) from ⟨by rw[Re];exact hz,its.reverse,c,QdP rv,e⟩),rfl,q _ (I1.hok.fresh hsz)⟩
theorem QaU(hc:X.calm=true)(hm:X.mg "list" = none)(hm2:X.mg "reversed" = none)(he:PE3 ca X e me)(hs0:starEach [.Call (.Name "reversed" p2) [e] [] pos2] X.env=[(false,eval (.Call (.Name "reversed" p2) [e] [] pos2) X.env)]:=by rfl)(hg:Gl X "list":=by rfl)(hg2:Gl X "reversed":=by rfl)(hs:starEach [e] X.env=[(false,eval e X.env)]:=by rfl):
  PE3 ca X (.Call (.Name "list" p) [.Call (.Name "reversed" p2) [e] [] pos2] [] pos) (mOp1 ZA me) :=
 λpn Φ=>Q3 (Qhl (X:=xat X ca pn Φ) hs0 hg hm hg2 hm2 (Yk he Qj hs pn Φ) hs hc) λσ H Q hQ=>by
  obtain⟨σ3,g,μ,R,q⟩:=hQ
  refine⟨σ3,g,μ,R,?_⟩
  unfold mOp1 at q
  unfold Qb mNil
  cases hm:me σ3 g with
  |raise _ _=>rw[hm]at q;exact q
  |stuck=>rw[hm]at q;exact q.elim
  |ok d g1 =>
   rw[hm,Res.bind_ok]at q
   rw[Res.bind_ok,Res.bind_ok]
   intro vs H1 μ1 e1 r1 q1
   cases q1 with
   |@cons v _ _ _ h1 h2 =>
    cases h2
    unfold ZA at q
    cases hs1:Qv g1 d with
    |none=>rw[hs1]at q;exact q.elim
    |some p1 =>
     obtain⟨b,ds⟩:=p1
     rw[hs1]at q
     cases b with
     |false=>exact q.elim
     |true =>
      obtain⟨a,ws,rfl,sq,dn⟩:=Z4 r1 h1 hs1
      have el:∀l:Addr,(μ1++[l])[g1.length]?=some l:=λl=>by rw[<-r1.len];simp
      exact⟨a,ws,rfl,sq,λl hl=>q _ _ (μ1++[l]) (e1.trans (Qq hl)) (r1.push hl ⟨_,Ql,dn.rev.mono (Qq hl)⟩) (.ref (el l))⟩
end
theorem Qo8{X:Cx}{ca:Nat->Addr}{a b:Expr}{mr:MA}{x y:Str}{px py pt pt2 pos:Pos}{kt k2:Nat}(i j:Nat)(hc:X.calm=true)(hN:X.N.Nodup)(ha:PA3 ca X [a,b] mr)(hi:X.N[i]?=some x:=by rfl)(hj:X.N[j]?=some y:=by rfl)(hij:i≠j:=by decide)(hx:X.env.scope.names.lookup x=some .local:=by rfl)(hy:X.env.scope.names.lookup y=some .local:=by rfl)(hw:swappedStores [.Tuple [.Name x px,.Name y py] kt pt] (.Tuple [a,b] k2 pt2) X.env=pure (some [x,y]):=by rfl)(hs:swapsWithSole [.Tuple [.Name x px,.Name y py] kt pt] (.Tuple [a,b] k2 pt2) pos.line X.env=pure false:=by rfl):
  PS3 ca X (.Assign [.Tuple [.Name x px,.Name y py] kt pt] (.Tuple [a,b] k2 pt2) pos) (mAsg (Yh [gSet i,gSet j]) (mOpA pTup mr)) :=
 λpn Φ=>ZW (QmT (X:=xat X ca pn Φ) hc hN hi hj hij hx hy (ha pn Φ) hw hs) λE σ H h=>by
  obtain⟨σ3,g,μ,R,p⟩:=h
  refine⟨σ3,g,μ,R,?_⟩
  unfold mAsg mOpA at p
  cases hm:mr σ3 g with
  |ok ds g1 =>
   rw[hm,Res.bind_ok]at p
   unfold pTup at p
   by_cases z:ds.length<=SZ
   ·rw[Ud z]at p
    dsimp only at p
    match ds,p with
    |[],p=>exact p.elim
    |[d1],p=>exact p.elim
    |[d1,d2],p =>
     intro vs H' μ' e' r' q'
     cases q' with
     |cons q1 q2 =>
      cases q2 with
      |cons q2 q3 =>
       cases q3
       exact⟨_,_,rfl,p _ H' μ' e' (((R.go e' r').set q1 i).set q2 j)⟩
    |d1::d2::d3::r,p=>exact p.elim
   ·rw[Ue z]at p;exact p.elim
  |raise _ _=>rw[hm]at p;exact RaP.stmt R p
  |stuck=>rw[hm]at p;exact p
end L3
namespace L3
open PySem
noncomputable def QfE(a:MA)(d:D):MA:=λσ g=>(a σ g).bind λxs g1=>.ok (xs++[d]) g1
end L3
namespace L3
open PySem PySem.Spec PyProof.Rows L2
structure FunD(K:Frag)(x qual:Str)(st:Stmt)(i:Int)(f:Addr)(fd:FuncData):Prop where
 ex:∃(oc:Value)(od:Option Addr)(kV doc pm:Value)(an:Option Addr)(cdv ct:Value)(osl:Array (Option Value))(dt:Addr)(dk:Tok)(de:Value)(dd:Option Addr)(dn:Nat)(ds:Array (Option Value)),
  fd=fnOf x qual (Zg st) (QQ st) (Qf st) (.ref dt) kV doc pm an cdv ct/\K.lookup f=some ⟨oc,od,.func fd,osl⟩/\codeIn K cdv qual=true/\K.lookup dt=some ⟨de,dd,.seq #[.int i dk] dn,ds⟩
 kp:keepIn K (.ref f)=true
theorem Ql6{K:Frag}{x qual:Str}{st:Stmt}{i:Int}{f dt:Addr}{dk:Tok}{oc de:Value}{od an dd:Option Addr}{osl ds:Array (Option Value)}{dn:Nat}{kV doc pm cdv ct:Value}(l:K.lookup f=some ⟨oc,od,.func (fnOf x qual (Zg st) (QQ st) (Qf st) (.ref dt) kV doc pm an cdv ct),osl⟩)(c:codeIn K cdv qual=true)(k:keepIn K (.ref f)=true)(y:K.lookup dt=some ⟨de,dd,.seq #[.int i dk] dn,ds⟩):FunD K x qual st i f (fnOf x qual (Zg st) (QQ st) (Qf st) (.ref dt) kV doc pm an cdv ct):=⟨⟨oc,od,kV,doc,pm,an,cdv,ct,osl,dt,dk,de,dd,dn,ds,rfl,l,c,y⟩,k⟩
theorem FunD.binds{K:Frag}{x qual:Str}{st:Stmt}{i:Int}{f:Addr}{fd:FuncData}{ps:List Str}(F:FunD K x qual st i f fd)(h:∀(dt:Addr) (dk:Tok) (kV doc pm:Value) (an:Option Addr) (cdv ct:Value) (us:List Value),us.length=ps.length->∃k:Option (Array Value)->Sem (List (Str×Value)),bindArgs (fnOf x qual (Zg st) (QQ st) (Qf st) (.ref dt) kV doc pm an cdv ct) ⟨us,[]⟩=(seqItems? (.ref dt) >>= k)/\k (some #[.int i dk])=pure (ps.zip us)):Binds K fd ps []:=by
 obtain⟨oc,od,kV,doc,pm,an,cdv,ct,osl,dt,dk,de,dd,dn,ds,rfl,lk,hcd,y⟩:=F.ex
 intro s us KX hl
 rw[UM]at hl ⊢
 obtain⟨k,h1,h2⟩:=h dt dk kV doc pm an cdv ct us hl
 exact BindsTo.of_defaults (T:=dt) rfl (KX _ _ y) rfl h1 h2
theorem FunD.bindsD{K:Frag}{x qual:Str}{st:Stmt}{i:Int}{f:Addr}{fd:FuncData}{ps:List Str}(F:FunD K x qual st i f fd)(h:∀(dt:Addr) (dk:Tok) (kV doc pm:Value) (an:Option Addr) (cdv ct:Value) (us:List Value),us.length+1=ps.length->∃k:Option (Array Value)->Sem (List (Str×Value)),bindArgs (fnOf x qual (Zg st) (QQ st) (Qf st) (.ref dt) kV doc pm an cdv ct) ⟨us,[]⟩=(seqItems? (.ref dt) >>= k)/\k (some #[.int i dk])=pure (ps.zip (us++[.int i dk]))):∃t,Binds K fd ps [.int i t]:=by
 obtain⟨oc,od,kV,doc,pm,an,cdv,ct,osl,dt,dk,de,dd,dn,ds,rfl,lk,hcd,y⟩:=F.ex
 refine⟨dk,λs us KX hl=>?_⟩
 obtain⟨k,h1,h2⟩:=h dt dk kV doc pm an cdv ct us (by simpa using hl)
 exact BindsTo.of_defaults (T:=dt) rfl (KX _ _ y) rfl h1 h2
structure FnD(P:Program)(w:World)(K:Frag)(mg:Str->Option Value)(base:Heap)(ca:Nat->Addr)(x:Str)(k n:Nat)(i:Int)(F:MF):Prop where
 ex:∃(f:Addr)(fd:FuncData)(ps:List Str)(t:Tok),FnOk P w K mg base (CXW P w ca) k f fd ps (spM K ca n F)/\mg x=some (.ref f)/\keepIn K (.ref f)=true/\Binds K fd ps []/\Binds K fd ps [.int i t]
 st:∀ds g,ds.length≠n->F ds g=.stuck
theorem Qn3{P:Program}{w:World}{K:Frag}{mg:Str->Option Value}{base:Heap}{ca:Nat->Addr}{x qual:Str}{st:Stmt}{i:Int}{f:Addr}{fd:FuncData}{N ps:List Str}{k n j:Nat}{m:MS}(F:FunD K x qual st i f fd)(S:FnScope N ps (Qf st))(hj:ps.length=j)(hn:N.length-ps.length=n)(h:∀(cdv:Value) (A:Around) (outer:List Env) (s:Shared) (H:Hp) (E:XK),Room k (A.deeper (envOfC qual (Qf st) s.heap.objs.size f cdv)) ->
   PSs3 ca (cxOf (CXW P w ca) P w K mg base N qual (Qf st) f cdv A outer s H E) (QQ st) m):FnOk P w K mg base (CXW P w ca) (k+1) f fd ps (spM K ca j (mDef j n m)):=by
 subst hj
 obtain⟨oc,od,kV,doc,pm,an,cdv,ct,osl,dt,dk,de,dd,dn,ds,rfl,lk,hcd,y⟩:=F.ex
 refine Qlq lk hcd S (λvs H Q E q=>q.1) λA outer s H vs Q E hr hsp=>?_
 obtain⟨hl,ds,g,μ,r,q,p⟩:=hsp
 refine⟨_,QeB (h cdv A outer s H E hr [] _),ds.map some++List.replicate n none,g,μ,?_,?_⟩
 ·have z:=QeA N r q
  rw[hl,hn]at z
  exact z
 ·unfold mDef at p
  rw[Ud (by rw[<-q.length,hl])]at p
  cases hm:m (ds.map some++List.replicate n none) g with
  |nx σ' g'=>rw[hm]at p;exact λσ'' H' μ' e' R'=>p .non H' μ' e' R'.g .non
  |rt d g'=>rw[hm]at p;exact p
  |bk _ _=>rw[hm]at p;exact p.elim
  |ct _ _=>rw[hm]at p;exact p.elim
  |raise _ _ _=>rw[hm]at p;exact λσ'' H' μ' e' R'=>p H' μ' e' R'.g
  |stuck=>rw[hm]at p;exact p.elim
section
variable{X:Cx}{ca:Nat->Addr}{k n:Nat}{F:MF}{e:Expr}{es:List Expr}{mr:MA}{p pos:Pos}
theorem Ql7{x:Str}{i:Int}(h:FnD X.prog X.w X.K X.mg X.base ca x k n i F)(hr:Room k X.A)(ha:PA3 ca X (e::es) mr)(hg:Gl X x:=by rfl)(hdb:(x == ("__debug__" : Str))=false:=by decide)(he:starEach (e::es) X.env=(false,eval e X.env)::starEach es X.env:=by rfl)(hpl:(backTo pos (starEach es X.env)).any (·.1)=false:=by rfl):PE3 ca X (.Call (.Name x p) (e::es) [] pos) (Qn F (QfE mr (.int i))):=by
 obtain⟨f,fd,ps,t,F1,m1,k1,_,b1⟩:=h.ex
 intro pn Φ pins s σ H Q I ⟨σ3,g,μ,R,q⟩
 refine Rk (Qbe I hg m1 ?_ hdb)
 have e0:Qn F (QfE mr (.int i)) σ3 g=(mr σ3 g).bind λxs g1=>F (xs++[.int i]) g1:=by unfold Qn QfE;cases mr σ3 g <;> rfl
 rw[e0]at q
 have z:upA X.K ca Φ mr σ H λvs H1=>spM X.K ca n F (vs++[.int i]) H1 Q (EK Φ σ):=Jo (Qdc R q) λxs H1 ⟨ds,g1,μ1,e1,R1,q1,p1⟩=>QeD h.st R1.g (q1.append (.cons (.int i) .nil)) p1
 refine RH (h₀:=X.base) I.ok.mod.kin k1 (thn (ha pn Φ pos pins s σ H _ I z) λus s1 ⟨vs,H1,I1,r,q1⟩=>⟨I1.kIn,?_⟩) he hpl
 have r2:Vals (vs++[.int i]) (us++[.int i t]):=r.append (.cons ⟨t,rfl⟩ .nil)
 have hl:(us++[Value.int i t]).length=ps.length:=by rw[<-r2.length];exact F1.len _ _ _ _ q1
 refine wpAny_call (Wy (F1.run X.A X.stack s1 H1 ⟨us,[]⟩ (us++[.int i t]) (vs++[.int i]) Q (EK Φ σ) hr I1.env0 (b1 s1 us I1.kIn hl) r2 q1) λres s' hq=>?_)
 cases res with
 |error z=>exact Qfp I1 hq
 |ok fl =>
  cases fl with
  |ret u=>exact I1.after hq
  |_=>exact False.elim hq
end
end L3
namespace L3
open PySem
noncomputable def Qhm:MS:=(mRet (mAnd (mOp1 (ZV .int) (mVar 0)) (mNot (mOp1 (ZV .bool) (mVar 0)))))
noncomputable def Jf:MF:=mDef 1 0 Qhm
noncomputable def Qhn:MS:=(mRet (mAnd (Qn Jf (Qb (mVar 0) mNil)) (JJ pLe pLt (mLit (.int 0)) (mVar 0) (mVar 1))))
noncomputable def ZF:MF:=mDef 2 0 Qhn
noncomputable def QbK:MS:=(mRet (mAnd (Qn Jf (Qb (mVar 0) mNil)) (mOp2 pGe (mVar 0) (mLit (.int 0)))))
noncomputable def QS:MF:=mDef 1 0 QbK
noncomputable def Qho:MS:=(mSeq (mIf (Qk (mOp2 pIs (mVar 0) (mLit .non))) (mRet (mLit (.bl true))) QN)
 (mSeq (mIf (mOrT (JI (Qk (mOp1 (ZV .tuple) (mVar 0)))) (Qk (mOp2 pNe (mOp1 pLen (mVar 0)) (mLit (.int 3))))) (mRet (mLit (.bl false))) QN)
 (mRet (mAnd (Qn ZF (Qb (mOp2 pIx (mVar 0) (mLit (.int 0))) (Qb (mVar 2) mNil))) (mAnd (mOp2 (pIn false) (mOp2 pIx (mVar 0) (mLit (.int 1))) (mOpA pTup (Qb (mLit (.str "l")) (Qb (mLit (.str "r")) mNil)))) (Qn ZF (Qb (mOp2 pIx (mVar 0) (mLit (.int 2))) (Qb (mVar 1) mNil))))))))
noncomputable def Yr:MF:=mDef 3 0 Qho
noncomputable def Q4:MS:=(mSeq (mIf (Qk (mOp2 pNe (mOp1 pLen (mVar 3)) (mVar 2))) YM QN)
 (mIf (JI (Qk (mOp1 pAll (YI (QO (mVar 3)) 1 [1,2] (gSet 0) YJ (Qn Yr (Qb (mVar 0) (Qb (mVar 1) (Qb (mVar 2) mNil)))))))) YM QN))
noncomputable def ZG:MS:=(mSeq (mIf (Qk (mOp2 pEq (mOp1 pLen (mVar 0)) (mLit (.int 0)))) YM QN)
 (mSeq (mAsg (gSet 1) (mOp1 pLen (mVar 0)))
 (mSeq (mAsg (gSet 2) (mOp1 pLen (mOp2 pIx (mVar 0) (mLit (.int 0)))))
 (mSeq (mIf (Qk (mOp2 pEq (mVar 2) (mLit (.int 0)))) YM QN)
 (mFor (QO (mVar 0)) (gSet 3) Q4)))))
noncomputable def ZH:MF:=mDef 1 3 ZG
noncomputable def Qao:MS:=(mSeq (mAsg (gSet 2) (mOp1 YO (YI (QO (mVar 1)) 1 [] (gSet 0) YJ (mOp1 YO (mVar 0)))))
 (mSeq (Zq (Qn ZH (Qb (mVar 2) mNil)))
 (QM [11,13] "table" (mVar 0) (mVar 2))))
noncomputable def Ze:MF:=mDef 2 1 Qao
noncomputable def Qcq:MS:=(mRet (mOp1 pLen (ZU [11,13] "table" (mVar 0))))
noncomputable def Qax:MF:=mDef 1 0 Qcq
noncomputable def Qdk:MS:=(mRet (mOp1 pLen (mOp2 pIx (ZU [11,13] "table" (mVar 0)) (mLit (.int 0)))))
noncomputable def Qbk:MF:=mDef 1 0 Qdk
noncomputable def ZN:MS:=(mSeq (mIf (Qk (mOp2 pLt (mVar 2) (mLit (.int 1)))) Qlz QN)
 (mIf (Qat (Qk (mOp2 pGt (mOp1 pLen (mVar 0)) (mLit (.int 0)))) (Qk (mOp2 pEq (mOp2 pIx (mOp2 pIx (mVar 0) (mOp1 pNeg (mLit (.int 1)))) (mLit (.int 0))) (mVar 1)))) (YN (mVar 0) (mOp1 pNeg (mLit (.int 1))) (mOpA pTup (Qb (mVar 1) (Qb (mOp2 pAdd (mOp2 pIx (mOp2 pIx (mVar 0) (mOp1 pNeg (mLit (.int 1)))) (mLit (.int 1))) (mVar 2)) mNil)))) (Zq (ZM (mVar 0) (mOpA pTup (Qb (mVar 1) (Qb (mVar 2) mNil)))))))
noncomputable def Jr:MF:=mDef 3 0 ZN
noncomputable def Qbz:MS:=(mSeq (mIf (mOrT (JI (Qk (mOp1 (ZV .tuple) (mVar 0)))) (Qk (mOp2 pNe (mOp1 pLen (mVar 0)) (mLit (.int 2))))) (mRet (mLit (.bl false))) QN)
 (mRet (mAnd (Qn QS (Qb (mOp2 pIx (mVar 0) (mLit (.int 0))) mNil)) (mAnd (Qn QS (Qb (mOp2 pIx (mVar 0) (mLit (.int 1))) mNil)) (mOp2 pGt (mOp2 pIx (mVar 0) (mLit (.int 1))) (mLit (.int 0)))))))
noncomputable def Ya:MF:=mDef 1 0 Qbz
noncomputable def Yx:MS:=(mIf (Qk (mOp2 pEq (mOp2 pIx (mVar 1) (mLit (.int 0))) (mOp2 pIx (mVar 2) (mLit (.int 0))))) YM QN)
noncomputable def JT:MS:=(mSeq (mIf (mOrT (JI (Qk (mOp1 QeQ (mVar 0)))) (JI (Qk (mOp1 pAll (YI (QO (mVar 0)) 1 [] (gSet 0) YJ (Qn Ya (Qb (mVar 0) mNil))))))) YM QN)
 (mSeq (mFor (Qbx (mVar 0) (Jd (mVar 0) (QaK (mLit (.int 1))) Yi)) (Yh [(gSet 1),(gSet 2)]) Yx)
 (mIf (Qat (Qk (mOp2 pGt (mOp1 pLen (mVar 0)) (mLit (.int 0)))) (Qk (mOp2 pEq (mOp2 pIx (mOp2 pIx (mVar 0) (mOp1 pNeg (mLit (.int 1)))) (mLit (.int 0))) (mLit (.int 0))))) YM QN)))
noncomputable def YS:MF:=mDef 1 2 JT
noncomputable def Jg:MS:=(mSeq (mIf (mOrT (JI (Qk (mOp1 (ZV .tuple) (mVar 0)))) (Qk (mOp2 pNe (mOp1 pLen (mVar 0)) (mLit (.int 3))))) YM QN)
 (mSeq (mIf (JI (Qk (Qn QS (Qb (mOp2 pIx (mVar 0) (mLit (.int 0))) mNil)))) YM QN)
 (mSeq (Zq (Qn YS (Qb (mOp2 pIx (mVar 0) (mLit (.int 1))) mNil)))
 (Zq (Qn YS (Qb (mOp2 pIx (mVar 0) (mLit (.int 2))) mNil))))))
noncomputable def Zr:MF:=mDef 1 0 Jg
noncomputable def Yo:MS:=(mSeq (mIf (Qk (mOp2 pNe (mVar 5) (mLit (.int 0)))) (Zq (QfD (mVar 3) (YI (QC (mVar 6)) 1 [5,4,2] (gSet 0) YJ (mOpA pTup (Qb (mOp2 pAdd (mVar 2) (mOp2 pMul (mVar 3) (mVar 0))) (Qb (mVar 1) mNil)))))) QN)
 (mAsg (gSet 4) (mOp2 pAdd (mVar 4) (mOp2 pMul (mVar 2) (mVar 6)))))
noncomputable def Qbl:MS:=(mSeq (mAsg (gSet 3) (mOpA newL mNil))
 (mSeq (mAsg (gSet 4) (mVar 1))
 (mSeq (mFor (QO (mVar 0)) (Yh [(gSet 5),(gSet 6)]) Yo)
 (mRet (mVar 3)))))
noncomputable def Qab:MF:=mDef 3 4 Qbl
noncomputable def Qcr:MS:=(mSeq (Zq (Qn Zr (Qb (mVar 0) mNil)))
 (mSeq (mAsg (gSet 2) (Qn Qab (Qb (mOp2 pIx (mVar 0) (mLit (.int 1))) (Qb (mOp2 pSub (mVar 1) (mLit (.int 1))) (Qb (mOp1 pNeg (mLit (.int 1))) mNil)))))
 (mSeq (mAsg (gSet 3) (Qn Qab (Qb (mOp2 pIx (mVar 0) (mLit (.int 2))) (Qb (mVar 1) (Qb (mLit (.int 1)) mNil)))))
 (mRet (mOpA pTup (Qb (mOp2 pIx (mVar 0) (mLit (.int 0))) (Qb (mVar 1) (Qb (mOp2 pAdd (mOp1 JR (mVar 2)) (mOp1 YO (mVar 3))) mNil))))))))
noncomputable def Qcs:MF:=mDef 2 2 Qcr
noncomputable def Qkb:MS:=(mIf (mOrT (Qk (mOp2 pGt (mOp1 pLen (mVar 0)) (mLit (.int 0)))) (Qk (mOp2 pNe (mVar 1) (mLit (.int 0))))) (Zq (Qn Jr (Qb (mVar 0) (Qb (mVar 1) (Qb (mVar 2) mNil))))) QN)
noncomputable def Qhp:MF:=mDef 3 0 Qkb
noncomputable def QiO:MS:=(mIf (Qk (mOp2 pGt (mOp1 pLen (mVar 0)) (mLit (.int 0)))) (mSeq (mAsg (gSet 2) (mOp1 pPop (mVar 0)))
 (Zq (Qn Qhp (Qb (mVar 0) (Qb (mOp2 pIx (mVar 2) (mLit (.int 0))) (Qb (mOp2 pSub (mOp2 pIx (mVar 2) (mLit (.int 1))) (mVar 1)) mNil)))))) QN)
noncomputable def Qct:MF:=mDef 2 1 QiO
noncomputable def Y5:MS:=(mRet (mIfE (Qk (mOp2 pGt (mOp1 pLen (mVar 0)) (mLit (.int 0)))) (mOp2 pIx (mOp2 pIx (mVar 0) (mOp1 pNeg (mLit (.int 1)))) (mLit (.int 0))) (mLit (.int 0))))
noncomputable def Q1:MF:=mDef 1 0 Y5
noncomputable def QdS:MS:=(mSeq (mIf (Qk (mOp2 pNe (Qn Q1 (Qb (mVar 0) mNil)) (mVar 1))) (mRet (mLit (.int 0))) QN)
 (mRet (mIfE (Qk (mOp2 pGt (mOp1 pLen (mVar 0)) (mLit (.int 0)))) (mOp2 Qhj (mOp2 pIx (mOp2 pIx (mVar 0) (mOp1 pNeg (mLit (.int 1)))) (mLit (.int 1))) (mVar 2)) (mVar 2))))
noncomputable def Qcu:MF:=mDef 3 0 QdS
noncomputable def Yy:MS:=(mSeq (QM [11,13] "table" (mVar 0) (ZU [11,13] "table" (mVar 1)))
 (mSeq (QM [13] "state" (mVar 0) (mOp2 pIx (mVar 2) (mLit (.int 0))))
 (mSeq (QM [13] "left" (mVar 0) (mOp1 ZA (mOp2 pIx (mVar 2) (mLit (.int 1)))))
 (mSeq (QM [13] "right" (mVar 0) (mOp1 ZA (mOp2 pIx (mVar 2) (mLit (.int 2)))))
 (mSeq (QM [13] "own" (mVar 0) (Qn Q1 (Qb (ZU [13] "right" (mVar 0)) mNil)))
 (mSeq (Zq (Qn Qct (Qb (ZU [13] "right" (mVar 0)) (Qb (mLit (.int 1)) mNil))))
 (QM [13] "moved" (mVar 0) (mLit (.int 0)))))))))
noncomputable def ZO:MF:=mDef 3 0 Yy
noncomputable def JE:MS:=(mRet (mOp2 pIx (mOp2 pIx (ZU [11,13] "table" (mVar 0)) (ZU [13] "state" (mVar 0))) (ZU [13] "own" (mVar 0))))
noncomputable def Zb:MF:=mDef 1 0 JE
noncomputable def Zl:MS:=(mSeq (mAsg (gSet 2) (QcV 13 (Str.ofString "entry") Zb (mVar 0) mNil))
 (mSeq (mAsg (gSet 3) (mOp2 pEq (mOp2 pIx (mVar 2) (mLit (.int 1))) (mLit (.str "r"))))
 (mSeq (mAsg (gSet 4) (mIfE (Qk (mVar 3)) (ZU [13] "right" (mVar 0)) (ZU [13] "left" (mVar 0))))
 (mSeq (mAsg (gSet 5) (mIfE (Qk (mVar 3)) (ZU [13] "left" (mVar 0)) (ZU [13] "right" (mVar 0))))
 (mSeq (mAsg (gSet 6) (mIfE (Qk (mOp2 pEq (mOp2 pIx (mVar 2) (mLit (.int 2))) (ZU [13] "state" (mVar 0)))) (mOp2 pAdd (mLit (.int 1)) (Qn Qcu (Qb (mVar 4) (Qb (ZU [13] "own" (mVar 0)) (Qb (mOp2 pSub (mVar 1) (mLit (.int 1))) mNil))))) (mLit (.int 1))))
 (mSeq (Zq (Qn Qhp (Qb (mVar 5) (Qb (mOp2 pIx (mVar 2) (mLit (.int 0))) (Qb (mVar 6) mNil)))))
 (mSeq (Zq (Qn Qct (Qb (mVar 4) (Qb (mOp2 pSub (mVar 6) (mLit (.int 1))) mNil))))
 (mSeq (QM [13] "own" (mVar 0) (Qn Q1 (Qb (mVar 4) mNil)))
 (mSeq (Zq (Qn Qct (Qb (mVar 4) (Qb (mLit (.int 1)) mNil))))
 (mSeq (QM [13] "state" (mVar 0) (mOp2 pIx (mVar 2) (mLit (.int 2))))
 (mSeq (QM [13] "moved" (mVar 0) (mIfE (Qk (mVar 3)) (mOp2 pAdd (ZU [13] "moved" (mVar 0)) (mVar 6)) (mOp2 pSub (ZU [13] "moved" (mVar 0)) (mVar 6))))
 (mRet (mVar 6)))))))))))))
noncomputable def Yz:MF:=mDef 2 5 Zl
noncomputable def Y6:MS:=(mSeq (mAsg (gSet 1) (mOp1 Qh2 (ZU [13] "right" (mVar 0))))
 (mSeq (Zq (Qn Qhp (Qb (mVar 1) (Qb (ZU [13] "own" (mVar 0)) (Qb (mLit (.int 1)) mNil)))))
 (mRet (mOpA pTup (Qb (ZU [13] "state" (mVar 0)) (Qb (mOp1 ZA (ZU [13] "left" (mVar 0))) (Qb (mOp1 ZA (mVar 1)) mNil)))))))
noncomputable def Z5:MF:=mDef 1 1 Y6
noncomputable def Zm:MS:=(mIf (Qk (mOp1 pAny (YI (QO (mVar 3)) 2 [2] (Yh [(gSet 0),(gSet 1)]) YJ (mOp2 pGe (mVar 0) (mVar 2))))) YM QN)
noncomputable def YT:MS:=(mSeq (Zq (Qn Zr (Qb (mVar 1) mNil)))
 (mSeq (mIf (Qk (mOp2 pGe (mOp2 pIx (mVar 1) (mLit (.int 0))) (Qn Qax (Qb (mVar 0) mNil)))) YM QN)
 (mSeq (mAsg (gSet 2) (Qn Qbk (Qb (mVar 0) mNil)))
 (mFor (QO (Jd (mVar 1) (QaK (mLit (.int 1))) Yi)) (gSet 3) Zm))))
noncomputable def ZP:MF:=mDef 2 2 YT
noncomputable def QE:MS:=(mSeq (mIf (Qk (mOp2 pGe (mVar 6) (mVar 3))) (Qf7 6 (Qb (mLit (.str "the run has more leaps than it may have")) mNil)) QN)
 (mSeq (mAsg (gSet 5) (mOp2 pAdd (mVar 5) (QcV 13 (Str.ofString "leap") Yz (mVar 4) (Qb (mOp2 pSub (mVar 2) (mVar 5)) mNil))))
 (mAsg (gSet 6) (mOp2 pAdd (mVar 6) (mLit (.int 1))))))
noncomputable def Qay:MS:=(mSeq (Zq (Qn ZP (Qb (mVar 0) (Qb (mVar 1) mNil))))
 (mSeq (mAsg (gSet 4) (Qdw 13 ZO (Qb (mVar 0) (Qb (mVar 1) mNil))))
 (mSeq (mAsg (gSet 5) (mLit (.int 0)))
 (mSeq (mAsg (gSet 6) (mLit (.int 0)))
 (mSeq (Qcc (Qat (Qk (mOp2 pLt (mVar 5) (mVar 2))) (Qk (mOp2 QaI (QcV 13 (Str.ofString "entry") Zb (mVar 4) mNil) (mLit .non)))) QE)
 (mRet (mOpA pTup (Qb (QcV 13 (Str.ofString "row") Z5 (mVar 4) mNil) (Qb (ZU [13] "moved" (mVar 4)) (Qb (mVar 5) (Qb (mVar 6) mNil)))))))))))
noncomputable def YA:MF:=mDef 4 3 Qay
noncomputable def Yb:MS:=(mSeq (mAsg (gSet 3) (Qn YA (Qb (mVar 0) (Qb (mOpA pTup (Qb (mLit (.int 0)) (Qb (mOpA newL mNil) (Qb (mOpA newL mNil) mNil)))) (Qb (mVar 1) (Qb (mVar 2) mNil))))))
 (mRet (mOpA pTup (Qb (Qn Qcs (Qb (mOp2 pIx (mVar 3) (mLit (.int 0))) (Qb (mOp2 pIx (mVar 3) (mLit (.int 1))) mNil))) (Qb (mOp2 pIx (mVar 3) (mLit (.int 2))) mNil)))))
noncomputable def Yc:MF:=mDef 3 1 Yb
noncomputable def QdT:MS:=(mSeq (YN (mVar 1) (mLit (.int 0)) (mOp2 pAdd (mOp2 pIx (mVar 1) (mLit (.int 0))) (mLit (.int 1))))
 (mSeq (mAsg (gSet 2) (mIfE (Qk (mOp2 pGt (mOp1 pLen (mVar 0)) (mLit (.int 0)))) (mOp2 pIx (mVar 0) (mOp2 pMod (mOp2 pIx (mVar 1) (mLit (.int 0))) (mOp1 pLen (mVar 0)))) (mLit (.int 0))))
 (mSeq (mAsg (gSet 3) (mOp2 pMod (mOp2 pMul (mOp2 pAdd (mOp2 pAdd (mOp2 pMod (mVar 2) (mLit (.int 2147483647))) (mOp2 pMul (mOp2 pMul (mOp2 pIx (mVar 1) (mLit (.int 0))) (mOp2 pIx (mVar 1) (mLit (.int 0)))) (mLit (.int 7919)))) (mLit (.int 11))) (mLit (.int 48271))) (mLit (.int 2147483647))))
 (mRet (mOp2 pMod (mOp2 pMul (mVar 3) (mVar 3)) (mLit (.int 1999999973)))))))
noncomputable def Yp:MF:=mDef 2 2 QdT
noncomputable def QaV(me:MF):MS:=(mSeq (mIf (mOrT (Qk (mOp1 (ZV .list) (mVar 1))) (Qk (mOp1 (ZV .tuple) (mVar 1)))) (mSeq (mIf (mOrT (Qk (mOp2 pNe (mOp1 (ZV .list) (mVar 0)) (mOp1 (ZV .list) (mVar 1)))) (Qk (mOp2 pNe (mOp1 (ZV .tuple) (mVar 0)) (mOp1 (ZV .tuple) (mVar 1))))) (mRet (mLit (.bl false))) QN)
 (mRet (mAnd (mOp2 pEq (mOp1 pLen (mVar 0)) (mOp1 pLen (mVar 1))) (mOp1 pAll (YI (Qbx (mVar 0) (mVar 1)) 2 [] (Yh [(gSet 0),(gSet 1)]) YJ (Qn me (Qb (mVar 0) (Qb (mVar 1) mNil)))))))) QN)
 (mSeq (mIf (Qk (mOp2 pIs (mVar 1) (mLit .non))) (mRet (mOp2 pIs (mVar 0) (mLit .non))) QN)
 (mSeq (mIf (Qk (mOp1 (ZV .str) (mVar 1))) (mRet (mAnd (mOp1 (ZV .str) (mVar 0)) (mOp2 pEq (mVar 0) (mVar 1)))) QN)
 (mRet (mAnd (mOp1 (ZV .int) (mVar 0)) (mAnd (mNot (mOp1 (ZV .bool) (mVar 0))) (mOp2 pEq (mVar 0) (mVar 1))))))))
noncomputable def ZB:Nat->MF
 |0=>λ_ _=>.stuck
 |k+1=>mDef 2 0 (QaV (ZB k))
noncomputable def Zn:MS:=(mSeq (mAsg (gSet 8) (Qn Yp (Qb (mVar 0) (Qb (mVar 1) mNil))))
 (mSeq (mAsg (gSet 9) (mOpA pTup (Qb (mOp2 pMod (mOp2 Z7 (mVar 8) (mLit (.int 9))) (mVar 3)) (Qb (mOp2 pIx (mLit (.str "lr")) (mOp2 pMod (mOp2 Z7 (mVar 8) (mLit (.int 100))) (mLit (.int 2)))) (Qb (mOp2 pMod (mOp2 Z7 (mVar 8) (mLit (.int 300))) (mVar 2)) mNil)))))
 (mSeq (mIf (Qk (mOp2 pEq (mOp2 pMod (mVar 8) (mLit (.int 9))) (mLit (.int 0)))) (mAsg (gSet 9) (mLit .non)) QN)
 (Zq (ZM (mVar 6) (mVar 9))))))
noncomputable def YU:MS:=(mSeq (mAsg (gSet 6) (mOpA newL mNil))
 (mSeq (mFor (QC (mVar 3)) (gSet 7) Zn)
 (Zq (ZM (mVar 4) (mVar 6)))))
noncomputable def Qcv:MS:=(mSeq (mAsg (gSet 4) (mOpA newL mNil))
 (mSeq (mFor (QC (mVar 2)) (gSet 5) YU)
 (mRet (mVar 4))))
noncomputable def Qcw:MF:=mDef 4 6 Qcv
noncomputable def QdU:MS:=(mSeq (mAsg (Yh [(gSet 1),(gSet 2),(gSet 3)]) (mVar 0))
 (mRet (mOpA pTup (Qb (mVar 1) (Qb (mVar 2) (Qb (mOp1 YO (YI (QO (mOp1 Zu (mOp1 QbJ (mVar 3)))) 1 [3] (gSet 0) YJ (mOpA pTup (Qb (mVar 0) (Qb (mOp2 pDIx (mVar 1) (mVar 0)) mNil))))) mNil))))))
noncomputable def QbX:MF:=mDef 1 3 QdU
noncomputable def ZX:MS:=(mSeq (mAsg (gSet 2) (Qn Yp (Qb (mVar 0) (Qb (mVar 1) mNil))))
 (mSeq (mIf (Qat (Qk (mOp2 pEq (mOp2 pMod (mVar 2) (mLit (.int 3))) (mLit (.int 0)))) (Qk (mOp2 QaI (mOp2 pIx (mOp2 pIx (mVar 5) (mVar 6)) (mVar 7)) (mLit .non)))) (YN (mOp2 pIx (mVar 5) (mVar 6)) (mVar 7) (mOpA pTup (Qb (mOp2 pIx (mOp2 pIx (mOp2 pIx (mVar 5) (mVar 6)) (mVar 7)) (mLit (.int 0))) (Qb (mOp2 pIx (mOp2 pIx (mOp2 pIx (mVar 5) (mVar 6)) (mVar 7)) (mLit (.int 1))) (Qb (mVar 6) mNil))))) QN)
 (mIf (Qat (Qk (mOp2 pGt (mOp2 pMod (mOp2 Z7 (mVar 2) (mLit (.int 3))) (mLit (.int 7))) (mLit (.int 1)))) (Qk (mOp2 pIs (mOp2 pIx (mOp2 pIx (mVar 5) (mVar 6)) (mVar 7)) (mLit .non)))) (YN (mOp2 pIx (mVar 5) (mVar 6)) (mVar 7) (mOpA pTup (Qb (mOp2 pMod (mOp2 Z7 (mVar 2) (mLit (.int 30))) (mVar 4)) (Qb (mOp2 pIx (mLit (.str "lr")) (mOp2 pMod (mOp2 Z7 (mVar 2) (mLit (.int 300))) (mLit (.int 2)))) (Qb (mOp2 pMod (mOp2 Z7 (mVar 2) (mLit (.int 600))) (mVar 3)) mNil))))) QN)))
noncomputable def Zs:MS:=(mFor (QC (mVar 4)) (gSet 7) ZX)
noncomputable def Y7:MS:=(mSeq (mAsg (gSet 2) (Qn Yp (Qb (mVar 0) (Qb (mVar 1) mNil))))
 (mSeq (mAsg (gSet 3) (mOp2 pIx (mOpA newL (Qb (mLit (.int 1)) (Qb (mLit (.int 2)) (Qb (mLit (.int 2)) (Qb (mLit (.int 3)) (Qb (mLit (.int 3)) (Qb (mLit (.int 4)) mNil))))))) (mOp2 pMod (mVar 2) (mLit (.int 6)))))
 (mSeq (mAsg (gSet 4) (mOp2 pIx (mOpA newL (Qb (mLit (.int 2)) (Qb (mLit (.int 2)) (Qb (mLit (.int 3)) (Qb (mLit (.int 2)) (Qb (mLit (.int 4)) (Qb (mLit (.int 1)) mNil))))))) (mOp2 pMod (mOp2 Z7 (mVar 2) (mLit (.int 6))) (mLit (.int 6)))))
 (mSeq (mIf (Qk (mOp2 pEq (mOp2 pMod (mOp2 Z7 (mVar 2) (mLit (.int 36))) (mLit (.int 13))) (mLit (.int 0)))) (mAsg (Yh [(gSet 3),(gSet 4)]) (mOpA pTup (Qb (mLit (.int 5)) (Qb (mLit (.int 8)) mNil)))) QN)
 (mSeq (mAsg (gSet 5) (Qn Qcw (Qb (mVar 0) (Qb (mVar 1) (Qb (mVar 3) (Qb (mVar 4) mNil))))))
 (mSeq (mFor (QC (mVar 3)) (gSet 6) Zs)
 (mRet (mVar 5))))))))
noncomputable def Y8:MF:=mDef 2 6 Y7
noncomputable def Js:MS:=(mSeq (mAsg (gSet 10) (mOp2 pDIx (mVar 3) (mOp2 pAdd (mVar 2) (mOp2 pMul (mVar 6) (mOp2 pSub (mOp2 pAdd (mVar 9) (mLit (.int 1))) (mVar 5))))))
 (mSeq (mIf (Qk (mOp2 pGt (mVar 9) (mOp2 pAdd (mVar 8) (mLit (.int 1))))) (Zq (ZM (mOp2 pIx (mVar 4) (mVar 5)) (mOpA pTup (Qb (mLit (.int 0)) (Qb (mOp2 pSub (mOp2 pSub (mVar 9) (mVar 8)) (mLit (.int 1))) mNil))))) QN)
 (mSeq (mIf (Qat (Qk (mOp2 pEq (mVar 9) (mOp2 pAdd (mVar 8) (mLit (.int 1))))) (Qat (Qk (mOp2 pGt (mOp1 pLen (mOp2 pIx (mVar 4) (mVar 5))) (mLit (.int 0)))) (Qk (mOp2 pEq (mOp2 pIx (mOp2 pIx (mOp2 pIx (mVar 4) (mVar 5)) (mOp1 pNeg (mLit (.int 1)))) (mLit (.int 0))) (mVar 10))))) (YN (mOp2 pIx (mVar 4) (mVar 5)) (mOp1 pNeg (mLit (.int 1))) (mOpA pTup (Qb (mVar 10) (Qb (mOp2 pAdd (mOp2 pIx (mOp2 pIx (mOp2 pIx (mVar 4) (mVar 5)) (mOp1 pNeg (mLit (.int 1)))) (mLit (.int 1))) (mLit (.int 1))) mNil)))) (Zq (ZM (mOp2 pIx (mVar 4) (mVar 5)) (mOpA pTup (Qb (mVar 10) (Qb (mLit (.int 1)) mNil))))))
 (mAsg (gSet 8) (mVar 9)))))
noncomputable def Qaz:MS:=(mSeq (mAsg (gSet 7) (YI (QO (mOp1 Zu (mOp1 QbJ (mVar 3)))) 1 [5,6,2] (gSet 0) (Qk (mOp2 pEq (mOp2 pLt (mVar 0) (mVar 3)) (mOp2 pEq (mVar 1) (mLit (.int 0))))) (mOp2 pAdd (mOp2 pSub (mOp2 pMul (mOp2 pSub (mVar 0) (mVar 3)) (mVar 2)) (mLit (.int 1))) (mVar 1))))
 (mSeq (mAsg (gSet 8) (mOp1 pNeg (mLit (.int 1))))
 (mFor (QO (mOp1 Zu (mVar 7))) (gSet 9) Js)))
noncomputable def QdV:MS:=(mSeq (mAsg (Yh [(gSet 1),(gSet 2),(gSet 3)]) (mVar 0))
 (mSeq (mAsg (gSet 4) (mOpA pTup (Qb (mOpA newL mNil) (Qb (mOpA newL mNil) mNil))))
 (mSeq (mFor (QO (mOpA pTup (Qb (mOpA pTup (Qb (mLit (.int 0)) (Qb (mOp1 pNeg (mLit (.int 1))) mNil))) (Qb (mOpA pTup (Qb (mLit (.int 1)) (Qb (mLit (.int 1)) mNil))) mNil)))) (Yh [(gSet 5),(gSet 6)]) Qaz)
 (mRet (mOpA pTup (Qb (mVar 1) (Qb (mOp2 pIx (mVar 4) (mLit (.int 0))) (Qb (mOp2 pIx (mVar 4) (mLit (.int 1))) mNil))))))))
noncomputable def QdW:MF:=mDef 1 10 QdV
noncomputable def Qkc:MS:=(mSeq (mAsg (gSet 4) (mLit .non))
 (mSeq (mTry (mAsg (gSet 4) (Qn YA (Qb (mVar 0) (Qb (mVar 1) (Qb (mVar 2) (Qb (mVar 3) mNil)))))) [⟨[6],[0,1,5],none,(mAsg (gSet 4) (mLit (.str "too long")))⟩])
 (mRet (mVar 4))))
noncomputable def Jt:MF:=mDef 4 1 Qkc
noncomputable def Qbm:MS:=(mAsg (gSet 4) (mOp2 pMul (mVar 4) (mLit (.int 10))))
noncomputable def QfF:MS:=(mSeq (mAsg (gSet 2) (Qn Yp (Qb (mVar 0) (Qb (mVar 1) mNil))))
 (mSeq (mAsg (gSet 3) (mIfE (Qk (mOp2 pGt (mOp1 pLen (mVar 0)) (mLit (.int 0)))) (mOp2 pIx (mVar 0) (mOp2 pMod (mOp2 pIx (mVar 1) (mLit (.int 0))) (mOp1 pLen (mVar 0)))) (mLit (.int 0))))
 (mSeq (mAsg (gSet 4) (mLit (.int 10)))
 (mSeq (mFor (QC (mOp2 pMod (mOp2 Z7 (mVar 2) (mLit (.int 7))) (mLit (.int 50)))) (gSet 5) Qbm)
 (mRet (mOp2 pAdd (mLit (.int 1)) (mOp2 pMod (mOp2 pAdd (mOp2 pMod (mVar 3) (mOp2 pPow (mLit (.int 10)) (mLit (.int 50)))) (mOp2 pMul (mVar 2) (mOp2 pPow (mLit (.int 10)) (mLit (.int 40))))) (mVar 4))))))))
noncomputable def QdX:MF:=mDef 2 4 QfF
noncomputable def ZC:MS:=(mSeq (mAsg (gSet 7) (mOp2 pIx (mOp2 pIx (mVar 0) (mVar 3)) (QeO (mVar 5) (mVar 4) (mLit (.int 0)))))
 (mSeq (mIf (Qk (mOp2 pIs (mVar 7) (mLit .non))) (mRet (mOpA pTup (Qb (mOpA pTup (Qb (mVar 3) (Qb (mVar 4) (Qb (mVar 5) mNil)))) (Qb (mVar 6) mNil)))) QN)
 (mSeq (Qhi (mVar 5) (mVar 4) (mOp2 pIx (mVar 7) (mLit (.int 0))))
 (mSeq (mIf (Qk (mOp2 pEq (mOp2 pIx (mVar 7) (mLit (.int 0))) (mLit (.int 0)))) (Zq (QiK (mVar 5) (mVar 4))) QN)
 (mSeq (mAsg (gSet 4) (mIfE (Qk (mOp2 pEq (mOp2 pIx (mVar 7) (mLit (.int 1))) (mLit (.str "r")))) (mOp2 pAdd (mVar 4) (mLit (.int 1))) (mOp2 pSub (mVar 4) (mLit (.int 1)))))
 (mSeq (mAsg (gSet 3) (mOp2 pIx (mVar 7) (mLit (.int 2))))
 (mAsg (gSet 6) (mOp2 pAdd (mVar 6) (mLit (.int 1))))))))))
noncomputable def QdY:MS:=(mSeq (mAsg (Yh [(gSet 3),(gSet 4),(gSet 5)]) (mVar 1))
 (mSeq (mAsg (gSet 6) (mLit (.int 0)))
 (mSeq (Qcc (Qk (mOp2 pLt (mVar 6) (mVar 2))) ZC)
 (mRet (mOpA pTup (Qb (mOpA pTup (Qb (mVar 3) (Qb (mVar 4) (Qb (mVar 5) mNil)))) (Qb (mVar 6) mNil)))))))
noncomputable def QdZ:MF:=mDef 3 5 QdY
noncomputable def ZQ:MS:=(mSeq (mAsg (gSet 4) (Qn Jt (Qb (mVar 0) (Qb (mVar 1) (Qb (mVar 2) (Qb (mLit (.int 300)) mNil))))))
 (mSeq (mIf (Qk (mOp2 pEq (mVar 4) (mLit (.str "too long")))) (mRet (mLit (.bl true))) QN)
 (mSeq (mAsg (gSet 5) (Qn Jt (Qb (mVar 0) (Qb (mVar 1) (Qb (mVar 3) (Qb (mLit (.int 301)) mNil))))))
 (mSeq (mIf (mOrT (Qk (mOp2 pEq (mVar 5) (mLit (.str "too long")))) (Qk (mOp2 pIs (mVar 5) (mLit .non)))) (mRet (mLit (.bl false))) QN)
 (mSeq (mAsg (gSet 6) (Qn Jt (Qb (mVar 0) (Qb (mOp2 pIx (mVar 5) (mLit (.int 0))) (Qb (mOp2 pSub (mVar 2) (mVar 3)) (Qb (mLit (.int 301)) mNil))))))
 (mSeq (mIf (mOrT (Qk (mOp2 pEq (mVar 6) (mLit (.str "too long")))) (Qk (mOp2 pIs (mVar 6) (mLit .non)))) (mRet (mLit (.bl false))) QN)
 (mRet (Qn (ZB 6) (Qb (mOpA pTup (Qb (mOp2 pIx (mVar 6) (mLit (.int 0))) (Qb (mOp2 pAdd (mOp2 pIx (mVar 5) (mLit (.int 1))) (mOp2 pIx (mVar 6) (mLit (.int 1)))) (Qb (mOp2 pAdd (mOp2 pIx (mVar 5) (mLit (.int 2))) (mOp2 pIx (mVar 6) (mLit (.int 2)))) mNil)))) (Qb (Jd (mVar 4) Yi (QaK (mLit (.int 3)))) mNil))))))))))
noncomputable def Ju:MF:=mDef 4 3 ZQ
noncomputable def QaA:MS:=(mSeq (mAsg (gSet 5) (mOp2 pIx (mVar 2) (mLit (.int 1))))
 (mSeq (mAsg (Yh [(gSet 2),(gSet 6)]) (Qn QdZ (Qb (mVar 1) (Qb (mVar 2) (Qb (mVar 4) mNil)))))
 (mSeq (mAsg (gSet 7) (Qn Jt (Qb (mVar 0) (Qb (mVar 3) (Qb (mVar 4) (Qb (mVar 4) mNil))))))
 (mSeq (mIf (mOrT (Qk (mOp2 pEq (mVar 7) (mLit (.str "too long")))) (JI (Qk (Qn (ZB 6) (Qb (Jd (mVar 7) Yi (QaK (mLit (.int 3)))) (Qb (mOpA pTup (Qb (Qn QdW (Qb (mVar 2) mNil)) (Qb (mOp2 pSub (mOp2 pIx (mVar 2) (mLit (.int 1))) (mVar 5)) (Qb (mVar 6) mNil)))) mNil)))))) (mRet (mLit .non)) QN)
 (mSeq (mIf (JI (Qk (JJ pLe pLe (mLit (.int 0)) (mOp2 pIx (mVar 7) (mLit (.int 3))) (mVar 6)))) (mRet (mLit .non)) QN)
 (mRet (mOpA pTup (Qb (mVar 2) (Qb (mOp2 pIx (mVar 7) (mLit (.int 0))) (Qb (mVar 6) mNil))))))))))
noncomputable def QaB:MF:=mDef 5 3 QaA
noncomputable def QbY:MS:=(mSeq (mAsg (gSet 9) (mOp2 Qhj (mOp2 pMod (mOp2 pAdd (mOp2 pMod (mVar 8) (mLit (.int 97))) (Qn Yp (Qb (mVar 0) (Qb (mVar 1) mNil)))) (mLit (.int 18))) (mOp2 pSub (mLit (.int 300)) (mVar 6))))
 (mSeq (mAsg (gSet 10) (Qn QaB (Qb (mVar 3) (Qb (mVar 2) (Qb (mVar 4) (Qb (mVar 5) (Qb (mVar 9) mNil)))))))
 (mSeq (mIf (Qk (mOp2 pIs (mVar 10) (mLit .non))) (mRet (mLit (.bl false))) QN)
 (mSeq (mAsg (Yh [(gSet 4),(gSet 5)]) (mOpA pTup (Qb (mOp2 pIx (mVar 10) (mLit (.int 0))) (Qb (mOp2 pIx (mVar 10) (mLit (.int 1))) mNil))))
 (mSeq (mAsg (gSet 6) (mOp2 pAdd (mVar 6) (mOp2 pIx (mVar 10) (mLit (.int 2)))))
 (mIf (Qat (Qk (mOp2 pEq (mOp2 pMod (mVar 7) (mLit (.int 16))) (mLit (.int 3)))) (JI (Qk (Qn (ZB 6) (Qb (Qn Yc (QfE (Qb (mVar 3) (Qb (mVar 6) mNil)) (.int 5000))) (Qb (mOpA pTup (Qb (Qn QbX (Qb (mVar 4) mNil)) (Qb (mVar 6) mNil))) mNil)))))) (mRet (mLit (.bl false))) QN))))))
noncomputable def Ql8:MS:=(mSeq (mAsg (gSet 1) (mOpA newL (Qb (mLit (.int 0)) mNil)))
 (mSeq (mAsg (gSet 2) (Qn Y8 (Qb (mVar 0) (Qb (mVar 1) mNil))))
 (mSeq (mAsg (gSet 3) (Qdw 11 Ze (Qb (mVar 2) mNil)))
 (mSeq (mAsg (gSet 4) (mOpA pTup (Qb (mLit (.int 0)) (Qb (mLit (.int 0)) (Qb Qj5 mNil)))))
 (mSeq (mAsg (gSet 5) (mOpA pTup (Qb (mLit (.int 0)) (Qb (mOpA newL mNil) (Qb (mOpA newL mNil) mNil)))))
 (mSeq (mAsg (gSet 6) (mLit (.int 0)))
 (mSeq (mFor (Qcp (Jd (mVar 0) Yi (QaK (mLit (.int 63))))) (Yh [(gSet 7),(gSet 8)]) QbY)
 (mSeq (mAsg (gSet 11) (Qn QdX (Qb (mVar 0) (Qb (mVar 1) mNil))))
 (mRet (Qn Ju (Qb (mVar 3) (Qb (mVar 5) (Qb (mVar 11) (Qb (mOp2 pMod (Qn QdX (Qb (mVar 0) (Qb (mVar 1) mNil))) (mOp2 pAdd (mVar 11) (mLit (.int 1)))) mNil))))))))))))))
noncomputable def Qkd:MF:=mDef 1 11 Ql8
end L3
namespace L3
open PySem PySem.Spec PyProof.Rows L2
section
variable{X:Cx}{ca:Nat->Addr}{a b c:Expr}{ma mb mc:ME}{pos:Pos}
theorem Ql9(ha:PE3 ca X a ma)(hb:PE3 ca X b mb)(hc:PE3 ca X c mc)(hm:lastMarks [.LtE,.LtE] [b,c]=false:=by with_unfolding_all rfl):PT3 ca X (.Compare a [.LtE,.LtE] [b,c] pos) (Qk (JJ pLe pLe ma mb mc)) :=
 λpn Φ=>Qdx (QjB (X:=xat X ca pn Φ) Qlj Qlj (ha pn Φ) (hb pn Φ) (hc pn Φ) hm) λσ H Q hQ=>by
  obtain⟨σ3,g,μ,R,p⟩:=hQ
  have q:up X.K ca Φ (JJ pLe pLe ma mb mc) σ H λx H'=>∃k,x=.bl k/\Q k H':=QZ (QlA R p) λx H1 hQ=>by
   obtain⟨d,g1,μ1,e1,R1,q1,p1⟩:=hQ
   cases q1 with
   |bl b=>exact⟨b,rfl,p1 H1 μ1 .refl R1.g⟩
   |_=>exact p1.elim
  exact Qgm (Z3 _) (Z3 _) σ H _ q
end
end L3
namespace L3
open PySem
structure Keeps(S:List Nat)(g g':G):Prop where
 len:g.length<=g'.length
 at':∀n o,n∉S->g[n]?=some o->g'[n]?=some o
theorem Keeps.refl{S:List Nat}{g:G}:Keeps S g g:=⟨Uc _,λ_ _ _ h=>h⟩
theorem Keeps.trans{S:List Nat}{g g1 g2:G}(a:Keeps S g g1)(b:Keeps S g1 g2):Keeps S g g2:=⟨Ut a.len b.len,λn o h e=>b.at' n o h (a.at' n o h e)⟩
theorem Keeps.mono{S T:List Nat}{g g1:G}(a:Keeps S g g1)(h:∀n∈S,n∈T):Keeps T g g1:=⟨a.len,λn o q e=>a.at' n o (λz=>q (h n z)) e⟩
theorem Keeps.all{S:List Nat}{g g1:G}(a:Keeps [] g g1):Keeps S g g1:=a.mono (by simp)
theorem Keeps.push{S:List Nat}{g:G}(o:GO):Keeps S g (g++[o]):=⟨by simp,λn u _ e=>by
 have hl:n<g.length:=(Ul.mp e).1
 rw[UA hl];exact e⟩
theorem Keeps.set{g:G}(n:Nat)(o:GO):Keeps [n] g (g.set n o):=⟨by simp,λm u h e=>by
 rw[Uk (λz=>h (by simp[z]))];exact e⟩
structure KeepsN(k:Nat)(S:List Nat)(g g':G):Prop where
 len:g.length<=g'.length
 at':∀n o,n<k->n∉S->g[n]?=some o->g'[n]?=some o
theorem KeepsN.refl{k:Nat}{S:List Nat}{g:G}:KeepsN k S g g:=⟨Uc _,λ_ _ _ _ h=>h⟩
theorem KeepsN.trans{k:Nat}{S:List Nat}{g g1 g2:G}(a:KeepsN k S g g1)(b:KeepsN k S g1 g2):KeepsN k S g g2:=⟨Ut a.len b.len,λn o l h e=>b.at' n o l h (a.at' n o l h e)⟩
theorem Keeps.n{k:Nat}{S T:List Nat}{g g1:G}(a:Keeps S g g1)(h:∀n∈S,n<k->n∈T):KeepsN k T g g1:=⟨a.len,λn o l q e=>a.at' n o (λz=>q (h n z l)) e⟩
theorem KeepsN.mono{j k:Nat}{S T:List Nat}{g g1:G}(a:KeepsN k S g g1)(hj:j<=k)(h:∀n∈S,n<j->n∈T):KeepsN j T g g1:=⟨a.len,λn o l q e=>a.at' n o (by omega) (λz=>q (h n z l)) e⟩
theorem KeepsN.keeps{S:List Nat}{g g1:G}(a:KeepsN g.length S g g1):Keeps S g g1:=⟨a.len,λn o q e=>a.at' n o (Ul.mp e).1 q e⟩
theorem QW{g:G}(o:GO):(g++[o])[g.length]?=some o:=by simp
theorem ZI{g:G}{n:Nat}{o:GO}(h:g[n]?=some o):n<g.length:=(Ul.mp h).1
theorem QK{g:G}{n:Nat}{o u:GO}(h:g[n]?=some o):(g.set n u)[n]?=some u:=by rw[Tf (ZI h)]
noncomputable def Qke:Out->Prop
 |.rt _ _=>True
 |.raise _ _ _=>True
 |.stuck=>True
 |_=>False
theorem QaW{src:Src}{t:MG}{body:MS}{n:Nat}(I:Nat->S3->G->Prop)(R:Out->Prop)(step:∀i σ g,i<n->I i σ g->∃d σ1,src.at' g i=some (some d)/\t d σ=some σ1/\((∃σ2 g2,(body σ1 g=.nx σ2 g2\/body σ1 g=.ct σ2 g2)/\I (i+1) σ2 g2)\/(Qke (body σ1 g)/\R (body σ1 g))))(stop:∀σ g,I n σ g->src.at' g n=some none):∀(f i:Nat)(σ:S3)(g:G),n-i<f->i<=n->I i σ g->(∃σ' g',forL src t body f i σ g=.nx σ' g'/\I n σ' g')\/(Qke (forL src t body f i σ g)/\R (forL src t body f i σ g))
 |0,_,_,_,h,_,_=>by omega
 |f+1,i,σ,g,hf,hi,h=>by
  unfold forL
  by_cases e:i=n
  ·subst e
   rw[stop σ g h]
   exact .inl ⟨σ,g,rfl,h⟩
  ·obtain⟨d,σ1,h1,h2,h3⟩:=step i σ g (by omega) h
   rw[h1]
   dsimp only
   rw[h2]
   dsimp only
   rcases h3 with⟨σ2,g2,h3|h3,h4⟩|⟨h3,h4⟩
   ·rw[h3];exact QaW I R step stop f (i+1) σ2 g2 (by omega) (by omega) h4
   ·rw[h3];exact QaW I R step stop f (i+1) σ2 g2 (by omega) (by omega) h4
   ·cases hb:body σ1 g with
    |rt d g'=>rw[hb]at h4;exact .inr ⟨trivial,h4⟩
    |raise x σ' g'=>rw[hb]at h4;exact .inr ⟨trivial,h4⟩
    |nx _ _=>rw[hb]at h3;exact h3.elim
    |bk _ _=>rw[hb]at h3;exact h3.elim
    |ct _ _=>rw[hb]at h3;exact h3.elim
    |stuck=>rw[hb]at h4;exact .inr ⟨trivial,h4⟩
theorem JU{t:MG}{body:MS}{lo:Int}{n:Nat}{σ:S3}{g:G}(I:Nat->S3->G->Prop)(h0:I 0 σ g)(step:∀i σ g,i<n->I i σ g->∃σ1 σ2 g2,t (.int (lo+i)) σ=some σ1/\body σ1 g=.nx σ2 g2/\I (i+1) σ2 g2):∃σ' g',forL (Q8 lo n) t body (n+1) 0 σ g=.nx σ' g'/\I n σ' g':=by
 have:=QaW (src:=Q8 lo n) (t:=t) (body:=body) (n:=n) I (λ_=>False) (λi σ g hi h=>by
  obtain⟨σ1,σ2,g2,a,b,c⟩:=step i σ g hi h
  exact⟨.int (lo+i),σ1,by simp[Q8,hi],a,.inl ⟨σ2,g2,.inl b,c⟩⟩) (λσ g _=>by simp[Q8]) (n+1) 0 σ g (by omega) (by omega) h0
 rcases this with h|h
 ·exact h
 ·exact h.2.elim
theorem QeR{t:MG}{body:MS}{ds:List D}{σ:S3}{g:G}(I:Nat->S3->G->Prop)(R:Out->Prop)(h0:I 0 σ g)(step:∀i d σ g,ds[i]?=some d->I i σ g->∃σ1,t d σ=some σ1/\((∃σ2 g2,body σ1 g=.nx σ2 g2/\I (i+1) σ2 g2)\/(Qke (body σ1 g)/\R (body σ1 g)))):
  (∃σ' g',forL ⟨λ_ i=>some ds[i]?,ds.length⟩ t body (ds.length+1) 0 σ g=.nx σ' g'/\I ds.length σ' g')\/(Qke (forL ⟨λ_ i=>some ds[i]?,ds.length⟩ t body (ds.length+1) 0 σ g)/\R (forL ⟨λ_ i=>some ds[i]?,ds.length⟩ t body (ds.length+1) 0 σ g)) :=
 QaW (src:=⟨λ_ i=>some ds[i]?,ds.length⟩) (t:=t) (body:=body) (n:=ds.length) I R (λi σ g hi h=>by
  obtain⟨σ1,a,b⟩:=step i ds[i] σ g (by simp[hi]) h
  refine⟨ds[i],σ1,by simp[hi],a,?_⟩
  rcases b with⟨σ2,g2,b,c⟩|b
  ·exact .inl ⟨σ2,g2,.inl b,c⟩
  ·exact .inr b) (λσ g _=>by simp) (ds.length+1) 0 σ g (by omega) (by omega) h0
theorem Qd0{src:Src}{t:MG}{body:MS}{n:Nat}{σ:S3}{g:G}(hn:src.top=n)(I:Nat->S3->G->Prop)(h0:I 0 σ g)(step:∀i σ g,i<n->I i σ g->∃d σ1 σ2 g2,src.at' g i=some (some d)/\t d σ=some σ1/\body σ1 g=.nx σ2 g2/\I (i+1) σ2 g2)(stop:∀σ g,I n σ g->src.at' g n=some none):∃σ' g',forL src t body (src.top+1) 0 σ g=.nx σ' g'/\I n σ' g':=by
 rw[hn]
 have:=QaW (src:=src) (t:=t) (body:=body) (n:=n) I (λ_=>False) (λi σ g hi h=>by
  obtain⟨d,σ1,σ2,g2,a,b,c,e⟩:=step i σ g hi h
  exact⟨d,σ1,a,b,.inl ⟨σ2,g2,.inl c,e⟩⟩) stop (n+1) 0 σ g (by omega) (by omega) h0
 rcases this with h|h
 ·exact h
 ·exact h.2.elim
theorem Yd{src:Src}{t:MG}{c:MT}{e:ME}{n:Nat}(I:Nat->S3->G->List D->Prop)(step:∀i σ g acc,i<n->I i σ g acc->∃d σ1 g1,src.at' g i=some (some d)/\t d σ=some σ1/\((∃y g2,c σ1 g=.ok true g1/\e σ1 g1=.ok y g2/\I (i+1) σ1 g2 (acc++[y]))\/(c σ1 g=.ok false g1/\I (i+1) σ1 g1 acc)))(stop:∀σ g acc,I n σ g acc->src.at' g n=some none):∀(f i:Nat)(σ:S3)(g:G)(acc:List D),n-i<f->i<=n->I i σ g acc->∃ds σ' g',Jc src t c e f i σ g acc=.ok ds g'/\I n σ' g' ds
 |0,_,_,_,_,h,_,_=>by omega
 |f+1,i,σ,g,acc,hf,hi,h=>by
  unfold Jc
  by_cases q:i=n
  ·subst q
   rw[stop σ g acc h]
   exact⟨acc,σ,g,rfl,h⟩
  ·obtain⟨d,σ1,g1,h1,h2,h3⟩:=step i σ g acc (by omega) h
   rw[h1]
   dsimp only
   rw[h2]
   dsimp only
   rcases h3 with⟨y,g2,h3,h4,h5⟩|⟨h3,h5⟩
   ·rw[h3];dsimp only;rw[Ud rfl,h4];exact Yd I step stop f (i+1) σ1 g2 _ (by omega) (by omega) h5
   ·rw[h3];dsimp only;rw[Ue Ug];exact Yd I step stop f (i+1) σ1 g1 _ (by omega) (by omega) h5
theorem Qhq{ds:List D}{e:ME}{no:Nat}{σ:S3}{g:G}{f:D->D}(hz:ds.length<=SZ)(he:∀d∈ds,∀g1,Keeps [] g g1->∃g2,e ((List.replicate (no+1) none++σ).set 0 (some d)) g1=.ok (f d) g2/\Keeps [] g1 g2):
  ∃g',Jc ⟨λ_ i=>some ds[i]?,ds.length⟩ (gSet 0) YJ e (ds.length+1) 0 (List.replicate (no+1) none++σ) g []=.ok (ds.map f) g'/\Keeps [] g g':=by
 obtain⟨xs,σ',g',h1,h2,h3,h4⟩:=Yd (src:=⟨λ_ i=>some ds[i]?,ds.length⟩) (t:=gSet 0) (c:=YJ) (e:=e) (n:=ds.length)
  (λi σ' g1 acc=>acc=(ds.take i).map f/\Keeps [] g g1/\∃u,σ'=(List.replicate (no+1) none++σ).set 0 u) (λi σ' g1 acc hi h=>by
   obtain⟨h1,h2,u,h3⟩:=h
   obtain⟨g2,k1,k2⟩:=he ds[i] (UK hi) g1 h2
   refine⟨ds[i],_,g1,by simp[hi],rfl,.inl ⟨f ds[i],g2,rfl,?_,?_,h2.trans k2,some ds[i],?_⟩⟩
   ·subst h3;rw[RZ];exact k1
   ·rw[h1,UN hi,Ws];rfl
   ·subst h3;rw[RZ]) (λσ g acc _=>by simp) (ds.length+1) 0 (List.replicate (no+1) none++σ) g [] (by omega) (by omega) ⟨by simp,.refl,none,by simp[U0]⟩
 refine⟨g',?_,h3⟩
 rw[h1,h2,Ri]
noncomputable def QaX(d:D)(n:Int):Bool:=match d with
 |.int i=>decide (0<=i/\i<n)
 |_=>false
noncomputable def Qn4:D->Bool
 |.int _=>true
 |_=>false
theorem Qcx(d:D)(n:Int)(g:G)(t:Ty)(_:tyOf g d=some t)(hp:Qn4 d=true:=by rfl):ZF [d,.int n] g=.ok (.bl (QaX d n)) g:=by
 cases d with
 |int i =>
  have c:JJ pLe pLt (mLit (.int 0)) (mVar 0) (mVar 1) [some (.int i),some (.int n)] g=.ok (.bl (decide (0<=i/\i<n))) g:=by
   unfold JJ
   rw[show mLit (D.int 0) [some (D.int i),some (D.int n)] g=.ok (.int 0) g from rfl,Res.bind_ok,show mVar 0 [some (D.int i),some (D.int n)] g=.ok (.int i) g from rfl,Res.bind_ok,show pLe (.int 0) (.int i) g=.ok (.bl (decide (0<=i))) g from rfl,Res.bind_ok]
   by_cases h0:0<=i
   ·rw[UC h0]
    show Res.ok (D.bl (decide (i<n))) g=_
    by_cases h1:i<n
    ·rw[UC h1,UC ⟨h0,h1⟩]
    ·rw[UB h1,UB λz=>h1 z.2]
   ·rw[UB h0,UB λz=>h0 z.1]
  have a1:Qn Jf (Qb (mVar 0) mNil) [some (.int i),some (.int n)] g=.ok (.bl true) g:=rfl
  show(match mRet (mAnd (Qn Jf (Qb (mVar 0) mNil)) (JJ pLe pLt (mLit (.int 0)) (mVar 0) (mVar 1))) [some (.int i),some (.int n)] g with
   |.nx _ g'=>Res.ok D.non g'
   |.rt d g'=>.ok d g'
   |.raise e _ g'=>.raise e g'
   |_=>.stuck)=_
  unfold mRet mAnd
  rw[a1,Res.bind_ok]
  dsimp only
  rw[Ud rfl,c]
  rfl
 |_=>cases hp
theorem s_l:Str.ofString "l" = ⟨#[108]⟩:=by decide +kernel
theorem s_r:Str.ofString "r" = ⟨#[114]⟩:=by decide +kernel
noncomputable def wayD:D->Bool
 |.str s=>s == ⟨#[108]⟩ || s == ⟨#[114]⟩
 |_=>false
noncomputable def entD(d:D)(states signs:Int):Bool:=match d with
 |.non=>true
 |.tup [a,b,c]=>QaX a signs && wayD b && QaX c states
 |_=>false
def thingD(_:G)(d:D):Prop:=d=.non\/∃(i j:Int)(w:Str),d=.tup [.int i,.str w,.int j]
theorem Qma(s:Str)(g:G):pIn false (.str s) (.tup [.str ⟨#[108]⟩,.str ⟨#[114]⟩]) g=.ok (.bl (wayD (.str s))) g:=by
 show Res.ok (D.bl ((⟨#[108]⟩ == s) || ((⟨#[114]⟩ == s) || false))) g=.ok (.bl ((s == ⟨#[108]⟩) || (s == ⟨#[114]⟩))) g
 rw[show((⟨#[108]⟩:Str) == s)=(s == ⟨#[108]⟩) from BEq.comm,show((⟨#[114]⟩:Str) == s)=(s == ⟨#[114]⟩) from BEq.comm,Bool.or_false]
theorem QfG(d:D)(states signs:Int)(g:G)(h:thingD g d):Yr [d,.int states,.int signs] g=.ok (.bl (entD d states signs)) g:=by
 rcases h with rfl|⟨i,j,w,rfl⟩
 ·rfl
 ·have a1:Qn ZF (Qb (mOp2 pIx (mVar 0) (mLit (.int 0))) (Qb (mVar 2) mNil)) [some (.tup [.int i,.str w,.int j]),some (.int states),some (.int signs)] g=.ok (.bl (QaX (.int i) signs)) g:=Qcx (.int i) signs g .int rfl
  have a3:Qn ZF (Qb (mOp2 pIx (mVar 0) (mLit (.int 2))) (Qb (mVar 1) mNil)) [some (.tup [.int i,.str w,.int j]),some (.int states),some (.int signs)] g=.ok (.bl (QaX (.int j) states)) g:=Qcx (.int j) states g .int rfl
  have a2:mOp2 (pIn false) (mOp2 pIx (mVar 0) (mLit (.int 1))) (mOpA pTup (Qb (mLit (.str "l")) (Qb (mLit (.str "r")) mNil))) [some (.tup [.int i,.str w,.int j]),some (.int states),some (.int signs)] g=.ok (.bl (wayD (.str w))) g:=by
   rw[s_l,s_r];exact Qma w g
  show(match (mRet (mAnd (Qn ZF (Qb (mOp2 pIx (mVar 0) (mLit (.int 0))) (Qb (mVar 2) mNil))) (mAnd (mOp2 (pIn false) (mOp2 pIx (mVar 0) (mLit (.int 1))) (mOpA pTup (Qb (mLit (.str "l")) (Qb (mLit (.str "r")) mNil)))) (Qn ZF (Qb (mOp2 pIx (mVar 0) (mLit (.int 2))) (Qb (mVar 1) mNil)))))) [some (.tup [.int i,.str w,.int j]),some (.int states),some (.int signs)] g with
   |.nx _ g'=>Res.ok D.non g'
   |.rt d g'=>.ok d g'
   |.raise e _ g'=>.raise e g'
   |_=>.stuck)=.ok (.bl (QaX (.int i) signs && wayD (.str w) && QaX (.int j) states)) g
  unfold mRet mAnd
  rw[a1,Res.bind_ok]
  dsimp only
  cases QaX (.int i) signs
  ·rfl
  ·rw[Ud rfl,a2,Res.bind_ok]
   dsimp only
   cases wayD (.str w)
   ·rfl
   ·rw[Ud rfl,a3];rfl
theorem Keeps.ty{g g1:G}(k:Keeps [] g g1){d:D}{t:Ty}(h:tyOf g d=some t):tyOf g1 d=some t:=by
 cases d with
 |ref n =>
  unfold tyOf at h ⊢
  dsimp only at h ⊢
  cases hg:g[n]? with
  |none=>rw[hg]at h;cases h
  |some o=>rw[hg]at h;rw[k.at' n o (by simp) hg];exact h
 |_=>exact h
theorem thingD.mono{g g1:G}{d:D}(_:Keeps [] g g1)(h:thingD g d):thingD g1 d:=h
theorem Qgy{α:Type}(f:α->Bool):∀ts:List α,allB (ts.map λd=>D.bl (f d))=some (ts.all f)
 |[]=>rfl
 |t::ts=>by simp[allB,Qgy f ts]
noncomputable def YB(n m:Nat)(r:List D):Bool:=r.length == m && r.all λd=>entD d n m
noncomputable def QaY(rows:List (List D)):Bool:=match rows with
 |[]=>false
 |r::_=>r.length != 0 && rows.all (YB rows.length r.length)
theorem QiP(σ:S3)(g:G):YM σ g=.stuck:=rfl
theorem eq_int(i j:Int)(g:G):pEq (.int i) (.int j) g=.ok (.bl (i == j)) g:=rfl
theorem ne_int(i j:Int)(g:G):pNe (.int i) (.int j) g=.ok (.bl (!(i == j))) g:=rfl
theorem Qmb(n m:Nat)(ts:List D)(x:D)(g:G)(hz:ts.length<=SZ)(h:∀d∈ts,thingD g d):
  ∃g',Keeps [] g g'/\mOp1 pAll (YI (QO (mVar 3)) 1 [1,2] (gSet 0) YJ (Qn Yr (Qb (mVar 0) (Qb (mVar 1) (Qb (mVar 2) mNil))))) [some x,some (.int n),some (.int m),some (.tup ts)] g=.ok (.bl (ts.all λd=>entD d n m)) g':=by
 obtain⟨g1,h1,k1⟩:=Qhq (ds:=ts) (e:=Qn Yr (Qb (mVar 0) (Qb (mVar 1) (Qb (mVar 2) mNil)))) (no:=0) (σ:=[some (.int n),some (.int m)]) (g:=g) (f:=λd=>.bl (entD d n m)) hz
  (λd hd g1 k=>⟨g1,by simp[Qn,Qb,mNil,mVar,Res.bind,QfG d n m g1 ((h d hd).mono k)],.refl⟩)
 refine⟨g1++[.lst (ts.map λd=>.bl (entD d n m))],k1.trans (.push _),?_⟩
 have h1:Jc ⟨λ_ i=>some ts[i]?,ts.length⟩ (gSet 0) YJ (Qn Yr (Qb (mVar 0) (Qb (mVar 1) (Qb (mVar 2) mNil)))) (ts.length+1) 0 [none,some (.int n),some (.int m)] g []=.ok (ts.map λd=>.bl (entD d n m)) g1:=h1
 simp[mOp1,YI,QO,mVar,Res.bind,Qak,hz,capt,h1,pAll,Qgy]
theorem Qkf(n m:Nat)(ts:List D)(x:D)(g:G)(hz:ts.length<=SZ)(h:∀d∈ts,thingD g d):
  ∃g',Keeps [] g g'/\Q4 [some x,some (.int n),some (.int m),some (.tup ts)] g=if YB n m ts=true then .nx [some x,some (.int n),some (.int m),some (.tup ts)] g' else .stuck:=by
 by_cases hl:ts.length=m
 ·obtain⟨g2,k2,e2⟩:=Qmb n m ts x g hz h
  refine⟨g2,k2,?_⟩
  have hl':((ts.length:Int) == (m:Int))=true:=by simp[hl]
  have gr:YB n m ts=ts.all λd=>entD d n m:=by simp[YB,hl]
  rw[gr]
  simp only[Q4,mSeq,mIf,Qk,mOp2,mOp1,mVar,Res.bind,Rg,TJ,pLen,ne_int,hl',Bool.not_true,Rl,WR,QN,JI]
  simp only[mOp1,Res.bind]at e2
  rw[e2]
  cases (ts.all λd=>entD d n m) <;> simp[YM]
 ·refine⟨g,.refl,?_⟩
  have hl':((ts.length:Int) == (m:Int))=false:=by simp;omega
  have gr:YB n m ts=false:=by
   have:(ts.length == m)=false:=by simp[hl]
   simp only[YB,this,Bool.false_and]
  rw[gr]
  simp only[Q4,mSeq,mIf,Qk,mOp2,mOp1,mVar,Res.bind,Rg,TJ,pLen,ne_int,hl',Bool.not_false,Wu,QiP,Rl,WR]
theorem Qd1(rows:List (List D))(g:G)(hz:∀r∈rows,r.length<=SZ)(h:∀r∈rows,∀d∈r,thingD g d):
  ∃g',Keeps [] g g'/\ZH [.tup (rows.map .tup)] g=if QaY rows=true then .ok .non g' else .stuck:=by
 cases rows with
 |nil=>exact⟨g,.refl,by simp[ZH,mDef,ZG,mSeq,mIf,Qk,mOp2,mOp1,mVar,mLit,Res.bind,pLen,eq_int,QiP,QaY]⟩
 |cons r rest =>
  have e0:¬((rest.length:Int)+1=0):=by omega
  have e1:(0:Int)<(rest.length:Int)+1:=by omega
  by_cases hr:r.length=0
  ·refine⟨g,.refl,?_⟩
   simp[ZH,mDef,ZG,mSeq,mIf,Qk,mOp2,mOp1,mVar,mLit,Res.bind,pLen,eq_int,QiP,QaY,hr,e0,e1,QN,mAsg,gSet,pIx,atD,ixD]
  ·have hr':¬((r.length:Int)=0):=by omega
   have hrn:¬r=[]:=λz=>hr (by rw[z];rfl)
   have hd0:QaY (r::rest)=(r::rest).all (YB (r::rest).length r.length):=by simp[QaY,hr]
   have loop:=QeR (t:=gSet 3) (ds:=(r::rest).map D.tup) (σ:=[some (.tup ((r::rest).map .tup)),some (.int (r::rest).length),some (.int r.length),none]) (g:=g) (body:=Q4)
    (λi σ g1=>Keeps [] g g1/\(∃u,σ=[some (.tup ((r::rest).map .tup)),some (.int (r::rest).length),some (.int r.length),u])/\∀x∈(r::rest).take i,YB (r::rest).length r.length x=true)
    (λo=>o=.stuck/\∃x∈r::rest,YB (r::rest).length r.length x=false) ⟨.refl,⟨none,rfl⟩,by simp⟩ (λi d σ g1 hd ⟨k,⟨u,hσ⟩,hg⟩=>by
     rw[Uy]at hd
     cases hx:(r::rest)[i]? with
     |none=>rw[hx]at hd;cases hd
     |some ts =>
      rw[hx]at hd
      cases hd
      have hm:ts∈r::rest:=Rt hx
      subst hσ
      refine⟨_,rfl,?_⟩
      obtain⟨g2,k2,e2⟩:=Qkf (r::rest).length r.length ts (.tup ((r::rest).map .tup)) g1 (hz ts hm) λd hd=>(h ts hm d hd).mono k
      simp only[List.set]
      rw[e2]
      cases ha:YB (r::rest).length r.length ts with
      |true =>
       left
       refine⟨_,g2,by rw[Ud rfl],k.trans k2,⟨_,rfl⟩,λx hx'=>?_⟩
       rw[List.take_succ,hx]at hx'
       rcases UX.mp hx' with z|z
       ·exact hg x z
       ·have:x=ts:=by simpa using z
        rw[this];exact ha
      |false =>
       right
       rw[Ue Ug]
       exact⟨trivial,rfl,ts,hm,ha⟩)
   have fin:ZG [some (.tup ((r::rest).map .tup)),none,none,none] g=forL ⟨λ_ i=>some ((r::rest).map D.tup)[i]?,((r::rest).map D.tup).length⟩ (gSet 3) Q4 (((r::rest).map D.tup).length+1) 0 [some (.tup ((r::rest).map .tup)),some (.int (r::rest).length),some (.int r.length),none] g:=by
    simp[ZG,mSeq,mIf,Qk,mOp2,mOp1,mVar,mLit,Res.bind,pLen,eq_int,e0,QN,mAsg,gSet,pIx,atD,ixD,e1,hr',hrn,mFor,QO,Qak]
   have ap:ZH [.tup ((r::rest).map .tup)] g=match ZG [some (.tup ((r::rest).map .tup)),none,none,none] g with
    |.nx _ g'=>.ok .non g'
    |.rt d g'=>.ok d g'
    |.raise e _ g'=>.raise e g'
    |_=>.stuck:=rfl
   rw[ap,fin]
   rcases loop with⟨σ',g',h1,k1,_,h2⟩|⟨_,h1,x,hx,hg⟩
   ·refine⟨g',k1,?_⟩
    have:QaY (r::rest)=true:=by
     rw[hd0,Tp]
     intro x hx
     exact h2 x (by rw[Ur,Ri];exact hx)
    rw[Ud this,h1]
   ·refine⟨g,.refl,?_⟩
    have:¬QaY (r::rest)=true:=by
     rw[hd0,Tp]
     intro z
     rw[z x hx]at hg;cases hg
    rw[Ue this,h1]
theorem Keeps.seq{g g1:G}(k:Keeps [] g g1){d:D}{p:Bool×List D}(h:Qv g d=some p):Qv g1 d=some p:=by
 cases d with
 |ref n =>
  unfold Qv at h ⊢
  dsimp only at h ⊢
  cases hg:g[n]? with
  |none=>rw[hg]at h;cases h
  |some o=>rw[hg]at h;rw[k.at' n o (by simp) hg];exact h
 |_=>exact h
theorem Qn5{g:G}{d:D}{b:Bool}{ds:List D}(h:Qv g d=some (b,ds)):∃src,Qak d g=.ok src g/\src.top=ds.length/\∀g1 i,Qv g1 d=some (b,ds)->src.at' g1 i=some ds[i]?:=by
 cases d with
 |tup es=>cases h;exact⟨_,rfl,rfl,λ_ _ _=>rfl⟩
 |fl es=>cases h;exact⟨_,rfl,rfl,λ_ _ _=>rfl⟩
 |ref n =>
  unfold Qv at h
  dsimp only at h
  cases hg:g[n]? with
  |none=>rw[hg]at h;cases h
  |some o =>
   rw[hg]at h
   cases o with
   |lst es =>
    cases h
    refine⟨_,by unfold Qak;dsimp only;rw[hg],rfl,λg1 i h1=>?_⟩
    unfold Qv at h1
    dsimp only at h1 ⊢
    cases hg1:g1[n]? with
    |none=>rw[hg1]at h1;cases h1
    |some o1 =>
     rw[hg1]at h1
     cases o1 with
     |lst es1=>cases h1;rfl
     |_=>cases h1
   |_=>cases h
 |_=>cases h
theorem Qkg{src:Src}{ds:List D}{e:ME}{no:Nat}{σ:S3}{g:G}{f:D->D}(ht:src.top=ds.length)(hs:∀g1 i,Keeps [] g g1->src.at' g1 i=some ds[i]?)(he:∀d∈ds,∀g1,Keeps [] g g1->∃g2,e ((List.replicate (no+1) none++σ).set 0 (some d)) g1=.ok (f d) g2/\Keeps [] g1 g2):
  ∃g',Jc src (gSet 0) YJ e (src.top+1) 0 (List.replicate (no+1) none++σ) g []=.ok (ds.map f) g'/\Keeps [] g g':=by
 obtain⟨xs,σ',g',h1,h2,h3,h4⟩:=Yd (src:=src) (t:=gSet 0) (c:=YJ) (e:=e) (n:=ds.length)
  (λi σ' g1 acc=>acc=(ds.take i).map f/\Keeps [] g g1/\∃u,σ'=(List.replicate (no+1) none++σ).set 0 u) (λi σ' g1 acc hi h=>by
   obtain⟨h1,h2,u,h3⟩:=h
   obtain⟨g2,k1,k2⟩:=he ds[i] (UK hi) g1 h2
   refine⟨ds[i],_,g1,by rw[hs g1 i h2];simp[hi],rfl,.inl ⟨f ds[i],g2,rfl,?_,?_,h2.trans k2,some ds[i],?_⟩⟩
   ·subst h3;rw[RZ];exact k1
   ·rw[h1,UN hi,Ws];rfl
   ·subst h3;rw[RZ]) (λσ g1 acc h=>by rw[hs g1 _ h.2.1];simp) (src.top+1) 0 (List.replicate (no+1) none++σ) g [] (by omega) (by omega) ⟨by simp,.refl,none,by simp[U0]⟩
 refine⟨g',?_,h3⟩
 rw[h1,h2,Ri]
def rowsOf(g:G)(d:D)(rows:List (List D)):Prop:=∃b ds,Qv g d=some (b,ds)/\ds.length=rows.length/\∀(i:Nat) x r,ds[i]?=some x->rows[i]?=some r->∃c,Qv g x=some (c,r)
theorem rowsOf.mono{g g1:G}{d:D}{rows:List (List D)}(k:Keeps [] g g1)(h:rowsOf g d rows):rowsOf g1 d rows:=by
 obtain⟨b,ds,h1,h2,h3⟩:=h
 exact⟨b,ds,k.seq h1,h2,λi x r hx hr=>let ⟨c,q⟩:=h3 i x r hx hr;⟨c,k.seq q⟩⟩
theorem QiQ{g:G}{d:D}{b:Bool}{ds:List D}(h:Qv g d=some (b,ds)):YO d g=.ok (.tup ds) g:=by
 cases d with
 |tup es=>cases h;rfl
 |fl es=>cases h;rfl
 |ref n =>
  unfold Qv at h
  dsimp only at h
  cases hg:g[n]? with
  |none=>rw[hg]at h;cases h
  |some o =>
   rw[hg]at h
   cases o with
   |lst es=>cases h;simp[YO,hg]
   |_=>cases h
 |_=>cases h
theorem Q5:Str.ofString "table" = ⟨#[116,97,98,108,101]⟩:=by decide +kernel
noncomputable def Jv(rows:List (List D)):GO:=.ins 11 [(Str.ofString "table",.tup (rows.map .tup))]
theorem Qmc(m:Nat)(d:D)(rows:List (List D))(g:G)(hm:g[m]?=some (.ins 11 []))(hr:rowsOf g d rows)(hz:∀r∈rows,r.length<=SZ)(hl:rows.length<=SZ)(h:∀r∈rows,∀d∈r,thingD g d):
  ∃g',Keeps [] g g'/\Ze [.ref m,d] g=if QaY rows=true then .ok .non (g'.set m (Jv rows)) else .stuck:=by
 obtain⟨b,ds,h1,h2,h3⟩:=hr
 obtain⟨src,s1,s2,s3⟩:=Qn5 h1
 have mp:∀x∈ds,∃c r,Qv g x=some (c,r):=λx hx=>by
  obtain⟨i,hi,rfl⟩:=U1 hx
  obtain⟨c,q⟩:=h3 i ds[i] (rows[i]'(by omega)) (by simp[hi]) (by simp[show i<rows.length by omega])
  exact⟨c,_,q⟩
 obtain⟨g1,c1,k1⟩:=Qkg (src:=src) (ds:=ds) (e:=mOp1 YO (mVar 0)) (no:=0) (σ:=[]) (g:=g) (f:=λx=>.tup (((Qv g x).map (·.2)).getD [])) s2 (λg1 i k=>s3 g1 i (k.seq h1)) (λx hx g1 k=>by
  obtain⟨c,r,q⟩:=mp x hx
  refine⟨g1,?_,.refl⟩
  simp[mOp1,mVar,Res.bind,QiQ (k.seq q),q])
 have em:(ds.map λx=>D.tup (((Qv g x).map (·.2)).getD []))=rows.map .tup:=by
  apply List.ext_getElem
  ·simp[h2]
  ·intro i hi hi'
   simp only[Ur]at hi hi'
   obtain⟨c,q⟩:=h3 i ds[i] rows[i] (by simp[hi]) (by simp[hi'])
   simp[q]
 rw[em]at c1
 have c1:Jc src (gSet 0) YJ (mOp1 YO (mVar 0)) (src.top+1) 0 [none] g []=.ok (rows.map .tup) g1:=c1
 have k2:Keeps [] g (g1++[.lst (rows.map .tup)]):=k1.trans (.push _)
 obtain⟨g3,k3,c3⟩:=Qd1 rows (g1++[.lst (rows.map .tup)]) hz λr hr d hd=>(h r hr d hd).mono k2
 refine⟨g3,k2.trans k3,?_⟩
 have hz2:src.top<=SZ:=by omega
 have hm3:=(k2.trans k3).at' m _ (by simp) hm
 simp[Ze,mDef,Qao,mSeq,mAsg,mOp1,YI,QO,mVar,Res.bind,s1,hz2,capt,c1,YO,gSet,Zq,Qn,Qb,mNil,c3]
 by_cases hg:QaY rows=true
 ·simp[hg,QM,mVar,hm3,putG,Jv]
 ·simp[hg]
theorem Qmd(d:D)(rows:List (List D))(g:G)(hr:rowsOf g d rows)(hz:∀r∈rows,r.length<=SZ)(hl:rows.length<=SZ)(h:∀r∈rows,∀d∈r,thingD g d)(a:MA)(σ:S3)(g0:G)(ha:a σ g0=.ok [d] g):
  ∃g',Keeps [] g g'/\Qdw 11 Ze a σ g0=(if QaY rows=true then .ok (.ref g.length) g' else .stuck)/\(QaY rows=true->g'[g.length]?=some (Jv rows)):=by
 have kp:Keeps [] g (g++[.ins 11 []]):=.push _
 obtain⟨g',k',e'⟩:=Qmc g.length d rows (g++[.ins 11 []]) (QW _) (hr.mono kp) hz hl λr hr d hd=>(h r hr d hd).mono kp
 by_cases hg:QaY rows=true
 ·rw[Ud hg]at e'
  refine⟨g'.set g.length (Jv rows),?_,?_,λ_=>?_⟩
  ·refine⟨by rw[T9];exact Ut kp.len k'.len,λn o _ e=>?_⟩
   have hn:n<g.length:=ZI e
   rw[Uk (by omega)]
   exact(kp.trans k').at' n o (by simp) e
  ·simp[Qdw,ha,Res.bind,e',hg]
  ·rw[Tf]
   have:=k'.len
   simp at this
   omega
 ·rw[Ue hg]at e'
  exact⟨g',kp.trans k',by simp[Qdw,ha,Res.bind,e',hg],λz=>absurd z hg⟩
theorem YV{a b:MS}{σ σ':S3}{g g':G}(h:a σ g=.nx σ' g'):mSeq a b σ g=b σ' g':=by unfold mSeq;rw[h]
theorem Qgz{a b:MS}{σ:S3}{d:D}{g g':G}(h:a σ g=.rt d g'):mSeq a b σ g=.rt d g':=by unfold mSeq;rw[h]
theorem Qcy{a b:MS}{σ σ':S3}{x:Xc}{g g':G}(h:a σ g=.raise x σ' g'):mSeq a b σ g=.raise x σ' g':=by unfold mSeq;rw[h]
theorem Zc{i:Nat}{a:ME}{σ:S3}{d:D}{g g':G}(h:a σ g=.ok d g'):mAsg (gSet i) a σ g=.nx (σ.set i (some d)) g':=by unfold mAsg;rw[h];rfl
theorem QgA{c:MT}{a b:MS}{σ:S3}{g g':G}(h:c σ g=.ok true g'):mIf c a b σ g=a σ g':=by unfold mIf;rw[h];rfl
theorem QeS{c:MT}{a b:MS}{σ:S3}{g g':G}(h:c σ g=.ok false g'):mIf c a b σ g=b σ g':=by unfold mIf;rw[h];rfl
theorem QR{f:MF}{a:MA}{σ:S3}{ds:List D}{g g':G}(h:a σ g=.ok ds g'):Qn f a σ g=f ds g':=by unfold Qn;rw[h];rfl
theorem Qd2{a:ME}{σ:S3}{d:D}{g g':G}(h:a σ g=.ok d g'):Zq a σ g=.nx σ g':=by unfold Zq;rw[h]
theorem Qdl{a:ME}{σ:S3}{d:D}{g g':G}(h:a σ g=.ok d g'):mRet a σ g=.rt d g':=by unfold mRet;rw[h]
theorem QX{k n:Nat}{b:MS}{ds:List D}{d:D}{g g':G}(hl:ds.length=k)(h:b (ds.map some++List.replicate n none) g=.rt d g'):mDef k n b ds g=.ok d g':=by unfold mDef;rw[Ud hl,h]
theorem Qk1(ns:List Int)(i:Int)(h:0<ns.length):∃x,atD (ns.map D.int) (i%ns.length)=some (.int x):=by
 have h1:0<=i % (ns.length:Int):=Tw _ (by omega)
 have h2:i % (ns.length:Int)<ns.length:=Tk _ (by omega)
 have h3:(i % (ns.length:Int)).toNat<ns.length:=by omega
 refine⟨ns[(i % (ns.length:Int)).toNat],?_⟩
 unfold atD ixD
 rw[Ur,Ud h1,Ud h2]
 simp[h3]
theorem ix0{a:Nat}{d:D}{g:G}(h:g[a]?=some (.lst [d])):pIx (.ref a) (.int 0) g=.ok d g:=by
 unfold pIx;dsimp only;rw[h];rfl
theorem ixfl{ds:List D}{i:Int}{d:D}{g:G}(h:atD ds i=some d):pIx (.fl ds) (.int i) g=.ok d g:=by
 unfold pIx;dsimp only;rw[h]
theorem QiR(c:Int)(x:D)(a:Nat)(k:Int)(g:G)(ga:g[a]?=some (.lst [.int k]))(hk:0<=k)(hk2:k<1000000001):∃m,0<=m/\m<1999999973/\(mSeq (mAsg (gSet 3) (mOp2 pMod (mOp2 pMul (mOp2 pAdd (mOp2 pAdd (mOp2 pMod (mVar 2) (mLit (.int 2147483647))) (mOp2 pMul (mOp2 pMul (mOp2 pIx (mVar 1) (mLit (.int 0))) (mOp2 pIx (mVar 1) (mLit (.int 0)))) (mLit (.int 7919)))) (mLit (.int 11))) (mLit (.int 48271))) (mLit (.int 2147483647))))
      (mRet (mOp2 pMod (mOp2 pMul (mVar 3) (mVar 3)) (mLit (.int 1999999973))))) [some x,some (.ref a),some (.int c),none] g=.rt (.int m) g:=by
  have c1:cM k:=⟨by omega,by omega⟩
  have c2:cM 7919:=⟨by decide,by decide⟩
  have c3:cM 48271:=⟨by decide,by decide⟩
  have hr:=Tk ((c%2147483647+k*k*7919+11)*48271) (show(0:Int)<2147483647 by decide)
  have hr0:=Tw ((c%2147483647+k*k*7919+11)*48271) (show(2147483647:Int)≠0 by decide)
  have c4:cM (((c%2147483647+k*k*7919+11)*48271) % 2147483647):=⟨by omega,by omega⟩
  refine⟨((c%2147483647+k*k*7919+11)*48271) % 2147483647*(((c%2147483647+k*k*7919+11)*48271) % 2147483647) % 1999999973,Tw _ (by decide),Tk _ (by decide),?_⟩
  have e1:(mOp2 pMod (mOp2 pMul (mOp2 pAdd (mOp2 pAdd (mOp2 pMod (mVar 2) (mLit (.int 2147483647))) (mOp2 pMul (mOp2 pMul (mOp2 pIx (mVar 1) (mLit (.int 0))) (mOp2 pIx (mVar 1) (mLit (.int 0)))) (mLit (.int 7919)))) (mLit (.int 11))) (mLit (.int 48271))) (mLit (.int 2147483647))) [some x,some (.ref a),some (.int c),none] g=.ok (.int (((c%2147483647+k*k*7919+11)*48271) % 2147483647)) g:=by
    simp[mOp2,mVar,mLit,Res.bind,ix0 ga,pMod,pMul,pAdd,c1,c2,c3]
  rw[YV (Zc e1)]
  generalize ((c%2147483647+k*k*7919+11)*48271) % 2147483647=r at c4 ⊢
  refine Qdl ?_
  simp[mOp2,mVar,mLit,Res.bind,pMod,pMul,c4]
theorem Qcz(ns:List Int)(a:Nat)(k:Int)(g:G)(hg:g[a]?=some (.lst [.int k]))(hk:0<=k)(hk2:k<1000000000):
  ∃m,0<=m/\m<1999999973/\Yp [.fl (ns.map .int),.ref a] g=.ok (.int m) (g.set a (.lst [.int (k+1)])):=by
 have s1:YN (mVar 1) (mLit (.int 0)) (mOp2 pAdd (mOp2 pIx (mVar 1) (mLit (.int 0))) (mLit (.int 1))) [some (.fl (ns.map .int)),some (.ref a),none,none] g=.nx [some (.fl (ns.map .int)),some (.ref a),none,none] (g.set a (.lst [.int (k+1)])):=by
  simp[YN,mOp2,mVar,mLit,Res.bind,ix0 hg,pAdd,hg,ixD]
 have ga:(g.set a (.lst [.int (k+1)]))[a]?=some (.lst [.int (k+1)]):=QK hg
 generalize g.set a (.lst [.int (k+1)])=g1 at s1 ga ⊢
 have s3:∃c,mAsg (gSet 2) (mIfE (Qk (mOp2 pGt (mOp1 pLen (mVar 0)) (mLit (.int 0)))) (mOp2 pIx (mVar 0) (mOp2 pMod (mOp2 pIx (mVar 1) (mLit (.int 0))) (mOp1 pLen (mVar 0)))) (mLit (.int 0))) [some (.fl (ns.map .int)),some (.ref a),none,none] g1=.nx [some (.fl (ns.map .int)),some (.ref a),some (.int c),none] g1:=by
  by_cases hl:0<ns.length
  ·obtain⟨x,hx⟩:=Qk1 ns (k+1) hl
   have hl':(0:Int)<(ns.length:Int):=by omega
   refine⟨x,Zc ?_⟩
   have t1:Qk (mOp2 pGt (mOp1 pLen (mVar 0)) (mLit (.int 0))) [some (.fl (ns.map .int)),some (.ref a),none,none] g1=.ok true g1:=by simp[Qk,mOp2,mOp1,mVar,mLit,Res.bind,pLen,pGt,pCmp,hl]
   unfold mIfE
   rw[t1,Res.bind_ok,Ud rfl]
   simp only[mOp2,mOp1,mVar,mLit,Res.bind,Rg,TJ,ix0 ga,pLen,pMod,Ur,hl',Wu,ixfl hx]
  ·cases ns with
   |nil=>exact⟨0,rfl⟩
   |cons x r=>simp at hl
 obtain⟨c,s3⟩:=s3
 obtain⟨m,m1,m2,m3⟩:=QiR c (.fl (ns.map .int)) a (k+1) g1 ga (by omega) (by omega)
 refine⟨m,m1,m2,QX rfl ?_⟩
 show QdT [some (.fl (ns.map .int)),some (.ref a),none,none] g=_
 unfold QdT
 rw[YV s1,YV s3,m3]
def entOk(d:D)(n m:Nat):Prop:=d=.non\/∃(i j:Int)(w:Str),d=.tup [.int i,.str w,.int j]/\0<=i/\i<m/\0<=j/\j<n/\(w=⟨#[108]⟩\/w=⟨#[114]⟩)
theorem entOk.ent{d:D}{n m:Nat}(h:entOk d n m):entD d n m=true:=by
 rcases h with rfl|⟨i,j,w,rfl,h1,h2,h3,h4,h5⟩
 ·rfl
 ·rcases h5 with rfl|rfl <;> simp[entD,QaX,wayD,h1,h2,h3,h4]
theorem entOk.thing{d:D}{n m:Nat}{g:G}(h:entOk d n m):thingD g d:=by
 rcases h with h|⟨i,j,w,h,_⟩
 ·exact .inl h
 ·exact .inr ⟨i,j,w,h⟩
theorem s_lr:Str.ofString "lr" = ⟨#[108,114]⟩:=by decide +kernel
theorem Qn6(i:Int)(g:G):∃w,pIx (.str "lr") (.int (i%2)) g=.ok (.str w) g/\(w=⟨#[108]⟩\/w=⟨#[114]⟩):=by
 rw[s_lr]
 rcases(by omega:i%2=0\/i%2=1) with e|e
 ·rw[e];exact⟨_,rfl,.inl rfl⟩
 ·rw[e];exact⟨_,rfl,.inr rfl⟩
theorem QcA{n:Nat}{ds:List D}{y:D}{σ:S3}{g:G}{i j:Nat}(hi:σ[i]?=some (some (.ref n)))(hj:σ[j]?=some (some y))(h:g[n]?=some (.lst ds))(hz:ds.length<SZ):
  Zq (ZM (mVar i) (mVar j)) σ g=.nx σ (g.set n (.lst (ds++[y]))):=by
 refine Qd2 (d:=.non) ?_
 simp[ZM,mVar,hi,hj,Res.bind,h,hz]
theorem QiS(ns:List Int)(a l t:Nat)(k:Int)(n m:Nat)(x5 x7 x8 x9:Option D)(row:List D)(g:G)(hn:0<n)(hm:0<m)(ga:g[a]?=some (.lst [.int k]))(gl:g[l]?=some (.lst row))(hal:a≠l)(hk:0<=k)(hk2:k<1000000000)(hz:row.length<SZ):
  ∃d x8',entOk d n m/\Zn [some (.fl (ns.map .int)),some (.ref a),some (.int n),some (.int m),some (.ref t),x5,some (.ref l),x7,x8,x9] g=.nx [some (.fl (ns.map .int)),some (.ref a),some (.int n),some (.int m),some (.ref t),x5,some (.ref l),x7,x8',some d] ((g.set a (.lst [.int (k+1)])).set l (.lst (row++[d]))):=by
 obtain⟨mm,m1,m2,e⟩:=Qcz ns a k g ga hk hk2
 have gl1:(g.set a (.lst [.int (k+1)]))[l]?=some (.lst row):=by rw[Uk hal];exact gl
 generalize g.set a (.lst [.int (k+1)])=g1 at e gl1 ⊢
 obtain⟨w,hw,ww⟩:=Qn6 (mm/100) g1
 have hm':(0:Int)<m:=by omega
 have hn':(0:Int)<n:=by omega
 have s1:mAsg (gSet 8) (Qn Yp (Qb (mVar 0) (Qb (mVar 1) mNil))) [some (.fl (ns.map .int)),some (.ref a),some (.int n),some (.int m),some (.ref t),x5,some (.ref l),x7,x8,x9] g=.nx [some (.fl (ns.map .int)),some (.ref a),some (.int n),some (.int m),some (.ref t),x5,some (.ref l),x7,some (.int mm),x9] g1 :=
  Zc (by rw[QR (ds:=[.fl (ns.map .int),.ref a]) (g':=g) rfl];exact e)
 have v2:(mOpA pTup (Qb (mOp2 pMod (mOp2 Z7 (mVar 8) (mLit (.int 9))) (mVar 3)) (Qb (mOp2 pIx (mLit (.str "lr")) (mOp2 pMod (mOp2 Z7 (mVar 8) (mLit (.int 100))) (mLit (.int 2)))) (Qb (mOp2 pMod (mOp2 Z7 (mVar 8) (mLit (.int 300))) (mVar 2)) mNil)))) [some (.fl (ns.map .int)),some (.ref a),some (.int n),some (.int m),some (.ref t),x5,some (.ref l),x7,some (.int mm),x9] g1=.ok (.tup [.int (mm/9%m),.str w,.int (mm/300%n)]) g1:=by
  simp[mOpA,Qb,mNil,mOp2,mVar,mLit,Res.bind,Z7,pMod,hm',hn',hw,pTup,SZ,hm,hn]
 have s2:mAsg (gSet 9) (mOpA pTup (Qb (mOp2 pMod (mOp2 Z7 (mVar 8) (mLit (.int 9))) (mVar 3)) (Qb (mOp2 pIx (mLit (.str "lr")) (mOp2 pMod (mOp2 Z7 (mVar 8) (mLit (.int 100))) (mLit (.int 2)))) (Qb (mOp2 pMod (mOp2 Z7 (mVar 8) (mLit (.int 300))) (mVar 2)) mNil)))) [some (.fl (ns.map .int)),some (.ref a),some (.int n),some (.int m),some (.ref t),x5,some (.ref l),x7,some (.int mm),x9] g1=.nx [some (.fl (ns.map .int)),some (.ref a),some (.int n),some (.int m),some (.ref t),x5,some (.ref l),x7,some (.int mm),some (.tup [.int (mm/9%m),.str w,.int (mm/300%n)])] g1:=Zc v2
 have t3:Qk (mOp2 pEq (mOp2 pMod (mVar 8) (mLit (.int 9))) (mLit (.int 0))) [some (.fl (ns.map .int)),some (.ref a),some (.int n),some (.int m),some (.ref t),x5,some (.ref l),x7,some (.int mm),some (.tup [.int (mm/9%m),.str w,.int (mm/300%n)])] g1=.ok (mm%9 == 0) g1:=by
  simp[Qk,mOp2,mVar,mLit,Res.bind,pMod,eq_int]
 unfold Zn
 by_cases h9:mm%9=0
 ·refine⟨.non,some (.int mm),.inl rfl,?_⟩
  rw[YV s1,YV s2,YV (σ':=[some (.fl (ns.map .int)),some (.ref a),some (.int n),some (.int m),some (.ref t),x5,some (.ref l),x7,some (.int mm),some .non]) (g':=g1) ?_]
  ·exact QcA rfl rfl gl1 hz
  ·rw[QgA (g':=g1) (t3.trans (by simp[h9]))];rfl
 ·refine⟨.tup [.int (mm/9%m),.str w,.int (mm/300%n)],some (.int mm),.inr ⟨_,_,w,rfl,Tw _ (by omega),Tk _ hm',Tw _ (by omega),Tk _ hn',ww⟩,?_⟩
  rw[YV s1,YV s2,YV (σ':=[some (.fl (ns.map .int)),some (.ref a),some (.int n),some (.int m),some (.ref t),x5,some (.ref l),x7,some (.int mm),some (.tup [.int (mm/9%m),.str w,.int (mm/300%n)])]) (g':=g1) ?_]
  ·exact QcA rfl rfl gl1 hz
  ·rw[QeS (g':=g1) (t3.trans (by simp[h9]))];rfl
theorem QiT{n:Nat}(h:n<=1000):n<SZ:=WJ h (by decide)
theorem QeT{n:Nat}(h:n<=1000):inR (n:Int):=by
 have:(n:Int)<=1000:=by exact_mod_cast h
 constructor <;> omega
theorem Jh{a:ME}{n:Nat}{σ:S3}{g g':G}(h:a σ g=.ok (.int n) g')(hr:inR (n:Int)):QC a σ g=.ok (Q8 0 n) g':=by
 unfold QC;rw[h,Res.bind_ok];dsimp only;rw[Ud hr,WU]
theorem Qap{it:MI}{t:MG}{body:MS}{src:Src}{σ:S3}{g g':G}(h:it σ g=.ok src g'):mFor it t body σ g=forL src t body (src.top+1) 0 σ g':=by
 unfold mFor;rw[h]
theorem Qkh(ns:List Int)(a l t:Nat)(k:Int)(n m:Nat)(x5 x7 x8 x9:Option D)(g:G)(hn:0<n)(hm:0<m)(hm8:m<=8)(ga:g[a]?=some (.lst [.int k]))(gl:g[l]?=some (.lst []))(hal:a≠l)(hk:0<=k)(hk2:k+m<1000000000):
  ∃row y7 y8 y9 g',mFor (QC (mVar 3)) (gSet 7) Zn [some (.fl (ns.map .int)),some (.ref a),some (.int n),some (.int m),some (.ref t),x5,some (.ref l),x7,x8,x9] g=.nx [some (.fl (ns.map .int)),some (.ref a),some (.int n),some (.int m),some (.ref t),x5,some (.ref l),y7,y8,y9] g' /\
   row.length=m/\(∀d∈row,entOk d n m)/\Keeps [a,l] g g'/\g'[a]?=some (.lst [.int (k+m)])/\g'[l]?=some (.lst row):=by
 have hr:inR (m:Int):=QeT (by omega)
 have hf:mFor (QC (mVar 3)) (gSet 7) Zn [some (.fl (ns.map .int)),some (.ref a),some (.int n),some (.int m),some (.ref t),x5,some (.ref l),x7,x8,x9] g=forL (Q8 0 m) (gSet 7) Zn (m+1) 0 [some (.fl (ns.map .int)),some (.ref a),some (.int n),some (.int m),some (.ref t),x5,some (.ref l),x7,x8,x9] g:=Qap (Jh rfl hr)
 rw[hf]
 obtain⟨σ',g',e,row,y7,y8,y9,h1,h2,h3,h4,h5,h6⟩:=JU (t:=gSet 7) (body:=Zn) (lo:=0) (n:=m) (σ:=[some (.fl (ns.map .int)),some (.ref a),some (.int n),some (.int m),some (.ref t),x5,some (.ref l),x7,x8,x9]) (g:=g)
  (λi σ g1=>∃row y7 y8 y9,σ=[some (.fl (ns.map .int)),some (.ref a),some (.int n),some (.int m),some (.ref t),x5,some (.ref l),y7,y8,y9]/\row.length=i/\(∀d∈row,entOk d n m)/\Keeps [a,l] g g1/\g1[a]?=some (.lst [.int (k+i)])/\g1[l]?=some (.lst row))
  ⟨[],x7,x8,x9,rfl,rfl,by simp,.refl,by simpa using ga,gl⟩ (λi σ g1 hi ⟨row,y7,y8,y9,h1,h2,h3,h4,h5,h6⟩=>by
   subst h1
   obtain⟨d,x8',hd,e⟩:=QiS ns a l t (k+i) n m x5 (some (.int (0+i))) y8 y9 row g1 hn hm h5 h6 hal (by omega) (by omega) (QiT (by omega))
   refine⟨_,_,_,rfl,e,row++[d],_,x8',_,rfl,by simp[h2],?_,?_,?_,?_⟩
   ·intro x hx
    rcases UX.mp hx with z|z
    ·exact h3 x z
    ·rw[Uw.mp z];exact hd
   ·exact h4.trans (((Keeps.set a _).mono (by simp)).trans ((Keeps.set l _).mono (by simp)))
   ·rw[Uk (Ne.symm hal),QK h5]
    simp;omega
   ·refine QK (o:=.lst row) ?_
    rw[Uk hal];exact h6)
 exact⟨row,y7,y8,y9,g',by rw[e,h1],h2,h3,h4,h5,h6⟩
theorem om1{a b c:Nat}(h1:a<b)(h2:b<c):a≠c:=by omega
theorem om2{k x:Int}(h1:0<=k)(h2:0<=x):0<=k+x:=by omega
theorem om3{k x:Int}{m:Nat}(h1:k<900000000)(h2:x<=96)(h3:m<=8):k+x+m<1000000000:=by omega
theorem om7{a b c:Nat}{ds:List D}(h2:ds.length=a)(hi:a<b)(h3:b<=12):ds.length<=1000:=by omega
def tabOf(N:Nat)(g:G)(t:Nat)(rows:List (List D)):Prop:=N<=t/\∃ds,g[t]?=some (.lst ds)/\ds.length=rows.length/\∀(i:Nat) x r,ds[i]?=some x->rows[i]?=some r->∃n,x=.ref n/\N<=n/\n≠t/\g[n]?=some (.lst r)
theorem tabOf.rows{N:Nat}{g:G}{t:Nat}{rows:List (List D)}(h:tabOf N g t rows):rowsOf g (.ref t) rows:=by
 obtain⟨_,ds,h1,h2,h3⟩:=h
 refine⟨true,ds,by simp[Qv,h1],h2,λi x r hx hr=>?_⟩
 obtain⟨n,rfl,_,_,h4⟩:=h3 i x r hx hr
 exact⟨true,by simp[Qv,h4]⟩
theorem tabOf.mono{N:Nat}{S:List Nat}{g g1:G}{t:Nat}{rows:List (List D)}(h:tabOf N g t rows)(k:Keeps S g g1)(hS:∀n∈S,n<N):tabOf N g1 t rows:=by
 obtain⟨h0,ds,h1,h2,h3⟩:=h
 refine⟨h0,ds,k.at' t _ (λz=>by have:=hS t z;omega) h1,h2,λi x r hx hr=>?_⟩
 obtain⟨n,h4,h5,h6,h7⟩:=h3 i x r hx hr
 exact⟨n,h4,h5,h6,k.at' n _ (λz=>by have:=hS n z;omega) h7⟩
theorem Qki(ns:List Int)(a:Nat)(k:Int)(n m:Nat)(g:G)(hn:0<n)(hm:0<m)(hn12:n<=12)(hm8:m<=8)(ga:g[a]?=some (.lst [.int k]))(hk:0<=k)(hk2:k<900000000):
  ∃rows g',Qcw [.fl (ns.map .int),.ref a,.int n,.int m] g=.ok (.ref g.length) g'/\Keeps [a] g g'/\g'[a]?=some (.lst [.int (k+n*m)])/\tabOf g.length g' g.length rows/\rows.length=n/\(∀r∈rows,r.length=m)/\∀r∈rows,∀d∈r,entOk d n m:=by
 have hr:inR (n:Int):=QeT (by omega)
 have hal:a<g.length:=ZI ga
 have hz0:([]:List D).length<=SZ:=by simp
 have s1:mAsg (gSet 4) (mOpA newL mNil) [some (.fl (ns.map .int)),some (.ref a),some (.int n),some (.int m),none,none,none,none,none,none] g=.nx [some (.fl (ns.map .int)),some (.ref a),some (.int n),some (.int m),some (.ref g.length),none,none,none,none,none] (g++[.lst []]) :=
  Zc (by simp[mOpA,mNil,Res.bind,newL])
 have kp:Keeps [a] g (g++[.lst []]):=.push _
 have ga1:(g++[.lst []])[a]?=some (.lst [.int k]):=(Keeps.push (S:=[]) (.lst [])).at' a _ (by simp) ga
 have gt1:(g++[.lst []])[g.length]?=some (.lst []):=QW _
 have hl1:g.length<(g++[GO.lst []]).length:=by simp
 generalize g++[.lst []]=g1 at s1 kp ga1 gt1 hl1
 obtain⟨σ',g',e,ds,rows,y5,y6,y7,y8,y9,h1,h2,h3,h4,h5,h6,h7,h8,h9⟩:=JU (t:=gSet 5) (body:=YU) (lo:=0) (n:=n) (σ:=[some (.fl (ns.map .int)),some (.ref a),some (.int n),some (.int m),some (.ref g.length),none,none,none,none,none]) (g:=g1)
  (λi σ g2=>∃ds rows y5 y6 y7 y8 y9,σ=[some (.fl (ns.map .int)),some (.ref a),some (.int n),some (.int m),some (.ref g.length),y5,y6,y7,y8,y9]/\ds.length=i/\rows.length=i/\Keeps [a,g.length] g1 g2/\g2[a]?=some (.lst [.int (k+i*m)])/\g2[g.length]?=some (.lst ds) /\
   (∀(i:Nat) x r,ds[i]?=some x->rows[i]?=some r->∃n,x=.ref n/\g.length<n/\g2[n]?=some (.lst r))/\(∀r∈rows,r.length=m)/\∀r∈rows,∀d∈r,entOk d n m)
  ⟨[],[],none,none,none,none,none,rfl,rfl,rfl,.refl,by simpa using ga1,gt1,by simp,by simp,by simp⟩ (λi σ g2 hi ⟨ds,rows,y5,y6,y7,y8,y9,h1,h2,h3,h4,h5,h6,h7,h8,h9⟩=>by
   subst h1
   have hl2:g.length<g2.length:=ZI h6
   have q1:mAsg (gSet 6) (mOpA newL mNil) [some (.fl (ns.map .int)),some (.ref a),some (.int n),some (.int m),some (.ref g.length),some (.int (0+i)),y6,y7,y8,y9] g2=.nx [some (.fl (ns.map .int)),some (.ref a),some (.int n),some (.int m),some (.ref g.length),some (.int (0+i)),some (.ref g2.length),y7,y8,y9] (g2++[.lst []]) :=
    Zc (by simp[mOpA,mNil,Res.bind,newL])
   have k3:Keeps [] g2 (g2++[.lst []]):=.push _
   have gl3:(g2++[.lst []])[g2.length]?=some (.lst []):=QW _
   generalize g2++[.lst []]=g3 at q1 k3 gl3
   have him:(i:Int)*m<=96:=by
    have:i*m<=12*8:=Nat.mul_le_mul (by omega) hm8
    exact_mod_cast this
   have him0:(0:Int)<=(i:Int)*m:=Int.mul_nonneg (by omega) (by omega)
   obtain⟨row,z7,z8,z9,g4,e4,r1,r2,r3,r4,r5⟩:=Qkh ns a g2.length g.length (k+i*m) n m (some (.int (0+i))) y7 y8 y9 g3 hn hm hm8 (k3.at' a _ (by simp) h5) gl3 (om1 hal hl2) (om2 hk him0) (om3 hk2 him hm8)
   have gt4:g4[g.length]?=some (.lst ds):=r3.at' _ _ (by simp;omega) (k3.at' _ _ (by simp) h6)
   refine⟨_,[some (.fl (ns.map .int)),some (.ref a),some (.int n),some (.int m),some (.ref g.length),some (.int (0+i)),some (.ref g2.length),z7,z8,z9],g4.set g.length (.lst (ds++[.ref g2.length])),rfl,?_,ds++[.ref g2.length],rows++[row],_,_,z7,z8,z9,rfl,by simp[h2],by simp[h3],?_,?_,?_,?_,?_,?_⟩
   ·show YU [some (.fl (ns.map .int)),some (.ref a),some (.int n),some (.int m),some (.ref g.length),some (.int (0+i)),y6,y7,y8,y9] g2=_
    unfold YU
    rw[YV q1,YV e4]
    exact QcA rfl rfl gt4 (QiT (om7 (c:=0) h2 hi hn12))
   ·refine⟨by rw[T9];exact Ut h4.len (Ut k3.len r3.len),λb o hb eb=>?_⟩
    have hb':b≠a/\b≠g.length:=by simpa using hb
    have e2:=h4.at' b o hb eb
    have:b<g2.length:=ZI e2
    rw[Uk (Ne.symm hb'.2)]
    exact r3.at' b o (by simp;omega) (k3.at' b o (by simp) e2)
   ·rw[Uk (by omega),r4]
    have:k+(i:Int)*m+m=k+((i+1:Nat):Int)*m:=by
     rw[Bj,Int.add_mul];simp;omega
    rw[this]
   ·exact QK gt4
   ·intro j x r hx hr'
    have key:∀b o,g.length<b->g2[b]?=some o->(g4.set g.length (.lst (ds++[.ref g2.length])))[b]?=some o:=λb o hb eb=>by
     have:b<g2.length:=ZI eb
     rw[Uk (by omega)]
     exact r3.at' b o (by simp;omega) (k3.at' b o (by simp) eb)
    by_cases hj:j<i
    ·rw[UA (by omega)]at hx hr'
     obtain⟨b,hb1,hb2,hb3⟩:=h7 j x r hx hr'
     exact⟨b,hb1,hb2,key b _ hb2 hb3⟩
    ·have hji:j=i:=by
      have:=(Ul.mp hx).1
      simp at this;omega
     subst hji
     rw[Ux (by omega),h2]at hx
     rw[Ux (by omega),h3]at hr'
     simp at hx hr'
     subst hx hr'
     exact⟨g2.length,rfl,hl2,by rw[Uk (by omega)];exact r5⟩
   ·intro r hr'
    rcases UX.mp hr' with z|z
    ·exact h8 r z
    ·rw[Uw.mp z];exact r1
   ·intro r hr'
    rcases UX.mp hr' with z|z
    ·exact h9 r z
    ·rw[Uw.mp z];exact r2)
 refine⟨rows,g',?_,?_,h5,⟨Uc _,ds,h6,by omega,λi x r hx hr'=>?_⟩,h3,h8,h9⟩
 ·refine QX rfl ?_
  show Qcv [some (.fl (ns.map .int)),some (.ref a),some (.int n),some (.int m),none,none,none,none,none,none] g=_
  unfold Qcv
  rw[YV s1,YV (σ':=σ') (g':=g') ?_]
  ·subst h1;rfl
  ·rw[<-e]
   exact Qap (Jh rfl hr)
 ·refine⟨Ut kp.len h4.len,λb o hb eb=>?_⟩
  have:b<g.length:=ZI eb
  exact h4.at' b o (by simp at hb ⊢;omega) (kp.at' b o hb eb)
 ·obtain⟨b,hb1,hb2,hb3⟩:=h7 i x r hx hr'
  exact⟨b,hb1,by omega,by omega,hb3⟩
theorem Qg{a b:MS}{σ:S3}{g:G}{R:Out}(σ':S3)(g':G)(h:a σ g=.nx σ' g')(h2:b σ' g'=R):mSeq a b σ g=R:=(YV h).trans h2
theorem ift{c:MT}{a b:MS}{σ:S3}{g:G}{R:Out}(g':G)(h:c σ g=.ok true g')(h2:a σ g'=R):mIf c a b σ g=R:=(QgA h).trans h2
theorem iff'{c:MT}{a b:MS}{σ:S3}{g:G}{R:Out}(g':G)(h:c σ g=.ok false g')(h2:b σ g'=R):mIf c a b σ g=R:=(QeS h).trans h2
theorem eq_str(s t:Str)(g:G):pEq (.str s) (.str t) g=.ok (.bl (s == t)) g:=rfl
theorem mulL{i j:Int}{g:G}(h:cM i):pMul (.int i) (.int j) g=.ok (.int (i*j)) g:=Ud (.inl h)
theorem mulR{i j:Int}{g:G}(h:cM j):pMul (.int i) (.int j) g=.ok (.int (i*j)) g:=Ud (.inr h)
theorem QaZ{k n:Nat}{b:MS}{ds:List D}{σ:S3}{g g':G}(hl:ds.length=k)(h:b (ds.map some++List.replicate n none) g=.nx σ g'):mDef k n b ds g=.ok .non g':=by unfold mDef;rw[Ud hl,h]
theorem QeU{k n:Nat}{b:MS}{ds:List D}{x:Xc}{σ:S3}{g g':G}(hl:ds.length=k)(h:b (ds.map some++List.replicate n none) g=.raise x σ g'):mDef k n b ds g=.raise x g':=by unfold mDef;rw[Ud hl,h]
theorem Qa0{f:D->D->G->Res D}{a b:ME}{σ:S3}{x y:D}{g g1 g2:G}{R:Res D}(ha:a σ g=.ok x g1)(hb:b σ g1=.ok y g2)(h:f x y g2=R):mOp2 f a b σ g=R:=by unfold mOp2;rw[ha,Res.bind_ok,hb,Res.bind_ok,h]
theorem Ji{f:D->G->Res D}{a:ME}{σ:S3}{x:D}{g g1:G}{R:Res D}(ha:a σ g=.ok x g1)(h:f x g1=R):mOp1 f a σ g=R:=by unfold mOp1;rw[ha,Res.bind_ok,h]
theorem Jw{a:ME}{σ:S3}{b:Bool}{g g1:G}(ha:a σ g=.ok (.bl b) g1):Qk a σ g=.ok b g1:=by unfold Qk;rw[ha,Res.bind_ok]
theorem Zh{a:ME}{r:MA}{x:D}{xs:List D}{σ:S3}{g g1 g2:G}(h:a σ g=.ok x g1)(h2:r σ g1=.ok xs g2):Qb a r σ g=.ok (x::xs) g2:=by
 unfold Qb;rw[h,Res.bind_ok,h2];rfl
theorem QeV{n:Nat}{ds:List D}{y:D}{σ:S3}{g:G}{o e:ME}(ho:o σ g=.ok (.ref n) g)(h:g[n]?=some (.lst ds))(he:e σ g=.ok y g)(hz:ds.length<SZ):
  Zq (ZM o e) σ g=.nx σ (g.set n (.lst (ds++[y]))):=by
 refine Qd2 (d:=.non) ?_
 simp[ZM,ho,he,Res.bind,h,hz]
theorem entOk.good{rows:List (List D)}{n m:Nat}(hn:0<n)(hm:0<m)(h1:rows.length=n)(h2:∀r∈rows,r.length=m)(h3:∀r∈rows,∀d∈r,entOk d n m):QaY rows=true:=by
 cases rows with
 |nil=>simp at h1;omega
 |cons q rest =>
  have hq:=h2 q (Uu ..)
  unfold QaY
  rw[UT,Tp]
  refine⟨by simp;intro z;rw[z]at hq;simp at hq;omega,λx hx=>?_⟩
  unfold YB
  rw[UT,Tp]
  exact⟨by simp[h2 x hx,hq],λd hd=>by rw[h1,hq];exact(h3 x hx d hd).ent⟩
theorem Qd3{it:MI}{n:Nat}{cap:List Nat}{t:MG}{c:MT}{e:ME}{σ:S3}{g g1 g2:G}{src:Src}{ds:List D}{σ0:S3}(h1:it σ g=.ok src g1)(hz:src.top<=SZ)(hc:capt n cap σ=σ0)(h2:Jc src t c e (src.top+1) 0 σ0 g1 []=.ok ds g2):YI it n cap t c e σ g=.ok (.ref g2.length) (g2++[.lst ds]):=by
 simp only[YI,h1,hz,hc,h2,Wu]
theorem Qme{g:G}{d1 d2:D}{b1 b2:Bool}{xs ys:List D}(h1:Qv g d1=some (b1,xs))(h2:Qv g d2=some (b2,ys))(hl:xs.length=ys.length):
  ∃src,Qdb d1 d2 g=.ok src g/\src.top=xs.length/\∀g1,Qv g1 d1=some (b1,xs)->Qv g1 d2=some (b2,ys)->src.at' g1 xs.length=some none/\∀(i:Nat) x y,xs[i]?=some x->ys[i]?=some y->src.at' g1 i=some (some (.tup [x,y])):=by
 unfold Qdb
 rw[h1,h2]
 refine⟨_,rfl,by simp[hl],λg1 q1 q2=>⟨?_,λi x y hx hy=>?_⟩⟩
 ·dsimp only;rw[q1,q2];dsimp only;rw[Ta (Uc _)]
 ·dsimp only;rw[q1,q2];dsimp only;rw[hx,hy]
theorem QiU{a:MT}{σ:S3}{g g1:G}(h1:a σ g=.ok true g1):JI a σ g=.ok false g1:=by unfold JI;rw[h1];rfl
noncomputable def srcL(a:Nat)(n:Nat):Src:=⟨λg i=>(match g[a]? with|some (.lst es)=>some es[i]? | _=>none),n⟩
noncomputable def rS:Str:=⟨#[114]⟩
theorem Qn7{a b:MT}{σ:S3}{g g1 g2:G}(h1:a σ g=.ok false g1)(h2:b σ g1=.ok false g2):mOrT a b σ g=.ok false g2:=by
 unfold mOrT;rw[h1,Res.bind_ok,Ue Ug,h2]
theorem QeW{t p:Nat}{ds:List D}{d:D}{g:G}(h:g[t]?=some (.lst ds))(hp:ds[p]?=some d):pIx (.ref t) (.int p) g=.ok d g:=by
 have hl:p<ds.length:=(Ul.mp hp).1
 unfold pIx;dsimp only;rw[h];dsimp only
 unfold atD ixD
 rw[Ud (by omega),Ud (by omega)]
 simp[hp]
theorem Qn8{t:Nat}{i:Int}{ds:List D}{d:D}{g:G}(h:g[t]?=some (.lst ds))(h0:0<=i)(hp:ds[i.toNat]?=some d):pIx (.ref t) (.int i) g=.ok d g:=by
 have e:((i.toNat:Nat):Int)=i:=by omega
 rw[<-e];exact QeW h hp
theorem Qkj{n k:Nat}{ds:List D}{y:D}{σ:S3}{g g1:G}{o i v:ME}(hv:v σ g=.ok y g1)(ho:o σ g1=.ok (.ref n) g1)(hi:i σ g1=.ok (.int k) g1)(h:g1[n]?=some (.lst ds))(hk:k<ds.length):
  YN o i v σ g=.nx σ (g1.set n (.lst (ds.set k y))):=by
 unfold YN
 rw[hv];dsimp only
 rw[ho];dsimp only
 rw[hi];dsimp only
 rw[h];dsimp only
 have:ixD ds.length (k:Int)=some k:=by unfold ixD;rw[Ud (by omega),Ud (by omega)];simp
 rw[this]
theorem ZY{g:G}{l:Nat}{ds:List D}(h:g[l]?=some (.lst ds)):Qv g (.ref l)=some (true,ds):=by unfold Qv;dsimp only;rw[h]
section
variable{σ:S3}{g:G}
@[simp] theorem Qpr{a b:MS}:mSeq a b σ g=(match a σ g with | .nx σ' g'=>b σ' g'|o=>o):=rfl
@[simp] theorem Qps{i:Nat}{a:ME}:mAsg (gSet i) a σ g=(match a σ g with | .ok d g'=>.nx (σ.set i (some d)) g' | .raise e g'=>.raise e σ g' | .stuck=>.stuck):=rfl
@[simp] theorem QpG{c:MT}{a b:MS}:mIf c a b σ g=(match c σ g with | .ok t g'=>if t=true then a σ g' else b σ g' | .raise e g'=>.raise e σ g' | .stuck=>.stuck):=rfl
@[simp] theorem Qn9{a:ME}:mRet a σ g=(match a σ g with | .ok d g'=>.rt d g' | .raise e g'=>.raise e σ g' | .stuck=>.stuck):=rfl
@[simp] theorem Qo9{a:ME}:Zq a σ g=(match a σ g with | .ok _ g'=>.nx σ g' | .raise e g'=>.raise e σ g' | .stuck=>.stuck):=rfl
@[simp] theorem Qpa:Qlz σ g=.rt .non g:=rfl
@[simp] theorem Qpb:QN σ g=.nx σ g:=rfl
@[simp] theorem Qk2{i:Nat}:mVar i σ g=(match σ[i]? with|some (some d)=>.ok d g|_=>.stuck):=rfl
@[simp] theorem Qoa{d:D}:mLit d σ g=.ok d g:=rfl
@[simp] theorem Qob{f:D->G->Res D}{a:ME}:mOp1 f a σ g=(match a σ g with | .ok x g1=>f x g1 | .raise e g'=>.raise e g' | .stuck=>.stuck):=by unfold mOp1 Res.bind;cases a σ g <;> rfl
@[simp] theorem Qoc{f:D->D->G->Res D}{a b:ME}:mOp2 f a b σ g=(match a σ g with | .ok x g1=>(match b σ g1 with | .ok y g2=>f x y g2 | .raise e g'=>.raise e g' | .stuck=>.stuck) | .raise e g'=>.raise e g' | .stuck=>.stuck):=by unfold mOp2 Res.bind;cases a σ g with|ok x g1=>dsimp only;cases b σ g1 <;> rfl|_=>rfl
@[simp] theorem Qpt:mNil σ g=.ok [] g:=rfl
@[simp] theorem Qpc{a:ME}{r:MA}:Qb a r σ g=(match a σ g with | .ok x g1=>(match r σ g1 with | .ok xs g2=>.ok (x::xs) g2 | .raise e g'=>.raise e g' | .stuck=>.stuck) | .raise e g'=>.raise e g' | .stuck=>.stuck):=by unfold Qb Res.bind;cases a σ g with|ok x g1=>dsimp only;cases r σ g1 <;> rfl|_=>rfl
@[simp] theorem Qpu{f:List D->G->Res D}{a:MA}:mOpA f a σ g=(match a σ g with | .ok x g1=>f x g1 | .raise e g'=>.raise e g' | .stuck=>.stuck):=by unfold mOpA Res.bind;cases a σ g <;> rfl
@[simp] theorem Qpd{f:MF}{a:MA}:Qn f a σ g=(match a σ g with | .ok x g1=>f x g1 | .raise e g'=>.raise e g' | .stuck=>.stuck):=by unfold Qn Res.bind;cases a σ g <;> rfl
@[simp] theorem Qmf{a:ME}:Qk a σ g=(match a σ g with | .ok (.bl b) g1=>.ok b g1 | .raise e g'=>.raise e g'|_=>.stuck):=by unfold Qk Res.bind;cases a σ g with|ok d g1=>cases d <;> rfl|_=>rfl
@[simp] theorem Qmg{a b:MT}:Qat a b σ g=(match a σ g with | .ok c g1=>if c=true then b σ g1 else .ok false g1 | .raise e g'=>.raise e g' | .stuck=>.stuck):=by unfold Qat Res.bind;cases a σ g <;> rfl
@[simp] theorem Qod{a b:MT}:mOrT a b σ g=(match a σ g with | .ok c g1=>if c=true then .ok true g1 else b σ g1 | .raise e g'=>.raise e g' | .stuck=>.stuck):=by unfold mOrT Res.bind;cases a σ g <;> rfl
@[simp] theorem QiV{a:MT}:JI a σ g=(match a σ g with | .ok c g1=>.ok (!c) g1 | .raise e g'=>.raise e g' | .stuck=>.stuck):=by unfold JI Res.bind;cases a σ g <;> rfl
@[simp] theorem Qpv{c:MT}{a b:ME}:mIfE c a b σ g=(match c σ g with | .ok t g1=>if t=true then a σ g1 else b σ g1 | .raise e g'=>.raise e g' | .stuck=>.stuck):=by unfold mIfE Res.bind;cases c σ g <;> rfl
@[simp] theorem Qpw{a b:ME}:mAnd a b σ g=(match a σ g with | .ok (.bl c) g1=>if c=true then b σ g1 else .ok (.bl false) g1 | .raise e g'=>.raise e g'|_=>.stuck):=by unfold mAnd Res.bind;cases a σ g with|ok d g1=>cases d <;> rfl|_=>rfl
@[simp] theorem Qoe{i j:Int}:pAdd (.int i) (.int j) g=.ok (.int (i+j)) g:=rfl
@[simp] theorem Qpx{i j:Int}:pSub (.int i) (.int j) g=.ok (.int (i-j)) g:=rfl
@[simp] theorem Qpy{i:Int}:pNeg (.int i) g=.ok (.int (-i)) g:=rfl
@[simp] theorem QpH{i j:Int}:pLt (.int i) (.int j) g=.ok (.bl (decide (i<j))) g:=rfl
@[simp] theorem QpI{i j:Int}:pLe (.int i) (.int j) g=.ok (.bl (decide (i<=j))) g:=rfl
@[simp] theorem QpJ{i j:Int}:pGt (.int i) (.int j) g=.ok (.bl (decide (j<i))) g:=rfl
@[simp] theorem QpK{i j:Int}:pGe (.int i) (.int j) g=.ok (.bl (decide (j<=i))) g:=rfl
@[simp] theorem QpL{i j:Int}:pEq (.int i) (.int j) g=.ok (.bl (i == j)) g:=rfl
@[simp] theorem QpM{i j:Int}:pNe (.int i) (.int j) g=.ok (.bl (!(i == j))) g:=rfl
theorem QbA{n:Nat}{ds:List D}(h:g[n]?=some (.lst ds)):pLen (.ref n) g=.ok (.int ds.length) g:=by simp[pLen,h]
theorem Qd4{n:Nat}{ds:List D}{d:D}(h:g[n]?=some (.lst (d::ds).reverse)):pIx (.ref n) (.int (-1)) g=.ok d g:=by
 have e:(-1+((ds.length:Int)+1)).toNat=ds.length:=by omega
 have e1:(1:Int)<=(ds.length:Int)+1:=by omega
 simp[pIx,h,atD,ixD,e,e1]
theorem ix_tup{ds:List D}{n:Nat}{d:D}(h:ds[n]?=some d):pIx (.tup ds) (.int n) g=.ok d g:=by
 obtain⟨this,e⟩:=Ul.mp h
 simp[pIx,atD,ixD,this,e]
@[simp] theorem Qof{d:D}{ds:List D}:pIx (.tup (d::ds)) (.int 0) g=.ok d g:=ix_tup (n:=0) rfl
@[simp] theorem Qog{c d:D}{ds:List D}:pIx (.tup (c::d::ds)) (.int 1) g=.ok d g:=ix_tup (n:=1) rfl
@[simp] theorem Qpz{b c d:D}{ds:List D}:pIx (.tup (b::c::d::ds)) (.int 2) g=.ok d g:=ix_tup (n:=2) rfl
@[simp] theorem QpA{a b c d:D}{ds:List D}:pIx (.tup (a::b::c::d::ds)) (.int 3) g=.ok d g:=ix_tup (n:=3) rfl
end
noncomputable abbrev Sts:=List (Int×Int)
noncomputable def putN(s:Sts)(sg c:Int):Sts:=if c<1 then s else match s with
 |[]=>if sg=0 then [] else [(sg,c)]
 | (t,k)::r=>if t=sg then (sg,k+c)::r else (sg,c)::(t,k)::r
noncomputable def Qw(s:Sts)(c:Int):Sts:=match s with
 |[]=>[]
 | (t,k)::r=>putN r t (k-c)
noncomputable def Qx:Sts->Int
 |[]=>0
 | (t,_)::_=>t
noncomputable def Qm(s:Sts)(sg most:Int):Int:=if Qx s=sg then (match s with | []=>most|(_,k)::_=>if most<k then most else k) else 0
noncomputable def Q9(m:Int):Sts->Prop
 |[]=>True
 | (t,k)::r=>0<=t/\t<m/\1<=k/\Qx r≠t/\Q9 m r
theorem Qa1{s:Sts}{t c:Int}(h:Qx s≠t):putN s t c=if c<1 then s else (t,c)::s:=by
 unfold putN
 split
 ·rfl
 ·cases s with
  |nil=>have:¬t=0:=λe=>h e.symm;simp[this]
  |cons p r=>obtain⟨u,k⟩:=p;have:¬u=t:=h;simp[this]
theorem Qkk{s:Sts}{t c:Int}(h:1<=c):Qx (putN s t c)=t:=by
 unfold putN
 rw[Ue (by omega)]
 cases s with
 |nil=>dsimp only;split <;> simp_all [Qx]
 |cons p r=>obtain⟨u,k⟩:=p;dsimp only;split <;> simp_all [Qx]
theorem Jx{m:Int}{s:Sts}{t c:Int}(h:Q9 m s)(h0:0<=t)(h1:t<m):Q9 m (putN s t c):=by
 unfold putN
 split
 ·exact h
 ·cases s with
  |nil=>dsimp only;split <;> simp_all [Q9,Qx];omega
  |cons p r =>
   obtain⟨u,k⟩:=p
   dsimp only
   split
   ·subst u;simp only[Q9]at h ⊢;exact⟨h.1,h.2.1,by omega,h.2.2.2⟩
   ·rename_i hu
    exact⟨h0,h1,by omega,hu,h⟩
theorem YC{m:Int}{s:Sts}{c:Int}(h:Q9 m s):Q9 m (Qw s c):=by
 cases s with
 |nil=>exact h
 |cons p r=>exact Jx h.2.2.2.2 h.1 h.2.1
theorem drop_zero{m:Int}{s:Sts}(h:Q9 m s):Qw s 0=s:=by
 cases s with
 |nil=>rfl
 |cons p r =>
  obtain⟨t,k⟩:=p
  show putN r t (k-0)=_
  have:=h.2.2.1
  rw[Qa1 h.2.2.2.1,Ue (by omega)]
  simp
theorem Qkl{s:Sts}{t:Int}:putN s t 0=s:=by unfold putN;simp
theorem Qkm{m:Int}{s:Sts}{t x:Int}(h:Q9 m s)(hx:Qx s=t\/x=0):Qw (putN s t 1) (1+x)=Qw s x:=by
 by_cases hn:Qx s=t
 ·cases s with
  |nil =>
   have:t=0:=hn.symm
   subst this;rfl
  |cons p r =>
   obtain⟨u,k⟩:=p
   have:u=t:=hn
   subst this
   show Qw (putN ((u,k)::r) u 1) (1+x)=putN r u (k-x)
   have e:putN ((u,k)::r) u 1=(u,k+1)::r:=by unfold putN;simp
   rw[e]
   show putN r u (k+1 - (1+x))=_
   congr 1;omega
 ·have hx:x=0:=hx.resolve_left hn
  subst hx
  rw[drop_zero h,Qa1 hn,Ue (by omega)]
  show putN s t (1 - (1+0))=s
  exact Qkl
theorem QiW{s:Sts}{t a b:Int}(ha:1<=a)(hb:1<=b):putN (putN s t a) t b=putN s t (a+b):=by
 have h1:¬a<1:=by omega
 have h2:¬b<1:=by omega
 have h3:¬a+b<1:=by omega
 cases s with
 |nil=>by_cases e:t=0 <;> simp[putN,e,h1,h2,h3]
 |cons p r=>obtain⟨u,k⟩:=p;by_cases e:u=t <;> simp[putN,e,h1,h2,h3,Int.add_assoc]
theorem QeX{m:Int}{s:Sts}{t c n:Int}(h:Q9 m s)(ht:Qx s=t)(h0:0<=c)(hc:c<Qm s t n):Qx (Qw s c)=t/\Qm (Qw s c) t (n-c)=Qm s t n-c/\∀e,0<=e->Qw (Qw s c) e=Qw s (c+e):=by
 cases s with
 |nil =>
  have:t=0:=ht.symm
  subst this
  refine⟨rfl,?_,λ_ _=>rfl⟩
  show Qm [] 0 (n-c)=_
  simp[Qm,Qx]
 |cons p r =>
  obtain⟨u,k⟩:=p
  have:u=t:=ht
  subst this
  have hn:=h.2.2.2.1
  have e1:Qm ((u,k)::r) u n=if n<k then n else k:=by simp[Qm,Qx]
  rw[e1]at hc ⊢
  have hck:c<k:=by split at hc <;> omega
  have e2:Qw ((u,k)::r) c=(u,k-c)::r:=by
   show putN r u (k-c)=_
   rw[Qa1 hn,Ue (by omega)]
  rw[e2]
  refine⟨rfl,?_,λe _=>?_⟩
  ·have:Qm ((u,k-c)::r) u (n-c)=if n-c<k-c then n-c else k-c:=by simp[Qm,Qx]
   rw[this];split <;> split <;> omega
  ·show putN r u (k-c-e)=putN r u (k - (c+e))
   congr 1;omega
theorem Qkn{s:Sts}{t n:Int}(h:0<=n):Qm s t n<=n:=by
 unfold Qm
 split
 ·split
  ·omega
  ·split <;> omega
 ·omega
theorem QiX{m:Int}{s:Sts}{t n:Int}(hg:Q9 m s)(h:0<=n):0<=Qm s t n:=by
 unfold Qm
 split
 ·split
  ·omega
  ·have:=hg.2.2.1;split <;> omega
 ·omega
theorem Qhr{s:Sts}{t c n:Int}(h:c<=n):Qm s t c=(if Qm s t n<=c then Qm s t n else c)\/(Qx s≠t/\Qm s t c=0/\Qm s t n=0):=by
 by_cases e:Qx s=t
 ·left
  unfold Qm
  rw[Ud e,Ud e]
  split
  ·split <;> omega
  ·split <;> split <;> split <;> omega
 ·right;unfold Qm;rw[Ue e,Ue e];exact⟨e,rfl,rfl⟩
theorem Qhs{m:Int}{s:Sts}{t c n:Int}(h:Q9 m s)(ht:Qx s=t)(h0:0<=c)(hc:c<=Qm s t n):Qm (Qw s c) t (n-c)=Qm s t n-c:=by
 cases s with
 |nil =>
  have:t=0:=ht.symm
  subst this
  show Qm [] 0 (n-c)=_
  simp[Qm,Qx]
 |cons p r =>
  obtain⟨u,k⟩:=p
  have:u=t:=ht
  subst this
  have hn:=h.2.2.2.1
  have e1:Qm ((u,k)::r) u n=if n<k then n else k:=by simp[Qm,Qx]
  rw[e1]at hc ⊢
  show Qm (putN r u (k-c)) u (n-c)=_
  rw[Qa1 hn]
  by_cases z:k-c<1
  ·rw[Ud z]
   have:Qm r u (n-c)=0:=by unfold Qm;rw[Ue hn]
   rw[this];split at hc <;> split <;> omega
  ·rw[Ue z]
   have:Qm ((u,k-c)::r) u (n-c)=if n-c<k-c then n-c else k-c:=by simp[Qm,Qx]
   rw[this];split <;> split <;> omega
theorem QgB{m:Int}{A:Sts}{own c w:Int}(hA:Q9 m A)(h1:1<=c)(hw:c<=w):
  (1+Qm A own (c-1)=1+Qm A own (w-1)/\1+Qm A own (w-1)<=c) \/
  (1+Qm A own (c-1)=c/\c<1+Qm A own (w-1)/\Qx (Qw A (c-1))=own/\1+Qm (Qw (Qw A (c-1)) 1) own (w-c-1)=1+Qm A own (w-1) - c /\
   Qw (Qw (Qw A (c-1)) 1) (1+Qm A own (w-1) - c-1)=Qw A (1+Qm A own (w-1) - 1)):=by
 rcases Qhr (s:=A) (t:=own) (show c-1<=w-1 by omega) with e|⟨_,e1,e2⟩
 ·by_cases z:Qm A own (w-1)<=c-1
  ·rw[Ud z]at e;left;omega
  ·rw[Ue z]at e
   have hn:Qx A=own:=by
    apply T5;intro hn
    have:Qm A own (w-1)=0:=by unfold Qm;rw[Ue hn]
    omega
   obtain⟨q1,_,q3⟩:=QeX hA hn (show 0<=c-1 by omega) (show c-1<Qm A own (w-1) by omega)
   have q4:=q3 1 (by omega)
   rw[show c-1+1=c by omega]at q4
   have q5:=Qhs hA hn (show 0<=c by omega) (show c<=Qm A own (w-1) by omega)
   rw[show w-1-c=w-c-1 by omega]at q5
   right
   refine⟨by omega,by omega,q1,by rw[q4,q5];omega,?_⟩
   rw[q4]
   by_cases y:c<Qm A own (w-1)
   ·rw[(QeX hA hn (show 0<=c by omega) y).2.2 _ (by omega)];congr 1;omega
   ·rw[show 1+Qm A own (w-1) - c-1=0 by omega,drop_zero (YC hA)];congr 1;omega
 ·left;omega
structure RowN where
 st:Nat
 L:Sts
 own:Int
 R:Sts
noncomputable def QP(b:Int)(st:Nat)(A:Sts)(own w:Int):Int:=if b=(st:Int) then 1+Qm A own (w-1) else 1
noncomputable def Jj(d:D)(S:RowN)(w:Int):Option (RowN×Int×Int):=match d with
 |.tup [.int a,.str y,.int b]=>some (if y=rS then (⟨b.toNat,putN S.L a (QP b S.st S.R S.own w),Qx (Qw S.R (QP b S.st S.R S.own w-1)),Qw (Qw S.R (QP b S.st S.R S.own w-1)) 1⟩,QP b S.st S.R S.own w,QP b S.st S.R S.own w)
  else (⟨b.toNat,Qw (Qw S.L (QP b S.st S.L S.own w-1)) 1,Qx (Qw S.L (QP b S.st S.L S.own w-1)),putN S.R a (QP b S.st S.L S.own w)⟩,QP b S.st S.L S.own w,-QP b S.st S.L S.own w))
 |_=>none
noncomputable def QeY(rows:List (List D))(s c:Nat):Option D:=(rows[s]?).bind λr=>r[c]?
noncomputable def YD(rows:List (List D))(S:RowN)(n:Int):Option (RowN×Int×Int):=(QeY rows S.st S.own.toNat).bind λd=>Jj d S n
noncomputable def runN(rows:List (List D)):Nat->RowN->Int->Option (RowN×Int×Int×Int)
 |0,S,n=>if n<=0 then some (S,0,0,0) else match YD rows S n with
  |none=>some (S,0,0,0)
  |some _=>none
 |k+1,S,n=>if n<=0 then some (S,0,0,0) else match YD rows S n with
  |none=>some (S,0,0,0)
  |some r=>(runN rows k r.1 (n-r.2.1)).map λq=>(q.1,r.2.2+q.2.1,r.2.1+q.2.2.1,q.2.2.2+1)
structure OkN(n m:Nat)(S:RowN):Prop where
 st:S.st<n
 o0:0<=S.own
 o1:S.own<m
 L:Q9 m S.L
 R:Q9 m S.R
theorem Qd5{m:Nat}{s:Sts}(h:Q9 m s)(hm:0<m):0<=Qx s/\Qx s<m:=by
 cases s with
 |nil=>exact⟨UZ _,by show(0:Int)<m;omega⟩
 |cons p r=>exact⟨h.1,h.2.1⟩
theorem Qd6{m b w:Int}{st:Nat}{A:Sts}{own:Int}(h:Q9 m A)(hw:1<=w):1<=QP b st A own w/\QP b st A own w<=w:=by
 unfold QP
 split
 ·have:=Qkn (s:=A) (t:=own) (show 0<=w-1 by omega)
  have:=QiX (t:=own) h (show 0<=w-1 by omega)
  omega
 ·omega
theorem QiY{n m:Nat}{S:RowN}{d:D}{w:Int}{r:RowN×Int×Int}(ho:OkN n m S)(he:entOk d n m)(hm:0<m)(hw:1<=w)(h:Jj d S w=some r):OkN n m r.1/\1<=r.2.1/\r.2.1<=w:=by
 rcases he with rfl|⟨a,b,y,rfl,a0,a1,b0,b1,_⟩
 ·cases h
 ·unfold Jj at h
  dsimp only at h
  cases h
  split
  ·have s1:=Qd6 (b:=b) (st:=S.st) (own:=S.own) ho.R hw
   have d1:=YC (c:=QP b S.st S.R S.own w-1) ho.R
   have n1:=Qd5 d1 hm
   exact⟨⟨by show b.toNat<n;omega,n1.1,n1.2,Jx ho.L a0 a1,YC d1⟩,s1⟩
  ·have s1:=Qd6 (b:=b) (st:=S.st) (own:=S.own) ho.L hw
   have d1:=YC (c:=QP b S.st S.L S.own w-1) ho.L
   have n1:=Qd5 d1 hm
   exact⟨⟨by show b.toNat<n;omega,n1.1,n1.2,YC d1,Jx ho.R a0 a1⟩,s1⟩
theorem Qko{n m:Nat}{S:RowN}{d:D}{c w:Int}{r:RowN×Int×Int}(ho:OkN n m S)(he:entOk d n m)(h1:1<=c)(hw:c<=w)(h:Jj d S w=some r):
  (Jj d S c=some r/\r.2.1<=c)\/∃r1,Jj d S c=some r1/\r1.2.1=c/\c<r.2.1/\r1.1.st=S.st/\r1.1.own=S.own/\Jj d r1.1 (w-c)=some (r.1,r.2.1-c,r.2.2-r1.2.2):=by
 rcases he with rfl|⟨a,b,y,rfl,a0,a1,b0,b1,_⟩
 ·cases h
 ·unfold Jj at h ⊢
  dsimp only at h ⊢
  cases h
  by_cases hb:b=(S.st:Int)
  ·have hst:b.toNat=S.st:=by omega
   have e0:∀A own w,QP b S.st A own w=1+Qm A own (w-1):=λA own w=>Ud hb
   by_cases hy:y=rS
   ·simp only[Ud hy,hst,e0]
    rcases QgB (own:=S.own) ho.R h1 hw with⟨x1,x2⟩|⟨x1,x2,x3,x4,x5⟩
    ·left;rw[x1];exact⟨rfl,x2⟩
    ·right
     refine⟨_,rfl,x1,x2,rfl,by show Qx _=_;rw[x1];exact x3,?_⟩
     dsimp only
     rw[x1,x3,e0,x4,x5,QiW h1 (by omega)]
     rw[show c+(1+Qm S.R S.own (w-1) - c)=1+Qm S.R S.own (w-1) by omega]
   ·simp only[Ue hy,hst,e0]
    rcases QgB (own:=S.own) ho.L h1 hw with⟨x1,x2⟩|⟨x1,x2,x3,x4,x5⟩
    ·left;rw[x1];exact⟨rfl,x2⟩
    ·right
     refine⟨_,rfl,x1,x2,rfl,by show Qx _=_;rw[x1];exact x3,?_⟩
     dsimp only
     rw[x1,x3,e0,x4,x5,QiW h1 (by omega)]
     rw[show c+(1+Qm S.L S.own (w-1) - c)=1+Qm S.L S.own (w-1) by omega,show -(1+Qm S.L S.own (w-1)) - -c = -(1+Qm S.L S.own (w-1) - c) by omega]
  ·have e0:∀A own w,QP b S.st A own w=1:=λA own w=>Ue hb
   left
   simp only[e0]
   refine⟨trivial,?_⟩
   split <;> exact h1
structure Tb(rows:List (List D))(n m:Nat):Prop where
 n0:0<n
 m0:0<m
 n12:n<=12
 m8:m<=8
 len:rows.length=n
 row:∀r∈rows,r.length=m
 ent:∀r∈rows,∀d∈r,entOk d n m
theorem Tb.at{rows:List (List D)}{n m s c:Nat}(T:Tb rows n m)(hs:s<n)(hc:c<m):∃row d,rows[s]?=some row/\row[c]?=some d/\entOk d n m/\QeY rows s c=some d:=by
 have h1:s<rows.length:=by rw[T.len];exact hs
 have hm:=UK h1
 have h2:c<rows[s].length:=by rw[T.row _ hm];exact hc
 refine⟨rows[s],rows[s][c],by simp,by simp,T.ent _ hm _ (UK h2),?_⟩
 unfold QeY
 simp[h1,h2]
section
variable{rows:List (List D)}{n m:Nat}
theorem Jk{k:Nat}{S:RowN}{w:Int}(h:w<=0):runN rows k S w=some (S,0,0,0):=by cases k <;> (unfold runN;rw[Ud h])
theorem Qaq{k:Nat}{S:RowN}{w:Int}(h:YD rows S w=none):runN rows k S w=some (S,0,0,0):=by
 cases k <;> (unfold runN;rw[h];split <;> rfl)
theorem JV{k:Nat}{S:RowN}{w:Int}{r:RowN×Int×Int}(hw:1<=w)(h:YD rows S w=some r):runN rows (k+1) S w=(runN rows k r.1 (w-r.2.1)).map λq=>(q.1,r.2.2+q.2.1,r.2.1+q.2.2.1,q.2.2.2+1):=by
 rw[runN,Ue (by omega),h]
theorem Qht{S:RowN}{w:Int}{r:RowN×Int×Int}(hw:1<=w)(h:YD rows S w=some r):runN rows 0 S w=none:=by
 rw[runN,Ue (by omega),h]
theorem Qd7:∀(k K:Nat)(S:RowN)(w:Int) q,k<=K->runN rows k S w=some q->runN rows K S w=some q
 |k,K,S,w,q,hk,h=>by
  by_cases hw:w<=0
  ·rw[Jk hw]at h ⊢;exact h
  ·cases hn:YD rows S w with
   |none=>rw[Qaq hn]at h ⊢;exact h
   |some r =>
    cases k with
    |zero=>rw[Qht (by omega) hn]at h;cases h
    |succ k =>
     obtain⟨K,rfl⟩:∃K',K=K'+1:=⟨K-1,by omega⟩
     rw[JV (by omega) hn]at h ⊢
     cases hr:runN rows k r.1 (w-r.2.1) with
     |none=>rw[hr]at h;cases h
     |some q'=>rw[hr]at h;rw[Qd7 k K _ _ _ (by omega) hr];exact h
theorem Qbn(T:Tb rows n m){S:RowN}{w:Int}{r:RowN×Int×Int}(ho:OkN n m S)(hw:1<=w)(h:YD rows S w=some r):OkN n m r.1/\1<=r.2.1/\r.2.1<=w:=by
 have:=ho.o0;have:=ho.o1
 obtain⟨row,d,_,_,he,e⟩:=T.at ho.st (c:=S.own.toNat) (by omega)
 unfold YD at h
 rw[e]at h
 exact QiY ho he T.m0 hw h
theorem QeZ(T:Tb rows n m):∀(k:Nat)(S:RowN)(w:Int) q,OkN n m S->0<=w->runN rows k S w=some q->OkN n m q.1/\0<=q.2.2.1/\q.2.2.1<=w/\0<=q.2.2.2/\q.2.2.2<=k
 |k,S,w,q,ho,h0,h=>by
  by_cases hw:w<=0
  ·rw[Jk hw]at h;cases h;exact⟨ho,UZ _,h0,UZ _,by dsimp only;omega⟩
  ·cases hn:YD rows S w with
   |none=>rw[Qaq hn]at h;cases h;exact⟨ho,UZ _,h0,UZ _,by dsimp only;omega⟩
   |some r =>
    obtain⟨o1,s1,s2⟩:=Qbn T ho (by omega) hn
    cases k with
    |zero=>rw[Qht (by omega) hn]at h;cases h
    |succ k =>
     rw[JV (by omega) hn]at h
     cases hr:runN rows k r.1 (w-r.2.1) with
     |none=>rw[hr]at h;cases h
     |some q' =>
      rw[hr]at h;cases h
      obtain⟨x1,x2,x3,x4,x5⟩:=QeZ T k r.1 (w-r.2.1) q' o1 (by omega) hr
      exact⟨x1,by dsimp only;omega,by dsimp only;omega,by dsimp only;omega,by dsimp only;omega⟩
theorem QfH(T:Tb rows n m):∀(k:Nat)(S:RowN)(w c:Int) q,OkN n m S->0<=c->c<=w->runN rows k S w=some q ->
  ∃qa qb:RowN×Int×Int×Int,(∀K,k<=K->runN rows K S c=some qa)/\(∀K,k+1<=K->runN rows K qa.1 (w-c)=some qb)/\qb.1=q.1/\qa.2.1+qb.2.1=q.2.1/\qa.2.2.1+qb.2.2.1=q.2.2.1/\(qa.2.2.2+qb.2.2.2=q.2.2.2\/qa.2.2.2+qb.2.2.2=q.2.2.2+1)
 |k,S,w,c,q,ho,h0,hc,h=>by
  by_cases c0:c=0
  ·subst c0
   refine⟨(S,0,0,0),q,λK _=>Jk (UZ _),λK hK=>?_,rfl,by simp,by simp,by simp⟩
   rw[Int.sub_zero];exact Qd7 k K S w q (by omega) h
  ·have:=ho.o0;have:=ho.o1
   obtain⟨row,d,_,_,he,e⟩:=T.at ho.st (c:=S.own.toNat) (by omega)
   have hN:∀u,YD rows S u=Jj d S u:=λu=>by unfold YD;rw[e];rfl
   cases hn:Jj d S w with
   |none =>
    have hd:∀u,Jj d S u=none:=by
     rcases he with rfl|⟨a,b,y,rfl,_⟩
     ·intro u;rfl
     ·cases hn
    rw[Qaq (by rw[hN,hn])]at h
    cases h
    exact⟨(S,0,0,0),(S,0,0,0),λK _=>Qaq (by rw[hN,hd]),λK _=>Qaq (by rw[hN,hd]),rfl,by simp,by simp,by simp⟩
   |some r =>
    obtain⟨o1,s1,s2⟩:=Qbn T ho (w:=w) (by omega) ((hN w).trans hn)
    cases k with
    |zero=>rw[Qht (by omega) ((hN w).trans hn)]at h;cases h
    |succ k =>
     rw[JV (by omega) ((hN w).trans hn)]at h
     cases hr:runN rows k r.1 (w-r.2.1) with
     |none=>rw[hr]at h;cases h
     |some q' =>
      rw[hr]at h;cases h
      rcases Qko ho he (by omega) hc hn with⟨l1,l2⟩|⟨r1,l1,l2,l3,l4,l5,l6⟩
      ·obtain⟨qa,qb,x1,x2,x3,x4,x5,x6⟩:=QfH T k r.1 (w-r.2.1) (c-r.2.1) q' o1 (by omega) (by omega) hr
       refine⟨(qa.1,r.2.2+qa.2.1,r.2.1+qa.2.2.1,qa.2.2.2+1),qb,λK hK=>?_,λK hK=>?_,x3,?_,?_,?_⟩
       ·obtain⟨K,rfl⟩:∃K',K=K'+1:=⟨K-1,by omega⟩
        rw[JV (by omega) ((hN c).trans l1),x1 K (by omega)];rfl
       ·have:=x2 K (by omega)
        rw[show w-r.2.1 - (c-r.2.1)=w-c by omega]at this
        exact this
       ·dsimp only;omega
       ·dsimp only;omega
       ·dsimp only;omega
      ·refine⟨(r1.1,r1.2.2+0,r1.2.1+0,0+1),(q'.1,(r.2.2-r1.2.2)+q'.2.1,(r.2.1-c)+q'.2.2.1,q'.2.2.2+1),λK hK=>?_,λK hK=>?_,rfl,?_,?_,?_⟩
       ·obtain⟨K,rfl⟩:∃K',K=K'+1:=⟨K-1,by omega⟩
        rw[JV (by omega) ((hN c).trans l1),Jk (by omega)];rfl
       ·obtain⟨K,rfl⟩:∃K',K=K'+1:=⟨K-1,by omega⟩
        have hx:YD rows r1.1 (w-c)=some (r.1,r.2.1-c,r.2.2-r1.2.2):=by unfold YD;rw[l4,l5,e];exact l6
        rw[JV (by omega) hx]
        dsimp only
        rw[show w-c - (r.2.1-c)=w-r.2.1 by omega,Qd7 k K _ _ _ (by omega) hr];rfl
       ·dsimp only;omega
       ·dsimp only;omega
       ·dsimp only;omega
end
noncomputable def QA:Sts->Nat->Int
 |[],_=>0
 | (t,k)::r,i=>if (i:Int)<k then t else QA r (i-k.toNat)
theorem Zz{m:Int}{s:Sts}(h:Q9 m s):QA s 0=Qx s:=by
 cases s with
 |nil=>rfl
 |cons p r=>obtain⟨t,k⟩:=p;have:=h.2.2.1;unfold QA;rw[Ud (by omega)];rfl
theorem YW{m:Int}{s:Sts}{a:Int}(hg:Q9 m s):QA (putN s a 1) 0=a/\∀i,QA (putN s a 1) (i+1)=QA s i:=by
 cases s with
 |nil=>by_cases h:a=0 <;> simp[putN,QA,h];omega
 |cons p r =>
  obtain⟨t,k⟩:=p
  have hk:=hg.2.2.1
  by_cases h:t=a
  ·have e:putN ((t,k)::r) a 1=(a,k+1)::r:=by simp[putN,h]
   rw[e]
   refine⟨by unfold QA;rw[Ud (by omega)],λi=>?_⟩
   unfold QA
   by_cases z:(i:Int)<k
   ·rw[Ud (by omega),Ud z,h]
   ·rw[Ue (by omega),Ue z];congr 1;omega
  ·have e:putN ((t,k)::r) a 1=(a,1)::(t,k)::r:=by simp[putN,h]
   rw[e]
   refine⟨by unfold QA;rw[Ud (by omega)],λi=>?_⟩
   rw[QA,Ue (by omega)];congr 1
theorem Qe0{m:Int}{s:Sts}(hg:Q9 m s)(i:Nat):QA (Qw s 1) i=QA s (i+1):=by
 cases s with
 |nil=>rfl
 |cons p r =>
  obtain⟨t,k⟩:=p
  have hk:=hg.2.2.1
  show QA (putN r t (k-1)) i=_
  rw[Qa1 hg.2.2.2.1]
  by_cases z:k-1<1
  ·rw[Ud z]
   conv=>rhs;unfold QA
   rw[Ue (by omega)];congr 1;omega
  ·rw[Ue z]
   unfold QA
   by_cases y:(i:Int)<k-1
   ·rw[Ud y,Ud (by omega)]
   ·rw[Ue y,Ue (by omega)];congr 1;omega
structure Cn where
 st:Nat
 pl:Int
 f:Int->Int
noncomputable def updF(f:Int->Int)(x a:Int):Int->Int:=λy=>if y=x then a else f y
noncomputable def goF(d:D)(c:Cn):Option Cn:=match d with
 |.tup [.int a,.str y,.int b]=>some ⟨b.toNat,if y=rS then c.pl+1 else c.pl-1,updF c.f c.pl a⟩
 |_=>none
noncomputable def JW(rows:List (List D))(c:Cn):Option Cn:=(QeY rows c.st (c.f c.pl).toNat).bind λd=>goF d c
noncomputable def runF(rows:List (List D)):Nat->Cn->Cn×Nat
 |0,c=>(c,0)
 |k+1,c=>match JW rows c with
  |none=>(c,0)
  |some c'=>((runF rows k c').1,(runF rows k c').2+1)
structure RF(S:RowN)(c:Cn):Prop where
 st:c.st=S.st
 own:c.f c.pl=S.own
 R:∀i:Nat,c.f (c.pl+1+i)=QA S.R i
 L:∀i:Nat,c.f (c.pl-1-i)=QA S.L i
theorem Qkp{d:D}{S:RowN}{m:Int}(hL:Q9 m S.L)(hR:Q9 m S.R){a b:Int}{y:Str}(hd:d=.tup [.int a,.str y,.int b]):Jj d S 1=some (if y=rS then (⟨b.toNat,putN S.L a 1,Qx S.R,Qw S.R 1⟩,1,1) else (⟨b.toNat,Qw S.L 1,Qx S.L,putN S.R a 1⟩,1,-1)):=by
 subst hd
 have e:∀A own,Q9 m A->QP b S.st A own 1=1:=λA own hA=>by
  have h:=Qd6 (b:=b) (st:=S.st) (own:=own) hA (show(1:Int)<=1 by omega)
  omega
 unfold Jj
 dsimp only
 rw[e _ _ hR,e _ _ hL,Int.sub_self,drop_zero hR,drop_zero hL]
theorem Qmh{rows:List (List D)}{n m:Nat}{S:RowN}{c:Cn}(T:Tb rows n m)(ho:OkN n m S)(h:RF S c):
  (YD rows S 1=none/\JW rows c=none)\/∃r c',YD rows S 1=some r/\JW rows c=some c'/\RF r.1 c'/\r.2.1=1/\r.2.2=c'.pl-c.pl:=by
 have h0:=ho.o0;have h1:=ho.o1
 obtain⟨row,d,_,_,he,e⟩:=T.at ho.st (c:=S.own.toNat) (by omega)
 have e1:YD rows S 1=Jj d S 1:=by unfold YD;rw[e];rfl
 have e2:JW rows c=goF d c:=by unfold JW;rw[h.st,h.own,e];rfl
 rw[e1,e2]
 rcases he with rfl|⟨a,b,y,rfl,_⟩
 ·exact .inl ⟨rfl,rfl⟩
 ·right
  rw[Qkp ho.L ho.R rfl]
  by_cases hy:y=rS
  ·rw[Ud hy]
   refine⟨_,⟨b.toNat,c.pl+1,updF c.f c.pl a⟩,rfl,by unfold goF;dsimp only;rw[Ud hy],⟨rfl,?_,λi=>?_,λi=>?_⟩,rfl,by dsimp only;omega⟩
   ·show updF c.f c.pl a (c.pl+1)=Qx S.R
    have:=h.R 0
    rw[Zz ho.R]at this
    unfold updF;rw[Ue (by omega)];simpa using this
   ·show updF c.f c.pl a (c.pl+1+1+i)=QA (Qw S.R 1) i
    rw[Qe0 ho.R,<-h.R]
    unfold updF;rw[Ue (by omega)];congr 1;omega
   ·show updF c.f c.pl a (c.pl+1-1-i)=QA (putN S.L a 1) i
    cases i with
    |zero=>rw[(YW ho.L).1];unfold updF;rw[Ud (by omega)]
    |succ i=>rw[(YW ho.L).2,<-h.L];unfold updF;rw[Ue (by omega)];congr 1;omega
  ·rw[Ue hy]
   refine⟨_,⟨b.toNat,c.pl-1,updF c.f c.pl a⟩,rfl,by unfold goF;dsimp only;rw[Ue hy],⟨rfl,?_,λi=>?_,λi=>?_⟩,rfl,by dsimp only;omega⟩
   ·show updF c.f c.pl a (c.pl-1)=Qx S.L
    have:=h.L 0
    rw[Zz ho.L]at this
    unfold updF;rw[Ue (by omega)];simpa using this
   ·show updF c.f c.pl a (c.pl-1+1+i)=QA (putN S.R a 1) i
    cases i with
    |zero=>rw[(YW ho.R).1];unfold updF;rw[Ud (by omega)]
    |succ i=>rw[(YW ho.R).2,<-h.R];unfold updF;rw[Ue (by omega)];congr 1;omega
   ·show updF c.f c.pl a (c.pl-1-1-i)=QA (Qw S.L 1) i
    rw[Qe0 ho.L,<-h.L]
    unfold updF;rw[Ue (by omega)];congr 1;omega
theorem YE{rows:List (List D)}{c:Cn}(h:JW rows c=none):∀k,runF rows k c=(c,0)
 |0=>rfl
 |k+1=>by rw[runF,h]
theorem Ye{rows:List (List D)}{c c':Cn}{k:Nat}(h:JW rows c=some c'):runF rows (k+1) c=((runF rows k c').1,(runF rows k c').2+1):=by rw[runF,h]
theorem Qac{rows:List (List D)}{n m:Nat}(T:Tb rows n m):∀(w K:Nat)(S:RowN)(c:Cn) q,OkN n m S->RF S c->runN rows K S (w:Nat)=some q->RF q.1 (runF rows w c).1/\q.2.1=(runF rows w c).1.pl-c.pl/\q.2.2.1=(runF rows w c).2
 |0,K,S,c,q,ho,h,hr=>by
  rw[Jk (by simp)]at hr
  cases hr
  exact⟨h,(Int.sub_self _).symm,rfl⟩
 |w+1,K,S,c,q,ho,h,hr=>by
  obtain⟨qa,qb,x1,x2,x3,x4,x5,_⟩:=QfH T K S ((w+1:Nat):Int) 1 q ho (by omega) (by omega) hr
  have y1:=x1 (K+1) (by omega)
  have y2:=x2 (K+1) (by omega)
  rw[show((w+1:Nat):Int) - 1=(w:Nat) by omega]at y2
  rcases Qmh T ho h with⟨e1,e2⟩|⟨r,c',e1,e2,e3,e4,e5⟩
  ·rw[Qaq e1]at y1
   cases y1
   have z:=Qac T w (K+1) S c qb ho h y2
   rw[YE e2]at z ⊢
   rw[<-x3]
   dsimp only at x4 x5
   exact⟨z.1,by rw[<-z.2.1];omega,by rw[<-z.2.2];omega⟩
  ·rw[JV (by omega) e1,Jk (by omega)]at y1
   cases y1
   dsimp only at x4 x5 y2
   have ho':=(Qbn T ho (by omega) e1).1
   have z:=Qac T w (K+1) r.1 c' qb ho' e3 y2
   rw[Ye e2]
   dsimp only
   rw[<-x3]
   exact⟨z.1,by have:=z.2.1;omega,by have:=z.2.2;rw[Bj];omega⟩
theorem Qbo{rows:List (List D)}{n m:Nat}(T:Tb rows n m):∀(K:Nat)(S:RowN)(w:Int),OkN n m S->w<=K->∃q,runN rows K S w=some q
 |K,S,w,ho,hw=>by
  by_cases h0:w<=0
  ·exact⟨_,Jk h0⟩
  ·cases hn:YD rows S w with
   |none=>exact⟨_,Qaq hn⟩
   |some r =>
    obtain⟨o1,s1,s2⟩:=Qbn T ho (by omega) hn
    cases K with
    |zero=>omega
    |succ K =>
     obtain⟨q,hq⟩:=Qbo T K r.1 (w-r.2.1) o1 (by omega)
     exact⟨_,by rw[JV (by omega) hn,hq];rfl⟩
theorem QgC{rows:List (List D)}:∀(i j:Nat)(c:Cn),(runF rows i c).2=i->runF rows (i+j) c=((runF rows j (runF rows i c).1).1,i+(runF rows j (runF rows i c).1).2)
 |0,j,c,_=>by rw[Rx];show runF rows j c=_;simp[runF]
 |i+1,j,c,h=>by
  cases hs:JW rows c with
  |none=>rw[YE hs]at h;cases h
  |some c' =>
   rw[Ye hs]at h ⊢
   rw[show i+1+j=(i+j)+1 by omega,Ye hs]
   have ih:=QgC (rows:=rows) i j c' (by dsimp only at h;omega)
   rw[ih]
   dsimp only
   congr 1;omega
theorem QbB{n:Nat}(h:n<=100000):n<SZ:=WJ h (by decide)
noncomputable def stD(p:Int×Int):D:=.tup [.int p.1,.int p.2]
noncomputable def stsD(s:Sts):List D:=s.map stD
noncomputable def revD(s:Sts):List D:=(stsD s).reverse
theorem YX(s:Sts):(revD s).length=s.length:=by simp[revD,stsD]
theorem Qa2(p:Int×Int)(r:Sts):revD (p::r)=revD r++[stD p]:=by simp[revD,stsD]
theorem Qd8{g:G}{s:Nat}{o:GO}(h:g[s]?=some o):g.set s o=g:=by
 refine List.ext_getElem? λi=>?_
 by_cases z:s=i
 ·subst z;rw[QK h,h]
 ·rw[Uk z]
section
variable{s:Nat}{side:Sts}{g:G}
theorem Qd9{p:Int×Int}{r:Sts}(h:g[s]?=some (.lst (revD (p::r)))):pIx (.ref s) (.int (-1)) g=.ok (stD p) g:=Qd4 (ds:=stsD r) h
theorem QgD(n:Nat):ixD (n+1) (-1)=some n:=by
 unfold ixD
 rw[Ue (by omega),Ud (by omega)]
 congr 1
 omega
theorem Qoh{sg c:Int}(hs:g[s]?=some (.lst (revD side)))(hn:¬(side=[]/\sg=0))(hz:side.length<90000):Jr [.ref s,.int sg,.int c] g=.ok .non (g.set s (.lst (revD (putN side sg c)))):=by
 have hl:=QbA hs
 by_cases hc:c<1
 ·have:putN side sg c=side:=by unfold putN;rw[Ud hc]
  rw[this,Qd8 hs]
  exact QX rfl (by simp[ZN,hc])
 ·cases side with
  |nil =>
   have h0:¬sg=0:=λe=>hn ⟨rfl,e⟩
   refine QaZ (σ:=[some (.ref s),some (.int sg),some (.int c)]) rfl ?_
   have hs':g[s]?=some (.lst []):=hs
   simp[ZN,hc,hl,ZM,hs',Res.bind,putN,h0,pTup,SZ,revD,stsD,stD]
  |cons p r =>
   obtain⟨t,k⟩:=p
   have hlast:=Qd9 hs
   have hs':=hs
   rw[Qa2]at hs'
   have hz':(revD r).length+1<1000000:=by rw[YX];simp at hz;omega
   refine QaZ (σ:=[some (.ref s),some (.int sg),some (.int c)]) rfl ?_
   by_cases ht:t=sg
   ·subst ht
    simp[ZN,hc,hl,hlast,stD,YX,YN,hs',QgD,putN,pTup,SZ,Qa2]
   ·simp[ZN,hc,hl,hlast,stD,ht,YX,ZM,hs',Res.bind,putN,pTup,SZ,Qa2]
    rw[Ud (by simp at hz;omega)]
theorem QiZ{sg c:Int}(hs:g[s]?=some (.lst (revD side)))(hz:side.length<90000):Qhp [.ref s,.int sg,.int c] g=.ok .non (g.set s (.lst (revD (putN side sg c)))):=by
 have hl:=QbA hs
 refine QaZ (σ:=[some (.ref s),some (.int sg),some (.int c)]) rfl ?_
 by_cases hn:side=[]/\sg=0
 ·obtain⟨rfl,rfl⟩:=hn
  have e:putN [] 0 c=[]:=by unfold putN;split <;> rfl
  rw[e,Qd8 hs]
  simp[Qkb,hl,revD,stsD]
 ·have ha:=Qoh (c:=c) hs hn hz
  cases side with
  |nil=>have h0:¬sg=0:=λe=>hn ⟨rfl,e⟩;simp[Qkb,hl,h0,ha,YX]
  |cons p r=>simp[Qkb,hl,ha,YX]
theorem JX(side:Sts)(sg c:Int):(putN side sg c).length<=side.length+1:=by
 unfold putN
 split
 ·omega
 ·cases side with
  |nil=>dsimp only;split <;> simp
  |cons p r=>dsimp only;split <;> simp
theorem Jy(side:Sts)(c:Int):(Qw side c).length<=side.length:=by
 cases side with
 |nil=>exact Uc _
 |cons p r=>exact JX r p.1 _
theorem QfI{c:Int}(hs:g[s]?=some (.lst (revD side)))(hz:side.length<90000):Qct [.ref s,.int c] g=.ok .non (g.set s (.lst (revD (Qw side c)))):=by
 have hl:=QbA hs
 cases side with
 |nil =>
  refine QaZ (σ:=[some (.ref s),some (.int c),none]) rfl ?_
  rw[show Qw [] c=[] from rfl,Qd8 hs]
  simp[QiO,hl,revD,stsD]
 |cons p r =>
  obtain⟨t,k⟩:=p
  have hs':=hs
  rw[Qa2]at hs'
  have h1:(g.set s (.lst (revD r)))[s]?=some (.lst (revD r)):=QK hs
  have hp:=QiZ (sg:=t) (c:=k-c) h1 (by simp at hz;omega)
  rw[RZ]at hp
  refine QaZ (σ:=[some (.ref s),some (.int c),some (stD (t,k))]) rfl ?_
  have e:pPop (.ref s) g=.ok (stD (t,k)) (g.set s (.lst (revD r))):=by simp[pPop,hs']
  simp[QiO,hl,YX,e]
  simp[stD,hp]
  rfl
theorem QcB(hs:g[s]?=some (.lst (revD side))):Q1 [.ref s] g=.ok (.int (Qx side)) g:=by
 have hl:=QbA hs
 refine QX rfl ?_
 cases side with
 |nil=>simp[Y5,hl,revD,stsD,Qx]
 |cons p r=>simp[Y5,hl,YX,Qd9 hs];simp[stD,Qx]
theorem QgE{sg c:Int}(hs:g[s]?=some (.lst (revD side))):Qcu [.ref s,.int sg,.int c] g=.ok (.int (Qm side sg c)) g:=by
 have hl:=QbA hs
 refine QX rfl ?_
 by_cases hn:Qx side=sg
 ·cases side with
  |nil=>simp[QdS,QcB hs,hl,hn,revD,stsD,Qm]
  |cons p r =>
   have:=Qd9 hs
   simp[QdS,QcB hs,hl,hn,YX,this,Qm]
   simp[stD,Qhj]
 ·simp[QdS,QcB hs,hn,Qm]
end
theorem Za:Str.ofString "state" = ⟨#[115,116,97,116,101]⟩:=by decide +kernel
theorem ZT:Str.ofString "left" = ⟨#[108,101,102,116]⟩:=by decide +kernel
theorem Zo:Str.ofString "right" = ⟨#[114,105,103,104,116]⟩:=by decide +kernel
theorem QaC:Str.ofString "own" = ⟨#[111,119,110]⟩:=by decide +kernel
theorem ZZ:Str.ofString "moved" = ⟨#[109,111,118,101,100]⟩:=by decide +kernel
theorem Qmi:Str.ofString "entry" = ⟨#[101,110,116,114,121]⟩:=by decide +kernel
theorem Qoi:Str.ofString "leap" = ⟨#[108,101,97,112]⟩:=by decide +kernel
theorem Qpe:Str.ofString "row" = ⟨#[114,111,119]⟩:=by decide +kernel
section
variable{t s l r o m v:D}
noncomputable def fwF(t s l r o m:D):List (Str×D):=[(Str.ofString "table",t),(Str.ofString "state",s),(Str.ofString "left",l),(Str.ofString "right",r),(Str.ofString "own",o),(Str.ofString "moved",m)]
@[simp] theorem Qos:(fwF t s l r o m).lookup (Str.ofString "table")=some t:=by unfold fwF;rw[Q5,Za,ZT,Zo,QaC,ZZ];rfl
@[simp] theorem Qot:(fwF t s l r o m).lookup (Str.ofString "state")=some s:=by unfold fwF;rw[Q5,Za,ZT,Zo,QaC,ZZ];rfl
@[simp] theorem Qpf:(fwF t s l r o m).lookup (Str.ofString "left")=some l:=by unfold fwF;rw[Q5,Za,ZT,Zo,QaC,ZZ];rfl
@[simp] theorem Qou:(fwF t s l r o m).lookup (Str.ofString "right")=some r:=by unfold fwF;rw[Q5,Za,ZT,Zo,QaC,ZZ];rfl
@[simp] theorem QpB:(fwF t s l r o m).lookup (Str.ofString "own")=some o:=by unfold fwF;rw[Q5,Za,ZT,Zo,QaC,ZZ];rfl
@[simp] theorem Qov:(fwF t s l r o m).lookup (Str.ofString "moved")=some m:=by unfold fwF;rw[Q5,Za,ZT,Zo,QaC,ZZ];rfl
@[simp] theorem Qow:(fwF t s l r o m).lookup (Str.ofString "entry")=none:=by unfold fwF;rw[Q5,Za,ZT,Zo,QaC,ZZ,Qmi];rfl
@[simp] theorem Qpg:(fwF t s l r o m).lookup (Str.ofString "leap")=none:=by unfold fwF;rw[Q5,Za,ZT,Zo,QaC,ZZ,Qoi];rfl
@[simp] theorem QpC:(fwF t s l r o m).lookup (Str.ofString "row")=none:=by unfold fwF;rw[Q5,Za,ZT,Zo,QaC,ZZ,Qpe];rfl
@[simp] theorem Qox:putG (Str.ofString "state") v (fwF t s l r o m)=fwF t v l r o m:=by unfold fwF;rw[Q5,Za,ZT,Zo,QaC,ZZ];rfl
@[simp] theorem QpD:putG (Str.ofString "own") v (fwF t s l r o m)=fwF t s l r v m:=by unfold fwF;rw[Q5,Za,ZT,Zo,QaC,ZZ];rfl
@[simp] theorem Qoy:putG (Str.ofString "moved") v (fwF t s l r o m)=fwF t s l r o v:=by unfold fwF;rw[Q5,Za,ZT,Zo,QaC,ZZ];rfl
@[simp] theorem QpE:(fwF t s l r o m).length=6:=rfl
@[simp] theorem Qoz{rows:List (List D)}:([(Str.ofString "table",t)]:List (Str×D)).lookup (Str.ofString "table")=some t:=by rw[Q5];rfl
theorem pi1:putG (Str.ofString "table") t []=[(Str.ofString "table",t)]:=rfl
theorem pi2:putG (Str.ofString "state") s [(Str.ofString "table",t)]=[(Str.ofString "table",t),(Str.ofString "state",s)]:=by rw[Q5,Za];rfl
theorem pi3:putG (Str.ofString "left") l [(Str.ofString "table",t),(Str.ofString "state",s)]=[(Str.ofString "table",t),(Str.ofString "state",s),(Str.ofString "left",l)]:=by rw[Q5,Za,ZT];rfl
theorem pi4:putG (Str.ofString "right") r [(Str.ofString "table",t),(Str.ofString "state",s),(Str.ofString "left",l)]=[(Str.ofString "table",t),(Str.ofString "state",s),(Str.ofString "left",l),(Str.ofString "right",r)]:=by rw[Q5,Za,ZT,Zo];rfl
theorem pi5:putG (Str.ofString "own") o [(Str.ofString "table",t),(Str.ofString "state",s),(Str.ofString "left",l),(Str.ofString "right",r)]=[(Str.ofString "table",t),(Str.ofString "state",s),(Str.ofString "left",l),(Str.ofString "right",r),(Str.ofString "own",o)]:=by rw[Q5,Za,ZT,Zo,QaC];rfl
theorem pi6:putG (Str.ofString "moved") m [(Str.ofString "table",t),(Str.ofString "state",s),(Str.ofString "left",l),(Str.ofString "right",r),(Str.ofString "own",o)]=fwF t s l r o m:=by unfold fwF;rw[Q5,Za,ZT,Zo,QaC,ZZ];rfl
theorem Qi0:([(Str.ofString "table",t),(Str.ofString "state",s),(Str.ofString "left",l),(Str.ofString "right",r)]:List (Str×D)).lookup (Str.ofString "right")=some r:=by rw[Q5,Za,ZT,Zo];rfl
theorem Qi1:([(Str.ofString "table",t),(Str.ofString "state",s),(Str.ofString "left",l),(Str.ofString "right",r),(Str.ofString "own",o)]:List (Str×D)).lookup (Str.ofString "right")=some r:=by rw[Q5,Za,ZT,Zo,QaC];rfl
end
section
variable{σ:S3}{g:G}
@[simp] theorem Qph{cs:List Nat}{f:Str}{o:ME}:ZU cs f o σ g=(match o σ g with
 |.ok (.ref n) g1=>(match g1[n]? with
  |some (.ins c fs)=>if c∈cs then (match fs.lookup f with|some d=>.ok d g1|none=>.stuck) else .stuck
  |_=>.stuck)
 |.raise e g'=>.raise e g'
 |_=>.stuck):=by
 unfold ZU mOp1 Res.bind;cases o σ g with|ok d g1=>cases d <;> rfl|_=>rfl
@[simp] theorem Qmy{cs:List Nat}{f:Str}{o v:ME}:QM cs f o v σ g=(match v σ g with
 |.ok y g1=>(match o σ g1 with
  |.ok (.ref n) g2=>(match g2[n]? with
   |some (.ins c fs)=>if c∈cs/\fs.length<100 then .nx σ (g2.set n (.ins c (putG f y fs))) else .stuck
   |_=>.stuck)
  |.raise e g'=>.raise e σ g'
  |_=>.stuck)
 |.raise e g'=>.raise e σ g'
 |.stuck=>.stuck):=rfl
@[simp] theorem Qpi{cc:Nat}{m:Str}{f:MF}{o:ME}{a:MA}:QcV cc m f o a σ g=(match o σ g with
 |.ok (.ref n) g1=>(match g1[n]? with
  |some (.ins c fs)=>if c=cc/\fs.lookup m=none then (match a σ g1 with | .ok xs g2=>f (.ref n::xs) g2 | .raise e g'=>.raise e g' | .stuck=>.stuck) else .stuck
  |_=>.stuck)
 |.raise e g'=>.raise e g'
 |_=>.stuck):=by
 unfold QcV Res.bind;cases o σ g with
 |ok d g1 =>
  cases d with
  |ref n =>
   dsimp only
   cases g1[n]? with
   |none=>rfl
   |some x=>cases x with
    |ins c fs=>dsimp only;split <;> first|rfl|(cases a σ g1 <;> rfl)
    |_=>rfl
  |_=>rfl
 |_=>rfl
end
noncomputable def fwO(rows:List (List D))(st own mv:Int)(l r:Nat):GO:=.ins 13 (fwF (.tup (rows.map .tup)) (.int st) (.ref l) (.ref r) (.int own) (.int mv))
structure FRep(rows:List (List D))(w l r:Nat)(g:G)(S:RowN)(mv:Int):Prop where
 w':g[w]?=some (fwO rows S.st S.own mv l r)
 l':g[l]?=some (.lst (revD S.L))
 r':g[r]?=some (.lst (revD S.R))
 wl:w≠l
 wr:w≠r
 lr:l≠r
theorem QgF{rows:List (List D)}{w l r:Nat}{g:G}{S:RowN}{mv:Int}{d:D}(W:FRep rows w l r g S mv)(h0:0<=S.own)(h:QeY rows S.st S.own.toNat=some d):Zb [.ref w] g=.ok d g:=by
 refine QX rfl ?_
 have hw:=W.w'
 unfold fwO at hw
 unfold QeY at h
 cases hr:rows[S.st]? with
 |none=>rw[hr]at h;cases h
 |some row =>
  rw[hr]at h
  have e1:pIx (.tup (rows.map .tup)) (.int S.st) g=.ok (.tup row) g:=ix_tup (by rw[Uy,hr];rfl)
  have e2:pIx (.tup row) (.int S.own) g=.ok d g:=by
   have:pIx (.tup row) (.int S.own.toNat) g=.ok d g:=ix_tup h
   rw[TN h0]at this
   exact this
  simp[JE,hw,e1,e2]
noncomputable def Qoj:MS:=(mSeq (Zq (Qn Qhp (Qb (mVar 5) (Qb (mOp2 pIx (mVar 2) (mLit (.int 0))) (Qb (mVar 6) mNil)))))
 (mSeq (Zq (Qn Qct (Qb (mVar 4) (Qb (mOp2 pSub (mVar 6) (mLit (.int 1))) mNil))))
 (mSeq (QM [13] "own" (mVar 0) (Qn Q1 (Qb (mVar 4) mNil)))
 (mSeq (Zq (Qn Qct (Qb (mVar 4) (Qb (mLit (.int 1)) mNil))))
 (mSeq (QM [13] "state" (mVar 0) (mOp2 pIx (mVar 2) (mLit (.int 2))))
 (mSeq (QM [13] "moved" (mVar 0) (mIfE (Qk (mVar 3)) (mOp2 pAdd (ZU [13] "moved" (mVar 0)) (mVar 6)) (mOp2 pSub (ZU [13] "moved" (mVar 0)) (mVar 6))))
 (mRet (mVar 6))))))))
theorem Qe1{w ah bh:Nat}{A B:Sts}{g:G}{T l r y:D}{st own mv a b n asked:Int}{rt:Bool}(hw:g[w]?=some (.ins 13 (fwF T (.int st) l r (.int own) (.int mv))))(ha:g[ah]?=some (.lst (revD A)))(hb:g[bh]?=some (.lst (revD B)))(h1:w≠ah)(h2:w≠bh)(h3:ah≠bh)(zA:A.length<90000)(zB:B.length<90000):
  ∃g',Qoj [some (.ref w),some (.int asked),some (.tup [.int a,y,.int b]),some (.bl rt),some (.ref ah),some (.ref bh),some (.int n)] g=.rt (.int n) g'/\Keeps [w,ah,bh] g g' /\
   g'[w]?=some (.ins 13 (fwF T (.int b) l r (.int (Qx (Qw A (n-1)))) (.int (if rt=true then mv+n else mv-n))))/\g'[ah]?=some (.lst (revD (Qw (Qw A (n-1)) 1)))/\g'[bh]?=some (.lst (revD (putN B a n))):=by
 generalize hσ:([some (.ref w),some (.int asked),some (.tup [.int a,y,.int b]),some (.bl rt),some (.ref ah),some (.ref bh),some (.int n)]:S3)=σ
 have v0:σ[0]?=some (some (.ref w)):=by rw[<-hσ];rfl
 have v2:σ[2]?=some (some (.tup [.int a,y,.int b])):=by rw[<-hσ];rfl
 have v3:σ[3]?=some (some (.bl rt)):=by rw[<-hσ];rfl
 have v4:σ[4]?=some (some (.ref ah)):=by rw[<-hσ];rfl
 have v5:σ[5]?=some (some (.ref bh)):=by rw[<-hσ];rfl
 have v6:σ[6]?=some (some (.int n)):=by rw[<-hσ];rfl
 unfold Qoj
 have e1:=QiZ (sg:=a) (c:=n) hb zB
 have w1:(g.set bh (.lst (revD (putN B a n))))[w]?=_:=(Uk h2.symm).trans hw
 have a1:(g.set bh (.lst (revD (putN B a n))))[ah]?=_:=(Uk h3.symm).trans ha
 have b1:(g.set bh (.lst (revD (putN B a n))))[bh]?=some (.lst (revD (putN B a n))):=QK hb
 have k1:Keeps [w,ah,bh] g (g.set bh (.lst (revD (putN B a n)))):=(Keeps.set _ _).mono (by simp)
 generalize g.set bh (.lst (revD (putN B a n)))=g1 at e1 w1 a1 b1 k1
 have e2:=QfI (c:=n-1) a1 zA
 have w2:(g1.set ah (.lst (revD (Qw A (n-1)))))[w]?=_:=(Uk h1.symm).trans w1
 have b2:(g1.set ah (.lst (revD (Qw A (n-1)))))[bh]?=_:=(Uk h3).trans b1
 have a2:(g1.set ah (.lst (revD (Qw A (n-1)))))[ah]?=some (.lst (revD (Qw A (n-1)))):=QK a1
 have k2:Keeps [w,ah,bh] g1 (g1.set ah (.lst (revD (Qw A (n-1))))):=(Keeps.set _ _).mono (by simp)
 generalize g1.set ah (.lst (revD (Qw A (n-1))))=g2 at e2 w2 a2 b2 k2
 have e3:=QcB a2
 have zD:=Jy A (n-1)
 generalize hD:Qw A (n-1)=D1 at e2 a2 e3 zD
 have w3:=QK (u:=.ins 13 (fwF T (.int st) l r (.int (Qx D1)) (.int mv))) w2
 have a3:(g2.set w (.ins 13 (fwF T (.int st) l r (.int (Qx D1)) (.int mv))))[ah]?=_:=(Uk h1).trans a2
 have b3:(g2.set w (.ins 13 (fwF T (.int st) l r (.int (Qx D1)) (.int mv))))[bh]?=_:=(Uk h2).trans b2
 have k3:Keeps [w,ah,bh] g2 (g2.set w (.ins 13 (fwF T (.int st) l r (.int (Qx D1)) (.int mv)))):=(Keeps.set _ _).mono (by simp)
 have s3:QM [13] "own" (mVar 0) (Qn Q1 (Qb (mVar 4) mNil)) σ g2=.nx σ (g2.set w (.ins 13 (fwF T (.int st) l r (.int (Qx D1)) (.int mv)))):=by simp[v0,v4,e3,w2]
 generalize g2.set w (.ins 13 (fwF T (.int st) l r (.int (Qx D1)) (.int mv)))=g3 at w3 a3 b3 k3 s3
 have e4:=QfI (c:=1) a3 (by omega)
 have w4:(g3.set ah (.lst (revD (Qw D1 1))))[w]?=_:=(Uk h1.symm).trans w3
 have b4:(g3.set ah (.lst (revD (Qw D1 1))))[bh]?=_:=(Uk h3).trans b3
 have a4:(g3.set ah (.lst (revD (Qw D1 1))))[ah]?=some (.lst (revD (Qw D1 1))):=QK a3
 have k4:Keeps [w,ah,bh] g3 (g3.set ah (.lst (revD (Qw D1 1)))):=(Keeps.set _ _).mono (by simp)
 generalize g3.set ah (.lst (revD (Qw D1 1)))=g4 at e4 w4 a4 b4 k4
 refine⟨g4.set w (.ins 13 (fwF T (.int b) l r (.int (Qx D1)) (.int (if rt=true then mv+n else mv-n)))),?_,(((k1.trans k2).trans k3).trans k4).trans ((Keeps.set _ _).mono (by simp)),QK w4,(Uk h1).trans a4,(Uk h2).trans b4⟩
 refine Qg σ g1 (by simp[v2,v5,v6,e1]) (Qg σ g2 (by simp[v4,v6,e2]) (Qg σ g3 s3 (Qg σ g4 (by simp[v4,e4]) ?_)))
 have w5:=QK (u:=.ins 13 (fwF T (.int b) l r (.int (Qx D1)) (.int mv))) w4
 refine Qg σ (g4.set w (.ins 13 (fwF T (.int b) l r (.int (Qx D1)) (.int mv)))) (by simp[v0,v2,w4]) ?_
 cases rt <;> simp[v0,v3,v6,w5]
theorem s_r':Str.ofString "r" = rS:=s_r
theorem Qmj{rows:List (List D)}{w l r n m:Nat}{g:G}{S:RowN}{mv asked:Int}{d:D}{rr:RowN×Int×Int}(W:FRep rows w l r g S mv)(he:entOk d n m)(h0:0<=S.own)(h:QeY rows S.st S.own.toNat=some d)(hl:Jj d S asked=some rr)(zL:S.L.length<90000)(zR:S.R.length<90000):
  ∃g',Yz [.ref w,.int asked] g=.ok (.int rr.2.1) g'/\FRep rows w l r g' rr.1 (mv+rr.2.2)/\Keeps [w,l,r] g g':=by
 have e0:=QgF W h0 h
 have hw:=W.w'
 unfold fwO at hw
 rcases he with rfl|⟨a,b,y,rfl,a0,a1,b0,b1,_⟩
 ·cases hl
 ·unfold Jj at hl
  dsimp only at hl
  cases hl
  have q1:∀c:Int,Qcu [.ref r,.int S.own,.int c] g=_:=λc=>QgE (sg:=S.own) (c:=c) W.r'
  have q2:∀c:Int,Qcu [.ref l,.int S.own,.int c] g=_:=λc=>QgE (sg:=S.own) (c:=c) W.l'
  by_cases hy:y=rS
  ·rw[Ud hy]
   obtain⟨g',x1,x2,x3,x4,x5⟩:=Qe1 (y:=.str y) (rt:=true) (asked:=asked) (a:=a) (b:=b) (n:=QP b S.st S.R S.own asked) hw W.r' W.l' W.wr W.wl W.lr.symm zR zL
   refine⟨g',QX rfl ?_,⟨?_,x5,x4,W.wl,W.wr,W.lr⟩,x2.mono (by simp)⟩
   ·show Zl [some (.ref w),some (.int asked),none,none,none,none,none] g=_
    rw[<-x1]
    unfold Zl
    refine Qg [some (.ref w),some (.int asked),some (.tup [.int a,.str y,.int b]),none,none,none,none] g (by simp[hw,e0]) (Qg [some (.ref w),some (.int asked),some (.tup [.int a,.str y,.int b]),some (.bl true),none,none,none] g (by simp[eq_str,s_r',hy]) (Qg [some (.ref w),some (.int asked),some (.tup [.int a,.str y,.int b]),some (.bl true),some (.ref r),none,none] g (by simp[hw]) (Qg [some (.ref w),some (.int asked),some (.tup [.int a,.str y,.int b]),some (.bl true),some (.ref r),some (.ref l),none] g (by simp[hw]) (Qg [some (.ref w),some (.int asked),some (.tup [.int a,.str y,.int b]),some (.bl true),some (.ref r),some (.ref l),some (.int (QP b S.st S.R S.own asked))] g ?_ rfl))))
    by_cases hb:b=(S.st:Int) <;> simp[hw,QP,hb,q1]
   ·rw[x3];show _=some (fwO rows ((b.toNat:Nat):Int) _ _ _ _);rw[TN b0];rfl
  ·rw[Ue hy]
   obtain⟨g',x1,x2,x3,x4,x5⟩:=Qe1 (y:=.str y) (rt:=false) (asked:=asked) (a:=a) (b:=b) (n:=QP b S.st S.L S.own asked) hw W.l' W.r' W.wl W.wr W.lr zL zR
   refine⟨g',QX rfl ?_,⟨?_,x4,x5,W.wl,W.wr,W.lr⟩,x2⟩
   ·show Zl [some (.ref w),some (.int asked),none,none,none,none,none] g=_
    rw[<-x1]
    unfold Zl
    refine Qg [some (.ref w),some (.int asked),some (.tup [.int a,.str y,.int b]),none,none,none,none] g (by simp[hw,e0]) (Qg [some (.ref w),some (.int asked),some (.tup [.int a,.str y,.int b]),some (.bl false),none,none,none] g (by simp[eq_str,s_r',hy]) (Qg [some (.ref w),some (.int asked),some (.tup [.int a,.str y,.int b]),some (.bl false),some (.ref l),none,none] g (by simp[hw]) (Qg [some (.ref w),some (.int asked),some (.tup [.int a,.str y,.int b]),some (.bl false),some (.ref l),some (.ref r),none] g (by simp[hw]) (Qg [some (.ref w),some (.int asked),some (.tup [.int a,.str y,.int b]),some (.bl false),some (.ref l),some (.ref r),some (.int (QP b S.st S.L S.own asked))] g ?_ rfl))))
    by_cases hb:b=(S.st:Int) <;> simp[hw,QP,hb,q2]
   ·rw[x3];show _=some (fwO rows ((b.toNat:Nat):Int) _ _ _ _);rw[TN b0];rfl
theorem QcC{α:Type}{s:Nat}{xs:List α}{F H:α->D}{t:MG}{e:ME}{n:Nat}{cap:List Nat}{σ:S3}{g0 g:G}{a:ME}(hs:g[s]?=some (.lst (xs.map F)))(hz:xs.length<=100000)(ha:a σ g0=.ok (.ref s) g)(I:S3->Prop)(h0:I (capt n cap σ))(step:∀x∈xs,∀σ',I σ'->∃σ1,t (F x) σ'=some σ1/\I σ1/\e σ1 g=.ok (H x) g):YI (QO a) n cap t YJ e σ g0=.ok (.ref g.length) (g++[.lst (xs.map H)]):=by
 have hit:QO a σ g0=.ok (srcL s xs.length) g:=by
  unfold QO
  rw[ha,Res.bind_ok]
  unfold Qak
  dsimp only
  rw[hs]
  dsimp only
  rw[Ur]
  try rfl
 obtain⟨ys,σ',g3,c1,c2,c3,_⟩:=Yd (src:=srcL s xs.length) (t:=t) (c:=YJ) (e:=e) (n:=xs.length)
  (λi σ' g4 acc=>acc=(xs.take i).map H/\g4=g/\I σ') (λi σ' g4 acc hi hQ=>by
   obtain⟨q1,q2,q3⟩:=hQ
   subst q2
   obtain⟨σ1,e1,e2,e3⟩:=step xs[i] (UK hi) σ' q3
   refine⟨F xs[i],σ1,g4,?_,e1,.inl ⟨H xs[i],g4,rfl,e3,?_,rfl,e2⟩⟩
   ·show(match g4[s]? with|some (.lst es)=>some es[i]? | _=>none)=_
    rw[hs];dsimp only;rw[Uy,UL hi];rfl
   ·rw[q1,UN hi,Ws];rfl) (λσ g4 acc hQ=>by
   show(match g4[s]? with|some (.lst es)=>some es[xs.length]? | _=>none)=_
   rw[hQ.2.1,hs];dsimp only;rw[Ta (by simp)]) (xs.length+1) 0 (capt n cap σ) g [] (by omega) (by omega) ⟨rfl,rfl,h0⟩
 rw[Ri]at c2
 subst c2 c3
 exact Qd3 hit (U3 (QbB hz)) rfl c1
theorem Qi2{α:Type}{H:α->D}{xs:List α}(h:∀x∈xs,H x=.bl true):allB (xs.map H)=some true:=by
 induction xs with
 |nil=>rfl
 |cons p r ih =>
  rw[UI,h p (Uu ..)]
  show(allB (r.map H)).map (true && ·)=_
  rw[ih λx hx=>h x (Uv _ hx)];rfl
theorem Qhu{α:Type}{H:α->D}{xs:List α}(h:∀x∈xs,H x=.bl false):anyB (xs.map H)=some false:=by
 induction xs with
 |nil=>rfl
 |cons p r ih =>
  rw[UI,h p (Uu ..)]
  show(anyB (r.map H)).map (false || ·)=_
  rw[ih λx hx=>h x (Uv _ hx)];rfl
theorem QcD{m:Int}:∀{s:Sts}{p:Int×Int},Q9 m s->p∈s->0<=p.1/\p.1<m/\1<=p.2
 |_::_,_,h,hp=>by
  rcases UE.mp hp with rfl|hp
  ·exact⟨h.1,h.2.1,h.2.2.1⟩
  ·exact QcD h.2.2.2.2 hp
theorem Qdm{m:Int}:∀{s:Sts}{i:Nat}{x y:Int×Int},Q9 m s->s[i]?=some x->s[i+1]?=some y->x.1≠y.1
 |[],_,_,_,_,h,_=>by simp at h
 |p::r,0,x,y,h,hx,hy=>by
  have:p=x:=by simpa using hx
  subst this
  cases r with
  |nil=>simp at hy
  |cons q r =>
   have:q=y:=by simpa using hy
   subst this
   exact λe=>h.2.2.2.1 e.symm
 |p::r,i+1,x,y,h,hx,hy=>Qdm (s:=r) (i:=i) h.2.2.2.2 (by simpa using hx) (by simpa using hy)
theorem Qe2{m:Int}:∀{s:Sts}{p:Int×Int},Q9 m (s++[p])->p.1≠0
 |[],_,h=>λe=>h.2.2.2.1 (by rw[e];rfl)
 |_::r,_,h=>Qe2 (s:=r) h.2.2.2.2
theorem Qhv{p:Int×Int}{g:G}(h1:0<=p.1)(h2:1<=p.2):Ya [stD p] g=.ok (.bl true) g:=by
 have e:∀i:Int,QS [.int i] g=.ok (.bl (decide (0<=i))) g:=λi=>rfl
 have e2:pLen (.tup [.int p.1,.int p.2]) g=.ok (.int 2) g:=rfl
 have e3:ZV .tuple (.tup [.int p.1,.int p.2]) g=.ok (.bl true) g:=rfl
 exact QX rfl (by simp[Qbz,stD,e,e2,e3,h1,show 0<=p.2 by omega,show 0<p.2 by omega])
theorem cut1(xs:List D):cutD xs (some 1) none=xs.drop 1:=by
 unfold cutD sIxD
 cases xs with
 |nil=>rfl
 |cons x r=>simp
theorem QcE(side:Sts):side=[]\/∃a p,side=a++[p]:=by
 rcases List.eq_nil_or_concat side with h|⟨a,p,h⟩
 ·exact .inl h
 ·exact .inr ⟨a,p,by simpa using h⟩
theorem Qa3{s m:Nat}{side:Sts}{g:G}(hs:g[s]?=some (.lst (stsD side)))(hG:Q9 m side)(hz:side.length<=90000):∃g',YS [.ref s] g=.ok .non g'/\Keeps [] g g':=by
 have hl:=QbA hs
 have c1:=QcC (F:=stD) (H:=λ_=>.bl true) (t:=gSet 0) (e:=Qn Ya (Qb (mVar 0) mNil)) (n:=1) (cap:=[]) (σ:=[some (.ref s),none,none]) (a:=mVar 0) hs (by omega) rfl (λσ=>∃u,σ=[u]) ⟨_,rfl⟩ (λx hx σ' ⟨u,hu⟩=>by
  have h1:=QcD hG hx
  subst hu
  exact⟨[some (stD x)],rfl,⟨_,rfl⟩,by simp[Qhv h1.1 h1.2.2]⟩)
 have a1:allB (side.map λ_=>D.bl true)=some true:=Qi2 λ_ _=>rfl
 have hk:Keeps [] g (g++[.lst (side.map λ_=>D.bl true)]):=.push _
 have p1:pAll (.ref g.length) (g++[.lst (side.map λ_=>D.bl true)])=.ok (.bl true) (g++[.lst (side.map λ_=>D.bl true)]):=by simp[pAll,a1]
 generalize g++[.lst (side.map λ_=>D.bl true)]=g1 at c1 hk p1
 have hs1:=hk.at' _ _ (by simp) hs
 have t0:QeQ (.ref s) g=.ok (.bl true) g:=by unfold QeQ tyOf;dsimp only;rw[hs];rfl
 have s1:QaJ (.ref s) (some 1) none g1=.ok (.ref g1.length) (g1++[.lst ((stsD side).drop 1)]):=by unfold QaJ;dsimp only;rw[hs1];dsimp only;rw[cut1]
 have k2:Keeps [] g1 (g1++[.lst ((stsD side).drop 1)]):=.push _
 have r2:=QW (g:=g1) (.lst ((stsD side).drop 1))
 generalize hr:g1.length=r at s1 r2
 generalize g1++[.lst ((stsD side).drop 1)]=g2 at s1 k2 r2
 have hs2:=k2.at' _ _ (by simp) hs1
 have q1:=ZY hs2
 have q2:=ZY r2
 have hlen:(stsD side).length=side.length:=by simp[stsD]
 have hz2:∃src,Qdb (.ref s) (.ref r) g2=.ok src g2/\src.top=side.length-1/\(∀i,i<side.length-1->∃x y,side[i]?=some x/\side[i+1]?=some y/\src.at' g2 i=some (some (.tup [stD x,stD y])))/\src.at' g2 (side.length-1)=some none:=by
  unfold Qdb
  rw[q1,q2]
  refine⟨_,rfl,by simp[hlen],λi hi=>?_,?_⟩
  ·have e1:(stsD side)[i]?=some (stD (side[i]'(by omega))):=by unfold stsD;rw[Uy,UL (by omega)];rfl
   have e2:((stsD side).drop 1)[i]?=some (stD (side[i+1]'(by omega))):=by unfold stsD;rw[List.getElem?_drop,Uy,show 1+i=i+1 by omega,UL (by omega)];rfl
   exact⟨_,_,UL (by omega),UL (by omega),by dsimp only;rw[q1,q2];dsimp only;rw[e1,e2]⟩
  ·dsimp only;rw[q1,q2];dsimp only
   rw[show((stsD side).drop 1)[side.length-1]?=none from Ta (by rw[TD,hlen];omega)]
   cases (stsD side)[side.length-1]? <;> rfl
 obtain⟨src,z1,z2,z3,z4⟩:=hz2
 obtain⟨σ',g',f1,rfl,y1,y2,rfl⟩:=Qd0 (t:=Yh [gSet 1,gSet 2]) (body:=Yx) (σ:=[some (.ref s),none,none]) (g:=g2) z2 (λ_ σ g'=>g'=g2/\∃y1 y2,σ=[some (.ref s),y1,y2]) ⟨rfl,_,_,rfl⟩ (λi σ g' hi ⟨q,y1,y2,hσ⟩=>by
  subst q hσ
  obtain⟨x,y,hx,hy,hat⟩:=z3 i hi
  refine⟨_,[some (.ref s),some (stD x),some (stD y)],[some (.ref s),some (stD x),some (stD y)],g',hat,rfl,?_,rfl,_,_,rfl⟩
  have:=Qdm hG hx hy
  simp[Yx,stD,this]) (λσ g' ⟨q,_⟩=>by rw[q];exact z4)
 refine⟨g',QaZ rfl (?_:JT [some (.ref s),none,none] g=.nx [some (.ref s),y1,y2] g'),hk.trans k2⟩
 unfold JT
 refine Qg [some (.ref s),none,none] g1 ?_ (Qg [some (.ref s),y1,y2] g' ?_ ?_)
 ·have:Qk (mOp1 pAll (YI (QO (mVar 0)) 1 [] (gSet 0) YJ (Qn Ya (Qb (mVar 0) mNil)))) [some (.ref s),none,none] g=.ok true g1:=Jw (Ji c1 p1)
  exact iff' g1 (by rw[Qod,QiV,Qmf,Qob,Qk2];simp only[TJ,t0];rw[QiV,this];rfl) rfl
 ·have e:Qbx (mVar 0) (Jd (mVar 0) (QaK (mLit (.int 1))) Yi) [some (.ref s),none,none] g1=.ok src g':=by
   unfold Qbx Jd QaK Yi
   simp[Res.bind,s1,z1]
  unfold mFor
  rw[e]
  exact f1
 ·have hl2:=QbA hs2
  rcases QcE side with rfl|⟨a,p,rfl⟩
  ·simp[hl2,stsD]
  ·have h3:pIx (.ref s) (.int (-1)) g'=.ok (stD p) g':=by
    have:g'[s]?=some (.lst (stD p::(stsD a).reverse).reverse):=by rw[hs2];simp[stsD]
    exact Qd4 this
   have:=Qe2 hG
   simp[hl2,hlen,h3]
   simp[stD,this]
structure StR(n m:Nat)(g:G)(d:D)(st:Nat)(L R:Sts)(a b:Nat):Prop where
 d':d=.tup [.int st,.ref a,.ref b]
 a':g[a]?=some (.lst (stsD L))
 b':g[b]?=some (.lst (stsD R))
 L':Q9 m L
 R':Q9 m R
 s':st<n
theorem StR.mono{n m:Nat}{g g1:G}{d:D}{st:Nat}{L R:Sts}{a b:Nat}(h:StR n m g d st L R a b)(k:Keeps [] g g1):StR n m g1 d st L R a b :=
 ⟨h.d',k.at' _ _ (by simp) h.a',k.at' _ _ (by simp) h.b',h.L',h.R',h.s'⟩
theorem QcF{n m:Nat}{g:G}{d:D}{st:Nat}{L R:Sts}{a b:Nat}(h:StR n m g d st L R a b)(zL:L.length<=90000)(zR:R.length<=90000):∃g',Zr [d] g=.ok .non g'/\Keeps [] g g':=by
 obtain⟨g1,e1,k1⟩:=Qa3 h.a' h.L' zL
 obtain⟨g2,e2,k2⟩:=Qa3 (k1.at' _ _ (by simp) h.b') h.R' zR
 have hd:=h.d'
 subst hd
 refine⟨g2,QaZ (σ:=[some (.tup [.int st,.ref a,.ref b])]) rfl ?_,k1.trans k2⟩
 have e:∀i:Int,QS [.int i] g=.ok (.bl (decide (0<=i))) g:=λi=>rfl
 have e3:pLen (.tup [.int st,.ref a,.ref b]) g=.ok (.int 3) g:=rfl
 have e4:ZV .tuple (.tup [.int st,.ref a,.ref b]) g=.ok (.bl true) g:=rfl
 simp[Jg,e,e1,e2,e3,e4]
theorem Qk3{s m:Nat}{side:Sts}{g:G}{σ:S3}{d0 d1 d3:Option D}(hσ:σ=[d0,d1,some (.int m),some (.ref s)])(hs:g[s]?=some (.lst (stsD side)))(hG:Q9 m side)(hz:side.length<=90000):Zm σ g=.nx σ (g++[.lst (side.map λ_=>D.bl false)]):=by
 subst hσ
 have c1:=QcC (F:=stD) (H:=λ_=>.bl false) (t:=Yh [gSet 0,gSet 1]) (e:=mOp2 pGe (mVar 0) (mVar 2)) (n:=2) (cap:=[2]) (σ:=[d0,d1,some (.int m),some (.ref s)]) (a:=mVar 3) hs (by omega) rfl (λσ=>∃u v,σ=[u,v,some (.int m)]) ⟨_,_,rfl⟩ (λx hx σ' ⟨u,v,hu⟩=>by
  have h1:=QcD hG hx
  subst hu
  exact⟨[some (.int x.1),some (.int x.2),some (.int m)],rfl,⟨_,_,rfl⟩,by simp;omega⟩)
 have a1:anyB (side.map λ_=>D.bl false)=some false:=Qhu λ_ _=>rfl
 have p1:pAny (.ref g.length) (g++[.lst (side.map λ_=>D.bl false)])=.ok (.bl false) (g++[.lst (side.map λ_=>D.bl false)]):=by simp[pAny,a1]
 unfold Zm
 exact iff' _ (Jw (Ji c1 p1)) rfl
theorem Qkq{M:Nat}{rows:List (List D)}{g:G}(hM:g[M]?=some (Jv rows)):Qax [.ref M] g=.ok (.int rows.length) g:=by
 refine QX rfl ?_
 unfold Jv at hM
 simp[Qcq,hM,pLen]
theorem Qkr{M m:Nat}{rows:List (List D)}{g:G}(hM:g[M]?=some (Jv rows))(h0:0<rows.length)(hr:∀r∈rows,r.length=m):Qbk [.ref M] g=.ok (.int m) g:=by
 refine QX rfl ?_
 unfold Jv at hM
 cases rows with
 |nil=>simp at h0
 |cons r rest =>
  have:=hr r (Uu ..)
  simp[Qdk,hM,pLen,this]
theorem Qea{n m M:Nat}{rows:List (List D)}{g:G}{d:D}{st:Nat}{L R:Sts}{a b:Nat}(T:Tb rows n m)(hM:g[M]?=some (Jv rows))(h:StR n m g d st L R a b)(zL:L.length<=90000)(zR:R.length<=90000):∃g',ZP [.ref M,d] g=.ok .non g'/\Keeps [] g g':=by
 obtain⟨g1,e1,k1⟩:=QcF h zL zR
 have hM1:=k1.at' _ _ (by simp) hM
 have e2:=Qkq hM1
 have e3:=Qkr hM1 (by rw[T.len];exact T.n0) T.row
 have h1:=h.mono k1
 have hd:=h.d'
 subst hd
 have hst:=h.s'
 generalize hx:([some (.ref M),some (.tup [.int st,.ref a,.ref b]),some (.int m)]:S3)=σ0
 have s1:=Qk3 (d0:=some (.ref M)) (d1:=some (.tup [.int st,.ref a,.ref b])) (d3:=none) rfl h1.a' h1.L' zL
 have k2:Keeps [] g1 (g1++[.lst (L.map λ_=>D.bl false)]):=.push _
 generalize g1++[.lst (L.map λ_=>D.bl false)]=g2 at s1 k2
 have h2:=h1.mono k2
 have s2:=Qk3 (d0:=some (.ref M)) (d1:=some (.tup [.int st,.ref a,.ref b])) (d3:=none) rfl h2.b' h2.R' zR
 have k3:Keeps [] g2 (g2++[.lst (R.map λ_=>D.bl false)]):=.push _
 generalize g2++[.lst (R.map λ_=>D.bl false)]=g3 at s2 k3
 refine⟨g3,QaZ (σ:=[some (.ref M),some (.tup [.int st,.ref a,.ref b]),some (.int m),some (.ref b)]) rfl ?_,(k1.trans k2).trans k3⟩
 unfold YT
 refine Qg [some (.ref M),some (.tup [.int st,.ref a,.ref b]),none,none] g1 (by simp[e1]) (Qg [some (.ref M),some (.tup [.int st,.ref a,.ref b]),none,none] g1 (by simp[e2,T.len];intro z;omega) (Qg [some (.ref M),some (.tup [.int st,.ref a,.ref b]),some (.int m),none] g1 (by simp[e3]) ?_))
 have e5:QO (Jd (mVar 1) (QaK (mLit (.int 1))) Yi) [some (.ref M),some (.tup [.int st,.ref a,.ref b]),some (.int m),none] g1=.ok ⟨λ_ i=>some ([D.ref a,D.ref b]:List D)[i]?,2⟩ g1:=rfl
 rw[Qap e5]
 show forL _ _ _ 3 0 _ _=_
 simp[forL,gSet,s1,s2]
theorem Qad{s:Nat}{ds:List D}{g:G}(hs:g[s]?=some (.lst ds)):ZA (.ref s) g=.ok (.ref g.length) (g++[.lst ds.reverse]):=by unfold ZA;rw[ZY hs]
theorem JF{g:G}{t:List GO}{M:Nat}{o:GO}(h:g[M]?=some o):(g++t)[M]?=some o:=by rw[UA (ZI h)];exact h
theorem gt0{g:G}{t:List GO}{o:GO}:(g++o::t)[g.length]?=some o:=by simp
theorem gt1{g:G}{t:List GO}{o p:GO}:(g++p::o::t)[g.length+1]?=some o:=by simp
theorem gt2{g:G}{t:List GO}{o p q:GO}:(g++q::p::o::t)[g.length+2]?=some o:=by simp
theorem st0{g:G}{t:List GO}{o u:GO}:(g++o::t).set g.length u=g++u::t:=by simp
theorem st2{g:G}{t:List GO}{o p q u:GO}:(g++q::p::o::t).set (g.length+2) u=g++q::p::u::t:=by rw[Bq _ _ (by omega)];simp
theorem Qmk{n m M:Nat}{rows:List (List D)}{g:G}{d:D}{st:Nat}{L R:Sts}{a b:Nat}{σ:S3}(hM:g[M]?=some (Jv rows))(h:StR n m g d st L R a b)(zR:R.length<90000)(v0:σ[0]?=some (some (.ref M)))(v1:σ[1]?=some (some d)):
  ∃w l r g',Qdw 13 ZO (Qb (mVar 0) (Qb (mVar 1) mNil)) σ g=.ok (.ref w) g'/\FRep rows w l r g' ⟨st,L,Qx R,Qw R 1⟩ 0/\g.length<=w/\g.length<=l/\g.length<=r/\Keeps [] g g':=by
 have hd:=h.d'
 subst hd
 unfold Jv at hM
 have zz:(Qw R 1).length<90000:=by have:=Jy R 1;omega
 let σ0:S3:=[some (.ref g.length),some (.ref M),some (.tup [.int st,.ref a,.ref b])]
 have hi:ZO [.ref g.length,.ref M,.tup [.int st,.ref a,.ref b]] (g++[.ins 13 []])=.ok .non (g++[fwO rows st (Qx R) 0 (g.length+1) (g.length+2),.lst (revD L),.lst (revD (Qw R 1))]):=by
  refine QaZ (σ:=σ0) rfl ?_
  show Yy σ0 (g++[.ins 13 []])=_
  unfold Yy
  refine Qg σ0 (g++[.ins 13 [(Str.ofString "table",.tup (rows.map .tup))]]) (by simp[σ0,JF hM,pi1]) ?_
  refine Qg σ0 (g++[.ins 13 [(Str.ofString "table",.tup (rows.map .tup)),(Str.ofString "state",.int st)]]) (by simp[σ0,pi2]) ?_
  have q1:ZA (.ref a) (g++[.ins 13 [(Str.ofString "table",.tup (rows.map .tup)),(Str.ofString "state",.int st)]])=.ok (.ref (g.length+1)) (g++[.ins 13 [(Str.ofString "table",.tup (rows.map .tup)),(Str.ofString "state",.int st)],.lst (revD L)]):=by rw[Qad (JF h.a')];simp[revD]
  refine Qg σ0 (g++[.ins 13 [(Str.ofString "table",.tup (rows.map .tup)),(Str.ofString "state",.int st),(Str.ofString "left",.ref (g.length+1))],.lst (revD L)]) (by simp[σ0,q1,pi3]) ?_
  have q2:ZA (.ref b) (g++[.ins 13 [(Str.ofString "table",.tup (rows.map .tup)),(Str.ofString "state",.int st),(Str.ofString "left",.ref (g.length+1))],.lst (revD L)])=.ok (.ref (g.length+2)) (g++[.ins 13 [(Str.ofString "table",.tup (rows.map .tup)),(Str.ofString "state",.int st),(Str.ofString "left",.ref (g.length+1))],.lst (revD L),.lst (revD R)]):=by rw[Qad (JF h.b')];simp[revD]
  refine Qg σ0 (g++[.ins 13 [(Str.ofString "table",.tup (rows.map .tup)),(Str.ofString "state",.int st),(Str.ofString "left",.ref (g.length+1)),(Str.ofString "right",.ref (g.length+2))],.lst (revD L),.lst (revD R)]) (by simp[σ0,q2,pi4]) ?_
  have q3:=QcB (gt2 (g:=g) (t:=[]) (q:=.ins 13 [(Str.ofString "table",.tup (rows.map .tup)),(Str.ofString "state",.int st),(Str.ofString "left",.ref (g.length+1)),(Str.ofString "right",.ref (g.length+2))]) (p:=.lst (revD L)) (o:=.lst (revD R)))
  refine Qg σ0 (g++[.ins 13 [(Str.ofString "table",.tup (rows.map .tup)),(Str.ofString "state",.int st),(Str.ofString "left",.ref (g.length+1)),(Str.ofString "right",.ref (g.length+2)),(Str.ofString "own",.int (Qx R))],.lst (revD L),.lst (revD R)]) (by simp[σ0,Qi0,q3,pi5]) ?_
  have q4:=QfI (c:=1) (gt2 (g:=g) (t:=[]) (q:=.ins 13 [(Str.ofString "table",.tup (rows.map .tup)),(Str.ofString "state",.int st),(Str.ofString "left",.ref (g.length+1)),(Str.ofString "right",.ref (g.length+2)),(Str.ofString "own",.int (Qx R))]) (p:=.lst (revD L)) (o:=.lst (revD R))) zR
  rw[st2]at q4
  refine Qg σ0 (g++[.ins 13 [(Str.ofString "table",.tup (rows.map .tup)),(Str.ofString "state",.int st),(Str.ofString "left",.ref (g.length+1)),(Str.ofString "right",.ref (g.length+2)),(Str.ofString "own",.int (Qx R))],.lst (revD L),.lst (revD (Qw R 1))]) (by simp[σ0,Qi1,q4]) ?_
  simp[σ0,pi6,fwO]
 refine⟨g.length,g.length+1,g.length+2,g++[fwO rows st (Qx R) 0 (g.length+1) (g.length+2),.lst (revD L),.lst (revD (Qw R 1))],?_,⟨gt0,gt1,gt2,by omega,by omega,by omega⟩,by omega,by omega,by omega,⟨by simp,λk o _ e=>JF e⟩⟩
 unfold Qdw
 simp[v0,v1,Res.bind,hi]
theorem Qok{rows:List (List D)}{w l r:Nat}{g:G}{S:RowN}{mv:Int}(W:FRep rows w l r g S mv)(zR:S.R.length<90000):
  ∃a b g',Z5 [.ref w] g=.ok (.tup [.int S.st,.ref a,.ref b]) g'/\Keeps [] g g'/\g.length<=a/\a<b/\g'[a]?=some (.lst (stsD S.L))/\g'[b]?=some (.lst (stsD (putN S.R S.own 1))):=by
 have hw:=W.w'
 unfold fwO at hw
 refine⟨g.length+1,g.length+2,g++[.lst (revD (putN S.R S.own 1)),.lst (stsD S.L),.lst (stsD (putN S.R S.own 1))],QX rfl ?_,⟨by simp,λk o _ e=>JF e⟩,by omega,by omega,gt1,gt2⟩
 show Y6 [some (.ref w),none] g=_
 unfold Y6
 have q1:Qh2 (.ref r) g=.ok (.ref g.length) (g++[.lst (revD S.R)]):=by simp[Qh2,W.r']
 refine Qg [some (.ref w),some (.ref g.length)] (g++[.lst (revD S.R)]) (by simp[hw,q1]) ?_
 have q2:=QiZ (sg:=S.own) (c:=1) (gt0 (g:=g) (t:=[]) (o:=.lst (revD S.R))) zR
 rw[st0]at q2
 refine Qg [some (.ref w),some (.ref g.length)] (g++[.lst (revD (putN S.R S.own 1))]) (by simp[JF hw,q2]) ?_
 have q3:ZA (.ref l) (g++[.lst (revD (putN S.R S.own 1))])=.ok (.ref (g.length+1)) (g++[.lst (revD (putN S.R S.own 1)),.lst (stsD S.L)]):=by rw[Qad (JF W.l')];simp[revD]
 have q4:ZA (.ref g.length) (g++[.lst (revD (putN S.R S.own 1)),.lst (stsD S.L)])=.ok (.ref (g.length+2)) (g++[.lst (revD (putN S.R S.own 1)),.lst (stsD S.L),.lst (stsD (putN S.R S.own 1))]):=by rw[Qad gt0];simp[revD]
 simp[JF hw,q3,q4,pTup,SZ]
theorem Qae{c:MT}{body:MS}:∀(f:Nat)(σ:S3)(g:G),Zv c body f σ g≠.stuck->∀f',f<=f'->Zv c body f' σ g=Zv c body f σ g
 |0,_,_,h,_,_=>absurd rfl h
 |f+1,σ,g,h,f',hf=>by
  obtain⟨k,rfl⟩:∃k,f'=k+1:=⟨f' - 1,by omega⟩
  unfold Zv at h ⊢
  cases hc:c σ g with
  |stuck=>rfl
  |raise e g1=>rfl
  |ok b g1 =>
   cases b with
   |false=>rfl
   |true =>
    rw[hc]at h
    dsimp only at h ⊢
    cases hb:body σ g1 with
    |nx σ2 g2=>rw[hb]at h;exact Qae f σ2 g2 h k (by omega)
    |ct σ2 g2=>rw[hb]at h;exact Qae f σ2 g2 h k (by omega)
    |bk σ2 g2=>rfl
    |rt d g2=>rfl
    |raise e σ2 g2=>rfl
    |stuck=>rfl
theorem QbZ{c:MT}{body:MS}{f:Nat}{σ:S3}{g:G}{R:Out}(h:Zv c body f σ g=R)(hR:R≠.stuck):Qcc c body σ g=R:=by
 have hx:∃f,Zv c body f σ g≠.stuck:=⟨f,by rw[h];exact hR⟩
 unfold Qcc
 rw[dif_pos hx]
 have h1:=hx.choose_spec
 rcases Nat.le_total f hx.choose with z|z
 ·rw[Qae f σ g (by rw[h];exact hR) _ z,h]
 ·rw[<-Qae _ σ g h1 f z,h]
theorem Keeps.over{S:List Nat}{g g1 g2:G}(a:Keeps [] g g1)(b:Keeps S g1 g2)(h:∀n∈S,g.length<=n):Keeps [] g g2 :=
 ⟨Ut a.len b.len,λn o _ e=>b.at' n o (λz=>by have:=h n z;have:=ZI e;omega) (a.at' n o (by simp) e)⟩
theorem QgG{d:D}{S:RowN}{w:Int}{r:RowN×Int×Int}(h:Jj d S w=some r):r.1.L.length+r.1.R.length<=S.L.length+S.R.length+1:=by
 unfold Jj at h
 split at h
 ·rename_i a y b
  cases h
  split
  ·have:=JX S.L a (QP b S.st S.R S.own w)
   have:=Jy S.R (QP b S.st S.R S.own w-1)
   have:=Jy (Qw S.R (QP b S.st S.R S.own w-1)) 1
   dsimp only;omega
  ·have:=JX S.R a (QP b S.st S.L S.own w)
   have:=Jy S.L (QP b S.st S.L S.own w-1)
   have:=Jy (Qw S.L (QP b S.st S.L S.own w-1)) 1
   dsimp only;omega
 ·cases h
noncomputable def Qhw:MT:=(Qat (Qk (mOp2 pLt (mVar 5) (mVar 2))) (Qk (mOp2 QaI (QcV 13 (Str.ofString "entry") Zb (mVar 4) mNil) (mLit .non))))
noncomputable def Jl(M:Nat)(d:D)(steps most:Int)(w:Nat)(done leaps:Int):S3:=[some (.ref M),some d,some (.int steps),some (.int most),some (.ref w),some (.int done),some (.int leaps)]
theorem Qe3{rows:List (List D)}{n m M w l r:Nat}{d:D}{steps most:Int}(T:Tb rows n m):∀(k:Nat)(S:RowN)(g:G)(done leaps mv:Int),OkN n m S->FRep rows w l r g S mv->leaps+k=most->S.L.length+S.R.length+min k (steps-done).toNat<80000 ->
  ∃g',Keeps [w,l,r] g g'/\(match runN rows k S (steps-done) with
   |some q=>Zv Qhw QE (k+2) (Jl M d steps most w done leaps) g=.nx (Jl M d steps most w (done+q.2.2.1) (leaps+q.2.2.2)) g'/\FRep rows w l r g' q.1 (mv+q.2.1)/\q.1.L.length+q.1.R.length<=S.L.length+S.R.length+min k (steps-done).toNat
   |none=>∃σ',Zv Qhw QE (k+2) (Jl M d steps most w done leaps) g=.raise (6,none) σ' g')
 |k,S,g,done,leaps,mv,ho,W,hm,hz=>by
  have h0:=ho.o0;have h1:=ho.o1
  obtain⟨row,e,_,_,he,hat⟩:=T.at ho.st (c:=S.own.toNat) (by omega)
  have hw:=W.w'
  unfold fwO at hw
  have e0:=QgF W h0 hat
  unfold Zv
  have tc:Qhw (Jl M d steps most w done leaps) g=.ok (decide (done<steps) && !isNon e) g:=by
   unfold Qhw Jl
   by_cases z:done<steps <;> simp[z,hw,e0,QaI]
  have hN:∀u,YD rows S u=Jj e S u:=λu=>by unfold YD;rw[hat];rfl
  by_cases z:done<steps
  ·rcases he with rfl|⟨a,b,y,rfl,he⟩
   ·rw[Qaq (by rw[hN];rfl)]
    refine⟨g,.refl,?_,by simpa using W,by dsimp only;omega⟩
    rw[tc,UC z];simp[isNon]
   ·have he':entOk (.tup [.int a,.str y,.int b]) n m:=.inr ⟨a,b,y,rfl,he⟩
    have tt:Qhw (Jl M d steps most w done leaps) g=.ok true g:=by rw[tc,UC z];rfl
    rw[tt]
    dsimp only
    obtain⟨rr,hl⟩:∃rr,Jj (.tup [.int a,.str y,.int b]) S (steps-done)=some rr:=⟨_,rfl⟩
    cases k with
    |zero =>
     rw[Qht (by omega) ((hN _).trans hl)]
     refine⟨g,.refl,Jl M d steps most w done leaps,?_⟩
     have eb:QE (Jl M d steps most w done leaps) g=.raise (6,none) (Jl M d steps most w done leaps) g:=by
      unfold QE
      refine Qcy (ift g ?_ ?_)
      ·unfold Jl;simp;omega
      ·simp[Qf7,SZ]
     rw[eb]
    |succ k =>
     obtain⟨g1,x1,x2,x3⟩:=Qmj W he' h0 hat hl (by omega) (by omega)
     have hln:=QgG hl
     obtain⟨o1,s1,s2⟩:=QiY ho he' T.m0 (by omega) hl
     obtain⟨g2,k2,y2⟩:=Qe3 (d:=d) (M:=M) (steps:=steps) (most:=most) T k rr.1 g1 (done+rr.2.1) (leaps+1) (mv+rr.2.2) o1 x2 (by omega) (by omega)
     have eb:QE (Jl M d steps most w done leaps) g=.nx (Jl M d steps most w (done+rr.2.1) (leaps+1)) g1:=by
      unfold QE
      refine Qg (Jl M d steps most w done leaps) g (iff' g ?_ rfl) (Qg (Jl M d steps most w (done+rr.2.1) leaps) g1 ?_ ?_)
      ·unfold Jl;simp;omega
      ·unfold Jl;simp[hw,x1]
      ·unfold Jl;simp
     refine⟨g2,x3.trans k2,?_⟩
     rw[eb]
     dsimp only
     rw[JV (by omega) ((hN _).trans hl),show steps-done-rr.2.1=steps - (done+rr.2.1) by omega]
     cases hr:runN rows k rr.1 (steps - (done+rr.2.1)) with
     |none=>rw[hr]at y2;exact y2
     |some q =>
      rw[hr]at y2
      obtain⟨z1,z2,z3⟩:=y2
      dsimp only[Option.map]
      refine⟨?_,?_,by omega⟩
      ·rw[z1];congr 2 <;> omega
      ·rw[<-Int.add_assoc];exact z2
  ·rw[Jk (by omega)]
   refine⟨g,.refl,?_,by simpa using W,by dsimp only;omega⟩
   rw[tc,UB z];simp
theorem Qi3{rows:List (List D)}{n m M k:Nat}{d:D}{steps:Int}{g:G}{st:Nat}{L R:Sts}{a b:Nat}(T:Tb rows n m)(hM:g[M]?=some (Jv rows))(h:StR n m g d st L R a b)(hz:L.length+R.length+min k steps.toNat<80000):
  ∃g',Keeps [] g g'/\(match runN rows k ⟨st,L,Qx R,Qw R 1⟩ steps with
   |some q=>∃a' b',YA [.ref M,d,.int steps,.int k] g=.ok (.tup [.tup [.int q.1.st,.ref a',.ref b'],.int q.2.1,.int q.2.2.1,.int q.2.2.2]) g'/\StR n m g' (.tup [.int q.1.st,.ref a',.ref b']) q.1.st q.1.L (putN q.1.R q.1.own 1) a' b'/\q.1.L.length+q.1.R.length<=L.length+R.length+min k steps.toNat
   |none=>YA [.ref M,d,.int steps,.int k] g=.raise (6,none) g'):=by
 obtain⟨g1,e1,k1⟩:=Qea T hM h (by omega) (by omega)
 have hM1:=k1.at' _ _ (by simp) hM
 obtain⟨w,l,r,g2,e2,W2,w1,w2,w3,k2⟩:=Qmk (σ:=[some (.ref M),some d,some (.int steps),some (.int k),none,none,none]) hM1 (h.mono k1) (by omega) rfl rfl
 have hn:=Qd5 h.R' T.m0
 have ho:OkN n m ⟨st,L,Qx R,Qw R 1⟩:=⟨h.s',hn.1,hn.2,h.L',YC h.R'⟩
 have hdl:=Jy R 1
 obtain⟨g3,k3,y3⟩:=Qe3 (M:=M) (d:=d) (steps:=steps) (most:=k) T k _ g2 0 0 0 ho W2 (by omega) (by dsimp only;omega)
 simp only[Int.sub_zero]at y3
 have hk3:Keeps [] g g3:=(k1.trans k2).over k3 (λx hx=>by have:=k1.len;simp at hx;rcases hx with rfl|rfl|rfl <;> omega)
 have hpre:∀R',mSeq (Qcc Qhw QE) (mRet (mOpA pTup (Qb (QcV 13 (Str.ofString "row") Z5 (mVar 4) mNil) (Qb (ZU [13] "moved" (mVar 4)) (Qb (mVar 5) (Qb (mVar 6) mNil)))))) (Jl M d steps k w 0 0) g2=R'->Qay [some (.ref M),some d,some (.int steps),some (.int k),none,none,none] g=R':=λR' hR=>by
  unfold Qay
  exact Qg _ g1 (by simp[e1]) (Qg [some (.ref M),some d,some (.int steps),some (.int k),some (.ref w),none,none] g2 (Zc e2) (Qg [some (.ref M),some d,some (.int steps),some (.int k),some (.ref w),some (.int 0),none] g2 rfl (Qg (Jl M d steps k w 0 0) g2 rfl hR)))
 cases hr:runN rows k ⟨st,L,Qx R,Qw R 1⟩ steps with
 |none =>
  rw[hr]at y3
  obtain⟨σ',y3⟩:=y3
  exact⟨g3,hk3,QeU rfl (hpre _ (Qcy (QbZ y3 (by intro z;cases z))))⟩
 |some q =>
  rw[hr]at y3
  obtain⟨y4,W3,hln⟩:=y3
  try dsimp only at hln
  obtain⟨a',b',g4,e4,k4,l1,l2,a4,b4⟩:=Qok W3 (by omega)
  have h3:=QeZ T k _ steps q ho
  have hq:OkN n m q.1:=by
   by_cases z:0<=steps
   ·exact(h3 z hr).1
   ·rw[Jk (by omega)]at hr;cases hr;exact ho
  refine⟨g4,hk3.trans k4,a',b',QX rfl (hpre _ (Qg _ g3 (QbZ y4 (by intro z;cases z)) ?_)),⟨rfl,a4,b4,hq.L,Jx hq.R hq.o0 hq.o1,hq.st⟩,by omega⟩
  have hw:=W3.w'
  unfold fwO at hw
  have hw4:=k4.at' _ _ (by simp) hw
  unfold Jl
  simp[hw,e4,hw4,pTup,SZ]
inductive Sm(g:G):Nat->D->D->Prop
 |int (f:Nat) (i:Int):Sm g (f+1) (.int i) (.int i)
 |seq (f:Nat) (x y:D) (b:Bool) (xs ys:List D) (h1:Qv g x=some (b,xs)) (h2:Qv g y=some (b,ys)) (hl:xs.length=ys.length) (hz:xs.length<=1000) (hi:∀(i:Nat) u v,xs[i]?=some u->ys[i]?=some v->Sm g f u v):Sm g (f+1) x y
theorem Ys{g g1:G}{x:D}{p:Bool×List D}(h:Qv g x=some p)(k:Keeps [] g g1):Qv g1 x=some p:=by
 cases x with
 |ref n =>
  unfold Qv at h ⊢
  dsimp only at h ⊢
  cases hg:g[n]? with
  |none=>rw[hg]at h;cases h
  |some o =>
   rw[hg]at h
   rw[k.at' _ _ (by simp) hg]
   exact h
 |_=>exact h
theorem QgH{g:G}{x:D}{b:Bool}{xs:List D}(h:Qv g x=some (b,xs)):tyOf g x=some (if b then .list else .tuple):=by
 cases x with
 |ref n =>
  unfold Qv at h
  unfold tyOf
  dsimp only at h ⊢
  cases hg:g[n]? with
  |none=>rw[hg]at h;cases h
  |some o =>
   rw[hg]at h
   cases o with
   |lst ds=>cases h;rfl
   |_=>cases h
 |tup ds=>cases h;rfl
 |fl ds=>cases h;rfl
 |_=>cases h
theorem Qi4{g:G}{x:D}{b:Bool}{xs:List D}(h:Qv g x=some (b,xs)):pLen x g=.ok (.int xs.length) g:=by
 cases x with
 |ref n =>
  unfold Qv at h
  unfold pLen
  dsimp only at h ⊢
  cases hg:g[n]? with
  |none=>rw[hg]at h;cases h
  |some o =>
   rw[hg]at h
   cases o with
   |lst ds=>cases h;rfl
   |_=>cases h
 |tup ds=>cases h;rfl
 |fl ds=>cases h;rfl
 |_=>cases h
theorem QgI:∀n:Nat,allB (List.replicate n (.bl true))=some true
 |0=>rfl
 |n+1=>by rw[U0];unfold allB;rw[QgI n];rfl
theorem QfJ{g:G}:∀{f:Nat}{x y:D},Sm g f x y->∀g1,Keeps [] g g1->∃g2,ZB f [x,y] g1=.ok (.bl true) g2/\Keeps [] g1 g2
 |0,_,_,h,_,_=>by cases h
 |f+1,x,y,h,g1,k=>by
  cases h with
  |int _ i =>
   refine⟨g1,QX rfl ?_,.refl⟩
   show QaV (ZB f) [some (.int i),some (.int i)] g1=_
   unfold QaV
   refine Qg [some (.int i),some (.int i)] g1 rfl (Qg [some (.int i),some (.int i)] g1 rfl (Qg [some (.int i),some (.int i)] g1 rfl (Qdl ?_)))
   have e:pEq (.int i) (.int i) g1=.ok (.bl true) g1:=by unfold pEq eqT;dsimp only;rw[Wd]
   show mOp2 pEq (mVar 0) (mVar 1) [some (.int i),some (.int i)] g1=_
   exact Qa0 (x:=.int i) (y:=.int i) (g1:=g1) (g2:=g1) rfl rfl e
  |seq _ _ _ b xs ys h1 h2 hl hz hi =>
   have s1:=Ys h1 k
   have s2:=Ys h2 k
   obtain⟨src,e1,e2,e3⟩:=Qme s1 s2 hl
   obtain⟨ds,σ',g2,c1,c2,c3,_⟩:=Yd (src:=src) (t:=Yh [gSet 0,gSet 1]) (c:=YJ) (e:=Qn (ZB f) (Qb (mVar 0) (Qb (mVar 1) mNil))) (n:=xs.length)
    (λi σ' g4 acc=>acc=List.replicate i (.bl true)/\Keeps [] g1 g4/\∃u v,σ'=[u,v]) (λi σ' g4 acc hi' hQ=>by
     obtain⟨q1,q2,u,v,q3⟩:=hQ
     subst q3
     have hy:i<ys.length:=by omega
     obtain⟨g5,a1,a2⟩:=QfJ (hi i xs[i] ys[i] (by simp[hi']) (by simp[hy])) g4 (k.trans q2)
     refine⟨.tup [xs[i],ys[i]],[some xs[i],some ys[i]],g4,(e3 g4 (Ys s1 q2) (Ys s2 q2)).2 i _ _ (by simp[hi']) (by simp[hy]),rfl,.inl ⟨.bl true,g5,rfl,?_,?_,q2.trans a2,_,_,rfl⟩⟩
     ·rw[QR (ds:=[xs[i],ys[i]]) (g':=g4) rfl];exact a1
     ·rw[q1,List.replicate_succ']) (λσ g4 acc hQ=>(e3 g4 (Ys s1 hQ.2.1) (Ys s2 hQ.2.1)).1) (src.top+1) 0 [none,none] g1 [] (by omega) (by omega) ⟨rfl,.refl,none,none,rfl⟩
   subst c2
   have c4:=Qd3 (it:=Qbx (mVar 0) (mVar 1)) (n:=2) (cap:=[]) (σ:=[some x,some y]) (t:=Yh [gSet 0,gSet 1]) (c:=YJ) (σ0:=[none,none]) (g:=g1) (by
    unfold Qbx
    rw[show mVar 0 [some x,some y] g1=.ok x g1 from rfl,Res.bind_ok,show mVar 1 [some x,some y] g1=.ok y g1 from rfl,Res.bind_ok]
    exact e1) (by rw[e2];exact U3 (QiT hz)) rfl c1
   have kk:Keeps [] g2 (g2++[.lst (List.replicate xs.length (.bl true))]):=.push _
   refine⟨_,QX rfl ?_,c3.trans kk⟩
   show QaV (ZB f) [some x,some y] g1=_
   have ty1:=QgH s1
   have ty2:=QgH s2
   have is0:∀c:Ty,mOp1 (ZV c) (mVar 0) [some x,some y] g1=.ok (.bl (tyLe (if b then .list else .tuple) c)) g1:=λc=>Ji (x:=x) (g1:=g1) rfl (by unfold ZV;rw[ty1])
   have is1:∀c:Ty,mOp1 (ZV c) (mVar 1) [some x,some y] g1=.ok (.bl (tyLe (if b then .list else .tuple) c)) g1:=λc=>Ji (x:=y) (g1:=g1) rfl (by unfold ZV;rw[ty2])
   have ne:∀c:Ty,Qk (mOp2 pNe (mOp1 (ZV c) (mVar 0)) (mOp1 (ZV c) (mVar 1))) [some x,some y] g1=.ok false g1:=λc=>Jw (Qa0 (is0 c) (is1 c) (by unfold pNe neT;dsimp only;rw[Wd];rfl))
   have t1:mOrT (Qk (mOp1 (ZV .list) (mVar 1))) (Qk (mOp1 (ZV .tuple) (mVar 1))) [some x,some y] g1=.ok true g1:=by
    unfold mOrT
    rw[Jw (is1 .list),Res.bind_ok,Jw (is1 .tuple)]
    cases b <;> rfl
   have e5:mOp2 pEq (mOp1 pLen (mVar 0)) (mOp1 pLen (mVar 1)) [some x,some y] g1=.ok (.bl true) g1:=Qa0 (x:=.int xs.length) (y:=.int ys.length) (g1:=g1) (g2:=g1) (Ji (x:=x) (g1:=g1) rfl (Qi4 s1)) (Ji (x:=y) (g1:=g1) rfl (Qi4 s2)) (by unfold pEq eqT;dsimp only;rw[hl,Wd])
   unfold QaV
   refine Qgz (ift g1 t1 (Qg [some x,some y] g1 (iff' g1 (Qn7 (ne .list) (ne .tuple)) rfl) (Qdl ?_)))
   unfold mAnd
   rw[e5,Res.bind_ok]
   dsimp only
   rw[Ud rfl]
   refine Ji c4 ?_
   unfold pAll
   dsimp only
   rw[QW]
   dsimp only
   rw[QgI]
theorem Qi5(g:G)(f:Nat)(p:Int×Int):Sm g (f+2) (stD p) (stD p):=.seq _ _ _ false [.int p.1,.int p.2] [.int p.1,.int p.2] rfl rfl rfl (by simp) (λi u v h1 h2=>by
 match i,h1,h2 with
 |0,h1,h2=>cases h1;cases h2;exact .int _ _
 |1,h1,h2=>cases h1;cases h2;exact .int _ _
 |i+2,h1,_=>simp at h1)
theorem Qi6{g:G}{f:Nat}{x y:D}{b:Bool}{M:List (Int×Int)}(h1:Qv g x=some (b,M.map stD))(h2:Qv g y=some (b,M.map stD))(hz:M.length<=1000):Sm g (f+3) x y:=.seq _ _ _ b _ _ h1 h2 rfl (by rw[Ur];exact hz) (λi u v e1 e2=>by
 rw[e1]at e2
 cases e2
 rw[Uy]at e1
 cases hm:M[i]? with
 |none=>rw[hm]at e1;cases e1
 |some p=>rw[hm]at e1;cases e1;exact Qi5 g f p)
theorem Qks{f:Nat}{g:G}{a b c d:Nat}{st:Int}{L R:Sts}(ha:g[a]?=some (.lst (stsD L)))(hb:g[b]?=some (.lst (stsD R)))(hc:g[c]?=some (.lst (stsD L)))(hd:g[d]?=some (.lst (stsD R)))(hL:L.length<=1000)(hR:R.length<=1000):
  Sm g (f+4) (.tup [.int st,.ref a,.ref b]) (.tup [.int st,.ref c,.ref d]):=.seq _ _ _ false _ _ rfl rfl rfl (by simp) (λi u v h1 h2=>by
 match i,h1,h2 with
 |0,h1,h2=>cases h1;cases h2;exact .int _ _
 |1,h1,h2=>cases h1;cases h2;exact Qi6 (f:=f) (ZY ha) (ZY hc) hL
 |2,h1,h2=>cases h1;cases h2;exact Qi6 (f:=f) (ZY hb) (ZY hd) hR
 |i+3,h1,_=>simp at h1)
theorem QgJ(k j:DK)(v:D):∀ks:List (DK×D),dGet (ks.map λp=>if p.1=k then (p.1,v) else p) j=(dGet ks j).map λx=>if j=k then v else x
 |[]=>rfl
 |p::r=>by
  have ih:=QgJ k j v r
  unfold dGet at ih ⊢
  rw[UI,UO,UO]
  by_cases h:p.1=j
  ·have e:decide ((if p.1=k then (p.1,v) else p).1=j)=true:=by split <;> exact UC h
   rw[e,UC h]
   subst h
   by_cases hk:p.1=k <;> simp[hk]
  ·have e:decide ((if p.1=k then (p.1,v) else p).1=j)=false:=by split <;> exact UB h
   rw[e,UB h]
   exact ih
theorem Qeb(k:DK):∀ks:List (DK×D),(ks.any λp=>decide (p.1=k))=(dGet ks k).isSome
 |[]=>rfl
 |p::r=>by
  have ih:=Qeb k r
  unfold dGet at ih ⊢
  rw[TV,UO]
  by_cases h:p.1=k
  ·rw[UC h];rfl
  ·rw[UB h];exact ih
theorem QgK(k j:DK)(v:D):∀ks:List (DK×D),dGet ks k=none->dGet (ks++[(k,v)]) j=if j=k then some v else dGet ks j
 |[],_=>by
  unfold dGet
  by_cases h:j=k
  ·subst h;simp
  ·simp[h,Ne.symm h]
 |p::r,hn=>by
  have hp:¬p.1=k:=λh=>by unfold dGet at hn;rw[UO,UC h]at hn;cases hn
  have hr:dGet r k=none:=by unfold dGet at hn ⊢;rw[UO,UB hp]at hn;exact hn
  have ih:=QgK k j v r hr
  unfold dGet at ih ⊢
  rw[Wf,UO,UO]
  by_cases h:p.1=j
  ·rw[UC h,Ue (λz=>hp (h.trans z))]
  ·rw[UB h];exact ih
theorem Qec(ks:List (DK×D))(k j:DK)(v:D):dGet (dPut ks k v) j=if j=k then some v else dGet ks j:=by
 unfold dPut
 rw[Qeb]
 cases h:dGet ks k with
 |none=>rw[Ue (by simp)];exact QgK k j v ks h
 |some x =>
  rw[Ud (show(some x).isSome=true from rfl),QgJ]
  by_cases e:j=k
  ·subst e;rw[h];simp
  ·simp[e]
theorem Qe4(k j:DK):∀ks:List (DK×D),dGet (QbI ks k) j=if j=k then none else dGet ks j
 |[]=>by unfold dGet QbI;split <;> rfl
 |p::r=>by
  have ih:=Qe4 k j r
  unfold dGet QbI at ih ⊢
  rw[TW]
  by_cases h:p.1=k
  ·rw[Ue (by simp[h]),ih,UO]
   by_cases e:j=k
   ·rw[Ud e,Ud e]
   ·rw[Ue e,Ue e,UB (λz=>e (z.symm.trans h))]
  ·rw[Ud (by simp[h]),UO,UO]
   by_cases e:p.1=j
   ·rw[UC e,Ue (λz=>h (e.trans z))]
   ·rw[UB e];exact ih
theorem QgL(ks:List (DK×D))(k:DK)(v:D):(dPut ks k v).length<=ks.length+1:=by
 unfold dPut;split <;> simp
theorem Qi7(ks:List (DK×D))(k:DK):(QbI ks k).length<=ks.length:=Wb _ _
theorem QgM(k:DK)(v:D):∀ks:List (DK×D),Yn (ks.map λp=>if p.1=k then (p.1,v) else p)=Yn ks
 |[]=>rfl
 |p::r=>by
  have ih:=QgM k v r
  obtain⟨q,w⟩:=p
  rw[UI]
  by_cases h:q=k
  ·rw[Ud h]
   cases q with
   |inl i=>show(Yn _).map _=(Yn r).map _;rw[ih]
   |inr s=>rfl
  ·rw[Ue h]
   cases q with
   |inl i=>show(Yn _).map _=(Yn r).map _;rw[ih]
   |inr s=>rfl
theorem QgN(x:Int)(v:D):∀{ks:List (DK×D)}{is:List Int},Yn ks=some is->Yn (ks++[(.inl x,v)])=some (is++[x])
 |[],_,h=>by cases h;rfl
 | (.inl i,_)::r,is,h=>by
  have h:(Yn r).map (i :: ·)=some is:=h
  obtain⟨js,h1,h2⟩:=Rj.mp h
  show(Yn (r++_)).map (i :: ·)=_
  rw[QgN x v h1,<-h2];rfl
theorem Qe5(x:Int):∀{ks:List (DK×D)}{is:List Int},Yn ks=some is->Yn (QbI ks (.inl x))=some (is.filter λi=>decide (i≠x))
 |[],_,h=>by cases h;rfl
 | (.inl i,_)::r,is,h=>by
  have h:(Yn r).map (i :: ·)=some is:=h
  obtain⟨js,h1,h2⟩:=Rj.mp h
  have ih:=Qe5 x h1
  subst h2
  unfold QbI at ih ⊢
  rw[TW,TW]
  by_cases e:i=x
  ·subst e
   rw[Ue (by simp),Ue (by simp)];exact ih
  ·rw[Ud (by simp[e]),Ud (by simp[e])]
   show(Yn _).map (i :: ·)=_
   rw[ih];rfl
structure DF(ks:List (DK×D))(f:Int->Int):Prop where
 get:∀x,dGet ks (.inl x)=if f x=0 then none else some (.int (f x))
 keys:∃is,Yn ks=some is/\is.Nodup/\∀x,x∈is↔f x≠0
theorem df0:DF [] (λ_=>0):=⟨λ_=>rfl,[],rfl,.nil,λx=>by simp⟩
theorem DF.getD{ks:List (DK×D)}{f:Int->Int}(h:DF ks f)(x:Int):(dGet ks (.inl x)).getD (.int 0)=.int (f x):=by
 rw[h.get]
 by_cases z:f x=0
 ·rw[Ud z,z];rfl
 ·rw[Ue z];rfl
noncomputable def putC(ks:List (DK×D))(x:Int)(a:Int):List (DK×D):=if a=0 then QbI (dPut ks (.inl x) (.int a)) (.inl x) else dPut ks (.inl x) (.int a)
theorem Qkt(ks:List (DK×D))(x a:Int):(putC ks x a).length<=ks.length+1:=by
 unfold putC
 split
 ·exact Ut (Qi7 _ _) (QgL _ _ _)
 ·exact QgL _ _ _
theorem DF.put{ks:List (DK×D)}{f:Int->Int}{x a:Int}(h:DF ks f):DF (putC ks x a) (updF f x a):=by
 obtain⟨is,k1,k2,k3⟩:=h.keys
 have hinj:∀y:Int,((Sum.inl y:DK)=.inl x)↔y=x:=λy=>⟨λz=>by injection z,λz=>by rw[z]⟩
 have kput:∃js,Yn (dPut ks (.inl x) (.int a))=some js/\js.Nodup/\∀y,y∈js↔(y=x\/y∈is):=by
  unfold dPut
  rw[Qeb,h.get]
  by_cases z:f x=0
  ·rw[Ud z,Ue (by simp)]
   have hx:x∉is:=λhm=>(k3 x).mp hm z
   refine⟨is++[x],QgN x _ k1,?_,λy=>by simp[or_comm]⟩
   rw[List.nodup_append]
   refine⟨k2,by simp,λu hu v hv e=>hx ?_⟩
   have hv:v=x:=by simpa using hv
   rw[<-hv,<-e];exact hu
  ·rw[Ue z,Ud (by simp)]
   have hx:x∈is:=(k3 x).mpr z
   exact⟨is,by rw[QgM];exact k1,k2,λy=>⟨.inr,λo=>o.elim (λe=>e ▸ hx) id⟩⟩
 obtain⟨js,j1,j2,j3⟩:=kput
 unfold putC
 by_cases ha:a=0
 ·rw[Ud ha]
  refine⟨λy=>?_,js.filter λi=>decide (i≠x),Qe5 x j1,j2.filter _,λy=>?_⟩
  ·rw[Qe4,Qec]
   unfold updF
   by_cases e:y=x
   ·rw[Ud ((hinj y).mpr e),Ud e,Ud ha]
   ·rw[Ue (λz=>e ((hinj y).mp z)),Ue (λz=>e ((hinj y).mp z)),Ue e];exact h.get y
  ·rw[RC,j3,k3]
   unfold updF
   by_cases e:y=x
   ·simp[e,ha]
   ·simp[e]
 ·rw[Ue ha]
  refine⟨λy=>?_,js,j1,j2,λy=>?_⟩
  ·rw[Qec]
   unfold updF
   by_cases e:y=x
   ·rw[Ud ((hinj y).mpr e),Ud e,Ue ha]
   ·rw[Ue (λz=>e ((hinj y).mp z)),Ue e];exact h.get y
  ·rw[j3,k3]
   unfold updF
   by_cases e:y=x
   ·simp[e,ha]
   ·simp[e]
def UpP(M:List (Int×Int)):Prop:=M.Pairwise λa b=>a.1<b.1
structure MkF(M:List (Int×Int))(f:Int->Int):Prop where
 up:UpP M
 mem:∀x s,(x,s)∈M↔s=f x/\s≠0
theorem Qk4:∀{M N:List (Int×Int)},UpP M->UpP N->(∀p,p∈M↔p∈N)->M=N
 |[],[],_,_,_=>rfl
 |[],q::N,_,_,h=>by have:=(h q).mpr (Uu ..);simp at this
 |p::M,[],_,_,h=>by have:=(h p).mp (Uu ..);simp at this
 |p::M,q::N,hM,hN,h=>by
  have hM':=TB.mp hM
  have hN':=TB.mp hN
  have e:p=q:=by
   rcases UE.mp ((h p).mp (Uu ..)) with e|e
   ·exact e
   ·rcases UE.mp ((h q).mpr (Uu ..)) with e'|e'
    ·exact e'.symm
    ·have a:=hN'.1 p e;have b:=hM'.1 q e';omega
  subst e
  congr 1
  refine Qk4 hM'.2 hN'.2 λr=>⟨λhr=>?_,λhr=>?_⟩
  ·rcases UE.mp ((h r).mp (Uv _ hr)) with e|e
   ·subst e;have:=hM'.1 r hr;omega
   ·exact e
  ·rcases UE.mp ((h r).mpr (Uv _ hr)) with e|e
   ·subst e;have:=hN'.1 r hr;omega
   ·exact e
theorem MkF.uniq{M N:List (Int×Int)}{f:Int->Int}(h:MkF M f)(h':MkF N f):M=N:=Qk4 h.up h'.up λp=>by rw[h.mem,h'.mem]
theorem DF.marks{ks:List (DK×D)}{f:Int->Int}{is:List Int}(h:DF ks f)(hk:Yn ks=some is):MkF ((QG is).map λx=>(x,f x)) f:=by
 obtain⟨js,k1,k2,k3⟩:=h.keys
 rw[hk]at k1
 cases k1
 have hp:=QH is
 have hs:=YR is
 have hn:(QG is).Nodup:=hp.nodup_iff.mpr k2
 refine⟨?_,λx s=>?_⟩
 ·unfold UpP
  rw[RT]
  have:=hs.and hn
  exact this.imp λ⟨a,b⟩=>by show _<_;omega
 ·rw[Ry]
  constructor
  ·rintro ⟨y,hy,e⟩
   cases e
   exact⟨rfl,(k3 x).mp (hp.mem_iff.mp hy)⟩
  ·rintro ⟨rfl,h0⟩
   exact⟨x,hp.mem_iff.mpr ((k3 x).mpr h0),rfl⟩
theorem Qb0:∀{ks:List (DK×D)}{is:List Int},Yn ks=some is->is.length=ks.length
 |[],_,h=>by cases h;rfl
 | (.inl i,_)::r,is,h=>by
  have h:(Yn r).map (i :: ·)=some is:=h
  obtain⟨js,h1,h2⟩:=Rj.mp h
  subst h2
  simp[Qb0 h1]
noncomputable def QL:Sts->Int->Int->List (Int×Int)
 |[],_,_=>[]
 | (sg,k)::r,x,w=>(if sg=0 then [] else (List.range k.toNat).map λi:Nat=>(x+w*(i:Int),sg))++QL r (x+w*k) w
theorem YF{m:Int}{w:Int}:∀{side:Sts}{x y s:Int},Q9 m side->((y,s)∈QL side x w↔∃i:Nat,y=x+w*i/\s=QA side i/\s≠0)
 |[],x,y,s,_=>by
  simp[QL,QA]
 | (t,k)::r,x,y,s,h=>by
  have hk:=h.2.2.1
  have ih:=YF (w:=w) (side:=r) (x:=x+w*k) (y:=y) (s:=s) h.2.2.2.2
  unfold QL
  rw[UX,ih]
  constructor
  ·rintro (hm|⟨i,e1,e2,e3⟩)
   ·by_cases t0:t=0
    ·rw[Ud t0]at hm;simp at hm
    ·rw[Ue t0]at hm
     obtain⟨i,hi,e⟩:=Ry.mp hm
     have hi:=Tu.mp hi
     cases e
     exact⟨i,rfl,by unfold QA;rw[Ud (by omega)],t0⟩
   ·refine⟨k.toNat+i,?_,?_,e3⟩
    ·rw[e1,Bj,TN (by omega),Int.mul_add];omega
    ·rw[e2,QA,Ue (by omega)];congr 1;omega
  ·rintro ⟨i,e1,e2,e3⟩
   rw[QA]at e2
   by_cases z:(i:Int)<k
   ·rw[Ud z]at e2
    subst e2
    left
    rw[Ue e3,e1]
    exact Ry.mpr ⟨i,Tu.mpr (by omega),rfl⟩
   ·rw[Ue z]at e2
    right
    refine⟨i-k.toNat,?_,e2,e3⟩
    rw[e1,show((i-k.toNat:Nat):Int)=(i:Int) - k by omega,Int.mul_sub];omega
theorem up_r{m:Int}:∀{side:Sts}{x:Int},Q9 m side->UpP (QL side x 1)
 |[],_,_=>.nil
 | (t,k)::r,x,h=>by
  have hk:=h.2.2.1
  unfold QL UpP
  rw[U5]
  refine⟨?_,up_r h.2.2.2.2,λa ha b hb=>?_⟩
  ·split
   ·exact .nil
   ·rw[RT];exact List.pairwise_lt_range.imp λhab=>by show _<_;omega
  ·split at ha
   ·simp at ha
   ·obtain⟨i,hi,rfl⟩:=Ry.mp ha
    have hi:=Tu.mp hi
    obtain⟨j,e,_⟩:=(YF (y:=b.1) (s:=b.2) h.2.2.2.2).mp hb
    show _<b.1
    rw[e];dsimp only;omega
theorem up_l{m:Int}:∀{side:Sts}{x:Int},Q9 m side->(QL side x (-1)).Pairwise λa b=>b.1<a.1
 |[],_,_=>.nil
 | (t,k)::r,x,h=>by
  have hk:=h.2.2.1
  unfold QL
  rw[U5]
  refine⟨?_,up_l h.2.2.2.2,λa ha b hb=>?_⟩
  ·split
   ·exact .nil
   ·rw[RT];exact List.pairwise_lt_range.imp λhab=>by show _<_;omega
  ·split at ha
   ·simp at ha
   ·obtain⟨i,hi,rfl⟩:=Ry.mp ha
    have hi:=Tu.mp hi
    obtain⟨j,e,_⟩:=(YF (y:=b.1) (s:=b.2) h.2.2.2.2).mp hb
    show b.1<_
    rw[e];dsimp only;omega
theorem Qi8{n m:Nat}{S:RowN}{c:Cn}(ho:OkN n m S)(h:RF S c):MkF ((QL S.L (c.pl-1) (-1)).reverse++QL (putN S.R S.own 1) c.pl 1) c.f:=by
 have hR:=Jx (c:=1) ho.R ho.o0 ho.o1
 have cR:∀i:Nat,c.f (c.pl+i)=QA (putN S.R S.own 1) i:=λi=>by
  cases i with
  |zero=>rw[(YW ho.R).1,<-h.own];simp
  |succ i=>rw[(YW ho.R).2,<-h.R];congr 1;omega
 refine⟨?_,λx s=>?_⟩
 ·unfold UpP
  rw[U5]
  refine⟨List.pairwise_reverse.mpr (up_l ho.L),up_r hR,λa ha b hb=>?_⟩
  obtain⟨i,e,_⟩:=(YF (y:=a.1) (s:=a.2) ho.L).mp (List.mem_reverse.mp ha)
  obtain⟨j,e',_⟩:=(YF (y:=b.1) (s:=b.2) hR).mp hb
  omega
 ·rw[UX,List.mem_reverse,YF ho.L,YF hR]
  constructor
  ·rintro (⟨i,e1,e2,e3⟩|⟨i,e1,e2,e3⟩)
   ·exact⟨by rw[e2,<-h.L,e1];congr 1;omega,e3⟩
   ·exact⟨by rw[e2,<-cR,e1];congr 1;omega,e3⟩
  ·rintro ⟨e1,e3⟩
   by_cases z:x<c.pl
   ·left
    refine⟨(c.pl-1-x).toNat,by omega,?_,e3⟩
    rw[<-h.L,e1];congr 1;omega
   ·right
    refine⟨(x-c.pl).toNat,by omega,?_,e3⟩
    rw[<-cR,e1];congr 1;omega
section
variable{σ:S3}{g:G}
@[simp] theorem Qpj{a:MA}{d:D}:QfE a d σ g=(match a σ g with | .ok xs g1=>.ok (xs++[d]) g1 | .raise e g'=>.raise e g' | .stuck=>.stuck):=by unfold QfE Res.bind;cases a σ g <;> rfl
@[simp] theorem QpF{ds:List D}:newL ds g=if ds.length<=SZ then .ok (.ref g.length) (g++[.lst ds]) else .stuck:=rfl
@[simp] theorem Qpk{ds:List D}:pTup ds g=if ds.length<=SZ then .ok (.tup ds) g else .stuck:=rfl
@[simp] theorem Qol:Yi σ g=.ok none g:=rfl
@[simp] theorem Qpl{a:ME}:QaK a σ g=(match a σ g with | .ok (.int i) g1=>.ok (some i) g1 | .raise e g'=>.raise e g'|_=>.stuck):=by unfold QaK Res.bind;cases a σ g with|ok d g1=>cases d <;> rfl|_=>rfl
@[simp] theorem QoA{a:ME}{lo hi:MO}:Jd a lo hi σ g=(match a σ g with
 |.ok x g1=>(match lo σ g1 with
  |.ok l g2=>(match hi σ g2 with | .ok h g3=>QaJ x l h g3 | .raise e g'=>.raise e g' | .stuck=>.stuck)
  |.raise e g'=>.raise e g' | .stuck=>.stuck)
 |.raise e g'=>.raise e g' | .stuck=>.stuck):=by
 unfold Jd Res.bind;cases a σ g with
 |ok x g1=>dsimp only;cases lo σ g1 with
  |ok l g2=>dsimp only;cases hi σ g2 <;> rfl
  |_=>rfl
 |_=>rfl
@[simp] theorem Qe6{i j:Int}(h:0<j):pMod (.int i) (.int j) g=.ok (.int (i%j)) g:=Ud h
theorem JY{i j:Int}(h:0<j)(h2:j<1073741824):Z7 (.int i) (.int j) g=.ok (.int (i/j)) g:=Ud ⟨h,h2⟩
end
theorem Keeps.setNew{S:List Nat}{g g1:G}{s:Nat}{o:GO}(k:Keeps S g g1)(h:g.length<=s):Keeps S g (g1.set s o) :=
 ⟨by have:=k.len;simp;exact this,λn u q e=>by rw[Uk (by have:=ZI e;omega)];exact k.at' n u q e⟩
theorem Qml{n:Nat}(h:n<=100000):inR (n:Int):=⟨by omega,by omega⟩
theorem Qhx{k:Nat}{H:Nat->D}{t:MG}{e:ME}{n:Nat}{cap:List Nat}{σ:S3}{g:G}{a:ME}(hz:k<=100000)(ha:a σ g=.ok (.int k) g)(I:S3->Prop)(h0:I (capt n cap σ))(step:∀i:Nat,i<k->∀σ',I σ'->∃σ1,t (.int i) σ'=some σ1/\I σ1/\e σ1 g=.ok (H i) g):YI (QC a) n cap t YJ e σ g=.ok (.ref g.length) (g++[.lst ((List.range k).map H)]):=by
 obtain⟨ys,σ',g3,c1,c2,c3,_⟩:=Yd (src:=Q8 0 k) (t:=t) (c:=YJ) (e:=e) (n:=k)
  (λi σ' g4 acc=>acc=(List.range i).map H/\g4=g/\I σ') (λi σ' g4 acc hi hQ=>by
   obtain⟨q1,q2,q3⟩:=hQ
   subst q2
   obtain⟨σ1,e1,e2,e3⟩:=step i hi σ' q3
   refine⟨.int i,σ1,g4,by simp[Q8,hi],e1,.inl ⟨H i,g4,rfl,e3,by rw[q1,List.range_succ,Ws];rfl,rfl,e2⟩⟩) (λσ g4 acc hQ=>by simp[Q8]) (k+1) 0 (capt n cap σ) g [] (by omega) (by omega) ⟨rfl,rfl,h0⟩
 subst c2 c3
 exact Qd3 (Jh ha (Qml hz)) (U3 (QbB hz)) rfl c1
noncomputable def nbk:Sts->Nat
 |[]=>0
 | (t,k)::r=>(if t=0 then 0 else k.toNat)+nbk r
theorem Yf(w:Int):∀(side:Sts)(x:Int),(QL side x w).length=nbk side
 |[],_=>rfl
 | (t,k)::r,x=>by unfold QL nbk;rw[Us,Yf w r];split <;> simp
theorem QcG(w:Int):∀(a b:Sts)(x:Int),∃y,QL (a++b) x w=QL a x w++QL b y w/\y=a.foldl (λz p=>z+w*p.2) x
 |[],b,x=>⟨x,rfl,rfl⟩
 | (t,k)::r,b,x=>by
  obtain⟨y,e1,e2⟩:=QcG w r b (x+w*k)
  refine⟨y,?_,e2⟩
  rw[Wf,QL,QL,e1,UG]
noncomputable def mkD(M:List (Int×Int)):List D:=M.map stD
theorem QcH{s:Nat}{side:Sts}{x w:Int}{g:G}(hs:g[s]?=some (.lst (stsD side)))(hw:cM w)(hz:nbk side<=50000)(hn:∀p∈side,0<=p.2):
  ∃r g',Qab [.ref s,.int x,.int w] g=.ok (.ref r) g'/\g'[r]?=some (.lst (mkD (QL side x w)))/\Keeps [] g g':=by
 have k0:Keeps [] g (g++[.lst []]):=.push _
 have r0:=QW (g:=g) (.lst [])
 generalize hr:g.length=r at r0
 have hsr:s≠r:=by have:=ZI hs;omega
 have hnb:∀i,nbk (side.take i)<=nbk side:=λi=>by
  rw[<-Yf 0 _ 0,<-Yf 0 _ 0]
  obtain⟨y,e,_⟩:=QcG 0 (side.take i) (side.drop i) 0
  rw[Tj]at e
  rw[e,Us];omega
 let S:Int->Option D->Option D->S3:=λp y5 y6=>[some (.ref s),some (.int x),some (.int w),some (.ref r),some (.int p),y5,y6]
 obtain⟨σ',g',f1,q1,q2,y5,y6,q3⟩:=Qd0 (src:=srcL s side.length) (t:=Yh [gSet 5,gSet 6]) (body:=Yo) (n:=side.length) (σ:=S x none none) (g:=g++[.lst []]) rfl
  (λi σ g'=>g'[r]?=some (.lst (mkD (QL (side.take i) x w)))/\Keeps [] g g'/\∃y5 y6,σ=S ((side.take i).foldl (λz p=>z+w*p.2) x) y5 y6) ⟨by simpa[mkD,QL]using r0,k0,none,none,rfl⟩ (λi σ g' hi ⟨q1,q2,y5,y6,hσ⟩=>by
   subst hσ
   have hat:(srcL s side.length).at' g' i=some (some (stD side[i])):=by
    show(match g'[s]? with|some (.lst es)=>some es[i]? | _=>none)=_
    rw[q2.at' _ _ (by simp) hs];dsimp only;unfold stsD;rw[Uy,UL hi];rfl
   have htk:side.take (i+1)=side.take i++[side[i]]:=UN hi
   have hn':=hn _ (UK hi)
   have hnb':=hnb (i+1)
   rw[htk]at hnb' ⊢
   generalize side[i]=p at hat hn' hnb' ⊢
   obtain⟨t,k⟩:=p
   generalize hP:(side.take i).foldl (λz p=>z+w*p.2) x=P at *
   obtain⟨y,e1,e2⟩:=QcG w (side.take i) [(t,k)] x
   rw[hP]at e2
   subst e2
   rw[List.foldl_append,hP,e1]
   have hml:=Yf w (side.take i) x
   have hml2:=Yf w (side.take i++[(t,k)]) x
   rw[e1,Us]at hml2
   have hn':0<=k:=hn'
   by_cases t0:t=0
   ·subst t0
    have e3:QL [(0,k)] y w=[]:=by simp[QL]
    rw[e3,UM]
    refine⟨stD (0,k),S y (some (.int 0)) (some (.int k)),S (y+w*k) (some (.int 0)) (some (.int k)),g',hat,rfl,?_,q1,q2,_,_,rfl⟩
    simp[Yo,S,mulL hw]
   ·have e3:QL [(t,k)] y w=(List.range k.toNat).map λi:Nat=>(y+w*(i:Int),t):=by simp[QL,t0]
    have hkl:k.toNat<=50000:=by rw[e3]at hml2;simp at hml2;omega
    have hkk:((k.toNat:Nat):Int)=k:=by omega
    have c1:=Qhx (k:=k.toNat) (H:=λi=>stD (y+w*(i:Int),t)) (t:=gSet 0) (e:=mOpA pTup (Qb (mOp2 pAdd (mVar 2) (mOp2 pMul (mVar 3) (mVar 0))) (Qb (mVar 1) mNil))) (n:=1) (cap:=[5,4,2]) (σ:=S y (some (.int t)) (some (.int k))) (g:=g') (a:=mVar 6) (by omega) (by simp[S,hkk]) (λσ=>∃u,σ=[u,some (.int t),some (.int y),some (.int w)]) ⟨_,rfl⟩ (λi hi σ' ⟨u,hu⟩=>by
     subst hu
     exact⟨[some (.int i),some (.int t),some (.int y),some (.int w)],rfl,⟨_,rfl⟩,by simp[mulL hw,SZ,stD]⟩)
    have kp:Keeps [] g' (g'++[.lst ((List.range k.toNat).map λi:Nat=>stD (y+w*(i:Int),t))]):=.push _
    have gp:=QW (g:=g') (.lst ((List.range k.toNat).map λi:Nat=>stD (y+w*(i:Int),t)))
    have hrl:=ZI q1
    generalize hg2:g'++[GO.lst ((List.range k.toNat).map λi:Nat=>stD (y+w*(i:Int),t))]=g2 at c1 kp gp
    have q4:=kp.at' _ _ (by simp) q1
    have hmd:(mkD (QL (side.take i) x w)).length=nbk (side.take i):=by unfold mkD;rw[Ur,hml]
    refine⟨stD (t,k),S y (some (.int t)) (some (.int k)),S (y+w*k) (some (.int t)) (some (.int k)),g2.set r (.lst (mkD (QL (side.take i) x w)++(List.range k.toNat).map λi:Nat=>stD (y+w*(i:Int),t))),hat,rfl,?_,?_,(q2.trans kp).setNew (by omega),_,_,rfl⟩
    ·unfold Yo
     refine Qg (S y (some (.int t)) (some (.int k))) _ (ift g' (by simp[S,t0]) (Qd2 (d:=.non) (g':=g2.set r (.lst (mkD (QL (side.take i) x w)++(List.range k.toNat).map λi:Nat=>stD (y+w*(i:Int),t)))) ?_)) (by simp[S,mulL hw])
     unfold QfD
     rw[show mVar 3 (S y (some (.int t)) (some (.int k))) g'=.ok (.ref r) g' from rfl,Res.bind_ok]
     dsimp only
     rw[q1]
     dsimp only
     rw[c1,Res.bind_ok]
     dsimp only
     rw[q4,gp]
     dsimp only
     rw[Ud ⟨by omega,by rw[hmd];simp;exact U3 (QbB (by have:=hnb i;omega))⟩]
    ·rw[QK q4,e3];simp[mkD]) (λσ g' ⟨_,q2,_⟩=>by
   show(match g'[s]? with|some (.lst es)=>some es[side.length]? | _=>none)=_
   rw[q2.at' _ _ (by simp) hs];dsimp only;rw[Ta (by simp[stsD])])
 subst q3
 rw[Ri]at q1 f1
 refine⟨r,g',QX rfl (?_:Qbl [some (.ref s),some (.int x),some (.int w),none,none,none,none] g=_),q1,q2⟩
 unfold Qbl
 refine Qg [some (.ref s),some (.int x),some (.int w),some (.ref r),none,none,none] (g++[.lst []]) (by rw[<-hr];simp[SZ]) (Qg (S x none none) (g++[.lst []]) rfl (Qg (S (side.foldl (λz p=>z+w*p.2) x) y5 y6) g' ?_ rfl))
 have hit:QO (mVar 0) (S x none none) (g++[.lst []])=.ok (srcL s side.length) (g++[.lst []]):=by
  unfold QO
  rw[show mVar 0 (S x none none) (g++[.lst []])=.ok (.ref s) (g++[.lst []]) from rfl,Res.bind_ok]
  unfold Qak
  dsimp only
  rw[k0.at' _ _ (by simp) hs]
  dsimp only
  rw[show(stsD side).length=side.length by simp[stsD]]
  try rfl
 rw[Qap hit]
 exact f1
noncomputable def QbL(c:Cn)(M:List (Int×Int)):D:=.tup [.int c.st,.int c.pl,.tup (mkD M)]
theorem Qhy{n m:Nat}{g:G}{S:RowN}{c:Cn}{a b:Nat}{M:List (Int×Int)}(ho:OkN n m S)(h:RF S c)(hM:MkF M c.f)(hl:M.length<=40000)(hr:StR n m g (.tup [.int S.st,.ref a,.ref b]) S.st S.L (putN S.R S.own 1) a b)(zL:S.L.length<80000)(zR:S.R.length<80000):
  ∃g',Qcs [.tup [.int S.st,.ref a,.ref b],.int c.pl] g=.ok (QbL c M) g'/\Keeps [] g g':=by
 have hp:=JX S.R S.own 1
 have hmk:=(Qi8 ho h).uniq hM
 have hlen:=Rz List.length hmk
 rw[Us,Re,Yf,Yf]at hlen
 obtain⟨g1,e1,k1⟩:=QcF hr (by omega) (by omega)
 have h1:=hr.mono k1
 obtain⟨u,g2,e2,u2,k2⟩:=QcH (x:=c.pl-1) (w:=-1) h1.a' ⟨by decide,by decide⟩ (by omega) (λp hp=>by have:=QcD ho.L hp;omega)
 obtain⟨v,g3,e3,v3,k3⟩:=QcH (x:=c.pl) (w:=1) (h1.mono k2).b' ⟨by decide,by decide⟩ (by omega) (λp hp=>by have:=QcD hr.R' hp;omega)
 have u3:=k3.at' _ _ (by simp) u2
 refine⟨g3,QX rfl (?_:Qcr [some (.tup [.int S.st,.ref a,.ref b]),some (.int c.pl),none,none] g=_),(k1.trans k2).trans k3⟩
 unfold Qcr
 refine Qg [some (.tup [.int S.st,.ref a,.ref b]),some (.int c.pl),none,none] g1 (by simp[e1]) (Qg [some (.tup [.int S.st,.ref a,.ref b]),some (.int c.pl),some (.ref u),none] g2 (by simp[e2]) (Qg [some (.tup [.int S.st,.ref a,.ref b]),some (.int c.pl),some (.ref u),some (.ref v)] g3 (by simp[e3]) ?_))
 have t1:JR (.ref u) g3=.ok (.tup (mkD (QL S.L (c.pl-1) (-1)).reverse)) g3:=by unfold JR;rw[ZY u3];simp[mkD]
 have t2:YO (.ref v) g3=.ok (.tup (mkD (QL (putN S.R S.own 1) c.pl 1))) g3:=by simp[YO,v3]
 have t3:pAdd (.tup (mkD (QL S.L (c.pl-1) (-1)).reverse)) (.tup (mkD (QL (putN S.R S.own 1) c.pl 1))) g3=.ok (.tup (mkD M)) g3:=by
  unfold pAdd
  dsimp only
  rw[Ud (by simp only[mkD,Ur,Re,Yf];exact U3 (QbB (by omega)))]
  rw[<-hmk];simp[mkD]
 simp[t1,t2,t3,SZ,QbL,h.st]
theorem QgO(rows:List (List D)):RF ⟨0,[],0,[]⟩ ⟨0,0,λ_=>0⟩:=⟨rfl,rfl,λ_=>rfl,λ_=>rfl⟩
noncomputable def c0:Cn:=⟨0,0,λ_=>0⟩
theorem Qb1{rows:List (List D)}{n m:Nat}(T:Tb rows n m):OkN n m ⟨0,[],0,[]⟩:=⟨T.n0,UZ _,by have:=T.m0;show(0:Int)<m;omega,trivial,trivial⟩
theorem Qku{rows:List (List D)}{n m M k w:Nat}{steps:Int}{g:G}(T:Tb rows n m)(hM:g[M]?=some (Jv rows))(hs:steps=(w:Int)\/(steps<0/\w=0))(hw:min k w<70000):
  ∃g',Keeps [] g g'/\(match runN rows k ⟨0,[],0,[]⟩ (w:Nat) with
   |none=>Yc [.ref M,.int steps,.int k] g=.raise (6,none) g'
   |some q=>∀Mk,MkF Mk (runF rows w c0).1.f->Mk.length<=40000->∃g2,Keeps [] g g2/\Yc [.ref M,.int steps,.int k] g=.ok (.tup [QbL (runF rows w c0).1 Mk,.int (runF rows w c0).2]) g2):=by
 have hr0:runN rows k ⟨0,[],0,[]⟩ steps=runN rows k ⟨0,[],0,[]⟩ (w:Nat):=by
  rcases hs with rfl|⟨h,rfl⟩
  ·rfl
  ·rw[Jk (by omega),Jk (by simp)]
 have hm:min k steps.toNat<70000:=by rcases hs with rfl|⟨h,rfl⟩ <;> omega
 have kp:Keeps [] g (g++[.lst []]++[.lst []]):=(Keeps.push _).trans (.push _)
 have hS:StR n m (g++[.lst []]++[.lst []]) (.tup [.int (0:Nat),.ref g.length,.ref (g++[GO.lst []]).length]) 0 [] [] g.length (g++[GO.lst []]).length:=⟨rfl,by rw[UG];exact gt0,QW _,trivial,trivial,T.n0⟩
 have hM1:=kp.at' _ _ (by simp) hM
 obtain⟨g1,k1,y1⟩:=Qi3 (k:=k) (steps:=steps) T hM1 hS (by simp;omega)
 have hro:runN rows k ⟨0,[],Qx [],Qw [] 1⟩ steps=runN rows k ⟨0,[],0,[]⟩ steps:=rfl
 rw[hro,hr0]at y1
 refine⟨g1,kp.trans k1,?_⟩
 have e0:(Qb (mVar 0) (Qb (mOpA pTup (Qb (mLit (.int 0)) (Qb (mOpA newL mNil) (Qb (mOpA newL mNil) mNil)))) (Qb (mVar 1) (Qb (mVar 2) mNil)))) [some (.ref M),some (.int steps),some (.int k),none] g=.ok [.ref M,.tup [.int (0:Nat),.ref g.length,.ref (g++[GO.lst []]).length],.int steps,.int k] (g++[.lst []]++[.lst []]):=by simp[SZ]
 cases hr:runN rows k ⟨0,[],0,[]⟩ (w:Nat) with
 |none =>
  rw[hr]at y1
  refine QeU (σ:=[some (.ref M),some (.int steps),some (.int k),none]) rfl (?_:Yb [some (.ref M),some (.int steps),some (.int k),none] g=_)
  unfold Yb
  refine Qcy ?_
  unfold mAsg
  rw[QR e0,y1]
 |some q =>
  rw[hr]at y1
  obtain⟨a',b',e1,e2,e3⟩:=y1
  intro Mk hMk hMl
  obtain⟨z1,z2,z3⟩:=Qac T w k _ c0 q (Qb1 T) (QgO rows) hr
  have hoq:OkN n m q.1:=(QeZ T k _ (w:Nat) q (Qb1 T) (by omega) hr).1
  have e3':q.1.L.length+q.1.R.length<70000:=by simp at e3;omega
  obtain⟨g2,e4,k4⟩:=Qhy hoq z1 hMk hMl e2 (by omega) (by omega)
  have hpl:q.2.1=(runF rows w c0).1.pl:=by rw[z2];show _ - (0:Int)=_;omega
  refine⟨g2,(kp.trans k1).trans k4,QX rfl (?_:Yb [some (.ref M),some (.int steps),some (.int k),none] g=_)⟩
  unfold Yb
  refine Qg [some (.ref M),some (.int steps),some (.int k),some (.tup [.tup [.int q.1.st,.ref a',.ref b'],.int q.2.1,.int q.2.2.1,.int q.2.2.2])] g1 (Zc (by rw[QR e0,e1])) ?_
  rw[hpl,z3]
  simp[e4,SZ]
theorem Qe7{f:List D->G->Res D}{a:MA}{σ:S3}{xs:List D}{g g1:G}{R:Res D}(ha:a σ g=.ok xs g1)(h:f xs g1=R):mOpA f a σ g=R:=by unfold mOpA;rw[ha,Res.bind_ok,h]
section
variable{σ:S3}{g:G}
theorem Qmm{o k x:ME}{n:Nat}{ks:List (DK×D)}{i:Int}{z:D}(ho:o σ g=.ok (.ref n) g)(hd:g[n]?=some (.dct ks))(hk:k σ g=.ok (.int i) g)(hx:x σ g=.ok z g):QeO o k x σ g=.ok ((dGet ks (.inl i)).getD z) g:=by
 unfold QeO;simp[ho,hd,hk,hx,Res.bind]
theorem Qmn{o k v:ME}{n:Nat}{ks:List (DK×D)}{i:Int}{y:D}(hv:v σ g=.ok y g)(ho:o σ g=.ok (.ref n) g)(hk:k σ g=.ok (.int i) g)(hd:g[n]?=some (.dct ks))(hz:ks.length<=100000):Qhi o k v σ g=.nx σ (g.set n (.dct (dPut ks (.inl i) y))):=by
 unfold Qhi;simp[hv,ho,hk,hd,QbB hz]
theorem Qmo{o k:ME}{n:Nat}{ks:List (DK×D)}{i:Int}{v:D}(ho:o σ g=.ok (.ref n) g)(hk:k σ g=.ok (.int i) g)(hd:g[n]?=some (.dct ks))(hv:dGet ks (.inl i)=some v):QiK o k σ g=.ok v (g.set n (.dct (QbI ks (.inl i)))):=by
 unfold QiK;simp[ho,hd,hk,Res.bind,hv]
end
noncomputable def shL(c:Cn)(d:Nat):D:=.tup [.int c.st,.int c.pl,.ref d]
def SL(g:G)(c:Cn)(x:D)(B:Nat):Prop:=∃d ks,x=shL c d/\g[d]?=some (.dct ks)/\DF ks c.f/\ks.length<=B
theorem SL.mono{S:List Nat}{g g1:G}{c:Cn}{x:D}{B:Nat}(h:SL g c x B)(k:Keeps S g g1)(hS:∀n∈S,∃ds,g[n]?=some (.lst ds)):SL g1 c x B:=by
 obtain⟨d,ks,e,hd,h1,h2⟩:=h
 refine⟨d,ks,e,k.at' _ _ (λhm=>?_) hd,h1,h2⟩
 obtain⟨ds,hl⟩:=hS d hm
 rw[hd]at hl;cases hl
theorem SL.up{g:G}{c:Cn}{x:D}{B C:Nat}(h:SL g c x B)(hc:B<=C):SL g c x C:=by
 obtain⟨d,ks,e,hd,h1,h2⟩:=h
 exact⟨d,ks,e,hd,h1,Ut h2 hc⟩
structure CnOk(n m:Nat)(c:Cn):Prop where
 st:c.st<n
 f:∀x,0<=c.f x/\c.f x<m
theorem Qi9{rows:List (List D)}{n m:Nat}{c c':Cn}(T:Tb rows n m)(h:CnOk n m c)(hs:JW rows c=some c'):CnOk n m c':=by
 have hf:=h.f c.pl
 obtain⟨row,d,_,_,he,e⟩:=T.at h.st (c:=(c.f c.pl).toNat) (by omega)
 unfold JW at hs
 rw[e]at hs
 rcases he with rfl|⟨a,b,y,rfl,a0,a1,b0,b1,_⟩
 ·cases hs
 ·cases hs
  refine⟨by show b.toNat<n;omega,λx=>?_⟩
  show 0<=updF c.f c.pl a x/\updF c.f c.pl a x<m
  unfold updF
  split
  ·exact⟨a0,a1⟩
  ·exact h.f x
def tabB(B:Nat)(g:G)(t:Nat)(rows:List (List D)):Prop:=t<B/\∃ds,g[t]?=some (.lst ds)/\∀(i:Nat)(row:List D),rows[i]?=some row->∃n,n<B/\ds[i]?=some (.ref n)/\g[n]?=some (.lst row)
theorem tabOf.b{N:Nat}{g:G}{t:Nat}{rows:List (List D)}(h:tabOf N g t rows):tabB g.length g t rows:=by
 obtain⟨_,ds,h1,h2,h3⟩:=h
 refine⟨ZI h1,ds,h1,λi row hr=>?_⟩
 have hi:i<ds.length:=by rw[h2];exact(Ul.mp hr).1
 obtain⟨n,e,_,_,hn⟩:=h3 i ds[i] row (by simp) hr
 exact⟨n,ZI hn,by rw[<-e];simp,hn⟩
theorem tabB.mono{B:Nat}{S:List Nat}{g g1:G}{t:Nat}{rows:List (List D)}(h:tabB B g t rows)(k:Keeps S g g1)(hS:∀n∈S,B<=n):tabB B g1 t rows:=by
 obtain⟨h0,ds,h1,h2⟩:=h
 refine⟨h0,ds,k.at' _ _ (λz=>by have:=hS _ z;omega) h1,λi row hr=>?_⟩
 obtain⟨n,a,b,c⟩:=h2 i row hr
 exact⟨n,a,b,k.at' _ _ (λz=>by have:=hS _ z;omega) c⟩
theorem tabB.up{B C:Nat}{g:G}{t:Nat}{rows:List (List D)}(h:tabB B g t rows)(hc:B<=C):tabB C g t rows:=by
 obtain⟨h0,ds,h1,h2⟩:=h
 refine⟨by omega,ds,h1,λi row hr=>?_⟩
 obtain⟨n,a,b,c⟩:=h2 i row hr
 exact⟨n,by omega,b,c⟩
theorem Qom{B t:Nat}{g:G}{rows:List (List D)}{i j:Nat}{r:List D}{d:D}(h:tabB B g t rows)(hr:rows[i]?=some r)(hd:r[j]?=some d):∃x,pIx (.ref t) (.int i) g=.ok (.ref x) g/\pIx (.ref x) (.int j) g=.ok d g/\g[x]?=some (.lst r)/\x<B:=by
 obtain⟨hN,ds,h1,h2⟩:=h
 obtain⟨x,q1,q2,q3⟩:=h2 i r hr
 exact⟨x,QeW h1 q2,QeW q3 hd,q3,q1⟩
theorem QfK{rows:List (List D)}:∀(k:Nat)(c:Cn),(runF rows k c).2<=k
 |0,_=>Uc _
 |k+1,c=>by
  cases hs:JW rows c with
  |none=>rw[YE hs];exact Tc _
  |some c'=>rw[Ye hs];have:=QfK (rows:=rows) k c';dsimp only;omega
theorem QgP{rows:List (List D)}:∀(k:Nat)(c:Cn)(j:Nat),(j<=k->(runF rows j c).2=min j (runF rows k c).2)/\(j<=(runF rows k c).2->(runF rows j c).2=j)/\((runF rows k c).2<=j->j<=k->(runF rows j c).1=(runF rows k c).1)
 |0,c,j=>by
  cases j with
  |zero=>exact⟨λ_=>by simp[runF],λ_=>rfl,λ_ _=>rfl⟩
  |succ j=>exact⟨λh=>by omega,λh=>by have h:j+1<=0:=h;omega,λ_ h=>by omega⟩
 |k+1,c,j=>by
  cases hs:JW rows c with
  |none=>rw[YE hs,YE hs];exact⟨λ_=>by simp,λh=>by dsimp only at h ⊢;omega,λ_ _=>rfl⟩
  |some c' =>
   rw[Ye hs]
   cases j with
   |zero=>exact⟨λ_=>by simp[runF],λ_=>rfl,λh=>by dsimp only at h;omega⟩
   |succ j =>
    rw[Ye hs]
    obtain⟨a1,a2,a3⟩:=QgP (rows:=rows) k c' j
    refine⟨λh=>?_,λh=>?_,λh h2=>?_⟩
    ·have:=a1 (by omega);dsimp only;omega
    ·have:=a2 (by dsimp only at h;omega);dsimp only;omega
    ·exact a3 (by dsimp only at h;omega) (by omega)
abbrev cnt(g:G)(a:Nat)(k:Int):Prop:=g[a]?=some (.lst [.int k])
theorem Qk5(ns:List Int)(a:Nat)(k:Int)(g:G)(hg:cnt g a k)(hk:0<=k)(hk2:k<1000000000):∃v,1<=v/\QdX [.fl (ns.map .int),.ref a] g=.ok (.int v) (g.set a (.lst [.int (k+1)])):=by
 obtain⟨m,m1,m2,e⟩:=Qcz ns a k g hg hk hk2
 have ga:cnt (g.set a (.lst [.int (k+1)])) a (k+1):=QK hg
 generalize g.set a (.lst [.int (k+1)])=g1 at e ga
 obtain⟨c,s2⟩:∃c,mAsg (gSet 3) (mIfE (Qk (mOp2 pGt (mOp1 pLen (mVar 0)) (mLit (.int 0)))) (mOp2 pIx (mVar 0) (mOp2 pMod (mOp2 pIx (mVar 1) (mLit (.int 0))) (mOp1 pLen (mVar 0)))) (mLit (.int 0))) [some (.fl (ns.map .int)),some (.ref a),some (.int m),none,none,none] g1=.nx [some (.fl (ns.map .int)),some (.ref a),some (.int m),some (.int c),none,none] g1:=by
  by_cases hl:0<ns.length
  ·obtain⟨x,hx⟩:=Qk1 ns (k+1) hl
   have hl':(0:Int)<(ns.length:Int):=by omega
   exact⟨x,by simp[pLen,hl,ix0 ga,ixfl hx]⟩
  ·cases ns with
   |nil=>exact⟨0,rfl⟩
   |cons x r=>simp at hl
 have hr:(m/7%50).toNat<=1000:=by omega
 have hr2:((m/7%50).toNat:Int)=m/7%50:=by omega
 obtain⟨σ',g',f1,rfl,s,h0,x5,rfl⟩:=JU (t:=gSet 5) (body:=Qbm) (lo:=0) (n:=(m/7%50).toNat) (σ:=[some (.fl (ns.map .int)),some (.ref a),some (.int m),some (.int c),some (.int 10),none]) (g:=g1)
  (λi σ g'=>g'=g1/\∃s:Int,0<s/\∃x5,σ=[some (.fl (ns.map .int)),some (.ref a),some (.int m),some (.int c),some (.int s),x5]) ⟨rfl,10,by omega,none,rfl⟩ (λi σ g' hi ⟨q,s,h0,x5,hσ⟩=>by
   subst q hσ
   refine⟨_,[some (.fl (ns.map .int)),some (.ref a),some (.int m),some (.int c),some (.int (s*10)),some (.int (0+i))],g',rfl,?_,rfl,s*10,by omega,_,rfl⟩
   simp[Qbm,mulR (show cM 10 from ⟨by decide,by decide⟩)])
 have p5:pPow (.int 10) (.int 50) g'=.ok (.int (10^50)) g':=rfl
 have p4:pPow (.int 10) (.int 40) g'=.ok (.int (10^40)) g':=rfl
 refine⟨1+(c%10^50+m*10^40) % s,by have:=Tw (c%10^50+m*10^40) (show s≠0 by omega);omega,QX rfl (?_:QfF [some (.fl (ns.map .int)),some (.ref a),none,none,none,none] g=_)⟩
 unfold QfF
 refine Qg [some (.fl (ns.map .int)),some (.ref a),some (.int m),none,none,none] g' (by simp[e]) (Qg _ g' s2 (Qg [some (.fl (ns.map .int)),some (.ref a),some (.int m),some (.int c),some (.int 10),none] g' rfl (Qg [some (.fl (ns.map .int)),some (.ref a),some (.int m),some (.int c),some (.int s),x5] g' ?_ ?_)))
 ·have hrg:QC (mOp2 pMod (mOp2 Z7 (mVar 2) (mLit (.int 7))) (mLit (.int 50))) [some (.fl (ns.map .int)),some (.ref a),some (.int m),some (.int c),some (.int 10),none] g'=.ok (Q8 0 (m/7%50).toNat) g':=Jh (by rw[hr2];simp[JY]) (QeT hr)
  rw[Qap hrg]
  exact f1
 ·have cm:cM m:=⟨by omega,by omega⟩
  simp only[Qn9,Qoc,Qoa,Qk2,Rg,TJ,p5,p4,Qe6 (show(0:Int)<10^50 by decide),mulL cm,Qoe,Qe6 h0]
end L3
section
namespace L3
open PySem
def TabW(N n m:Nat)(g:G)(t:Nat):Prop:=N<=t/\∃ls:List Nat,g[t]?=some (.lst (ls.map .ref))/\ls.length=n/\∀x∈ls,N<=x/\x≠t/\∃r,g[x]?=some (.lst r)/\r.length=m/\∀d∈r,entOk d n m
theorem Qmp{N n m t:Nat}{g:G}{rows:List (List D)}(h:tabOf N g t rows)(h1:rows.length=n)(h2:∀r∈rows,r.length=m)(h3:∀r∈rows,∀d∈r,entOk d n m):TabW N n m g t:=by
 obtain⟨hN,ds,e1,e2,e3⟩:=h
 have:∃ls:List Nat,ds=ls.map D.ref:=by
  have hx:∀x∈ds,∃n,x=D.ref n:=λx hx=>by
   obtain⟨i,hi,rfl⟩:=U1 hx
   obtain⟨n,q,_⟩:=e3 i ds[i] (rows[i]'(by omega)) (by simp[hi]) (by simp[show i<rows.length by omega])
   exact⟨n,q⟩
  clear e1 e2 e3
  induction ds with
  |nil=>exact⟨[],rfl⟩
  |cons x r ih =>
   obtain⟨n,rfl⟩:=hx x (by simp)
   obtain⟨ls,rfl⟩:=ih λy hy=>hx y (by simp[hy])
   exact⟨n::ls,rfl⟩
 obtain⟨ls,rfl⟩:=this
 have hl:ls.length=rows.length:=by simpa using e2
 refine⟨hN,ls,e1,by omega,λx hx=>?_⟩
 obtain⟨i,hi,rfl⟩:=U1 hx
 have hr:i<rows.length:=by omega
 obtain⟨n',q1,q2,q3,q4⟩:=e3 i (.ref ls[i]) rows[i] (by simp[hi]) (by simp[hr])
 cases q1
 exact⟨q2,q3,rows[i],q4,h2 _ (UK hr),h3 _ (UK hr)⟩
theorem TabW.back{N n m t:Nat}{g:G}(h:TabW N n m g t):∃rows,tabOf N g t rows/\rows.length=n/\(∀r∈rows,r.length=m)/\∀r∈rows,∀d∈r,entOk d n m:=by
 obtain⟨hN,ls,e1,e2,e3⟩:=h
 have:∀ls:List Nat,(∀x∈ls,N<=x/\x≠t/\∃r,g[x]?=some (.lst r)/\r.length=m/\∀d∈r,entOk d n m)->∃rows:List (List D),rows.length=ls.length/\(∀r∈rows,r.length=m/\∀d∈r,entOk d n m)/\∀(i:Nat) x r,ls[i]?=some x->rows[i]?=some r->N<=x/\x≠t/\g[x]?=some (.lst r):=by
  intro ls
  induction ls with
  |nil=>exact λ_=>⟨[],rfl,by simp,by simp⟩
  |cons x l ih =>
   intro hx
   obtain⟨rows,a1,a2,a3⟩:=ih λy hy=>hx y (by simp[hy])
   obtain⟨b1,b2,r,b3,b4,b5⟩:=hx x (by simp)
   refine⟨r::rows,by simp[a1],λr' hr'=>?_,λi y r' hy hr'=>?_⟩
   ·rcases UE.mp hr' with rfl|hr'
    ·exact⟨b4,b5⟩
    ·exact a2 r' hr'
   ·cases i with
    |zero=>simp at hy hr';subst hy hr';exact⟨b1,b2,b3⟩
    |succ i=>exact a3 i y r' (by simpa using hy) (by simpa using hr')
 obtain⟨rows,a1,a2,a3⟩:=this ls e3
 refine⟨rows,⟨hN,_,e1,by simp[a1],λi x r hx hr=>?_⟩,by omega,λr hr=>(a2 r hr).1,λr hr=>(a2 r hr).2⟩
 rw[Uy]at hx
 cases hl:ls[i]? with
 |none=>rw[hl]at hx;cases hx
 |some y =>
  rw[hl]at hx
  cases hx
  exact⟨y,rfl,(a3 i y r hl hr).1,(a3 i y r hl hr).2.1,(a3 i y r hl hr).2.2⟩
theorem TabW.set{N n m t x:Nat}{g:G}{r:List D}(h:TabW N n m g t)(hx:g[x]?=some (.lst r))(xt:x≠t){r':List D}(hl:r'.length=m)(hr:∀d∈r',entOk d n m):TabW N n m (g.set x (.lst r')) t:=by
 obtain⟨hN,ls,e1,e2,e3⟩:=h
 refine⟨hN,ls,by rw[Uk xt];exact e1,e2,λy hy=>?_⟩
 obtain⟨b1,b2,r0,b3,b4,b5⟩:=e3 y hy
 by_cases z:x=y
 ·subst z;exact⟨b1,b2,r',QK hx,hl,hr⟩
 ·exact⟨b1,b2,r0,by rw[Uk z];exact b3,b4,b5⟩
theorem TabW.cnt{N n m t a:Nat}{g:G}{o:GO}(h:TabW N n m g t)(ha:a<N):TabW N n m (g.set a o) t:=by
 obtain⟨hN,ls,e1,e2,e3⟩:=h
 refine⟨hN,ls,by rw[Uk (by omega)];exact e1,e2,λy hy=>?_⟩
 obtain⟨b1,b2,r0,b3,b4,b5⟩:=e3 y hy
 exact⟨b1,b2,r0,by rw[Uk (by omega)];exact b3,b4,b5⟩
noncomputable def sMb(ns:List Int)(a n m t:Nat)(x2 x6 x7:Option D):S3:=[some (.fl (ns.map .int)),some (.ref a),x2,some (.int n),some (.int m),some (.ref t),x6,x7]
theorem Qmq{N n m t a i j:Nat}{ns:List Int}{g:G}{k:Int}{x2:Option D}(h:TabW N n m g t)(ha:a<N)(hg:cnt g a k)(hk:0<=k)(hk2:k<1000000000)(hi:i<n)(hj:j<m):
  ∃x2' g',ZX (sMb ns a n m t x2 (some (.int i)) (some (.int j))) g=.nx (sMb ns a n m t x2' (some (.int i)) (some (.int j))) g'/\TabW N n m g' t/\cnt g' a (k+1)/\KeepsN N [a] g g':=by
 obtain⟨mm,m1,m2,e⟩:=Qcz ns a k g hg hk hk2
 have hn':(0:Int)<n:=by omega
 have hm':(0:Int)<m:=by omega
 have c1:cnt (g.set a (.lst [.int (k+1)])) a (k+1):=QK hg
 have h1:TabW N n m (g.set a (.lst [.int (k+1)])) t:=h.cnt ha
 have k1:KeepsN N [a] g (g.set a (.lst [.int (k+1)])):=(Keeps.set _ _).n (by simp)
 generalize g.set a (.lst [.int (k+1)])=g1 at e c1 h1 k1
 have s1:mAsg (gSet 2) (Qn Yp (Qb (mVar 0) (Qb (mVar 1) mNil))) (sMb ns a n m t x2 (some (.int i)) (some (.int j))) g=.nx (sMb ns a n m t (some (.int mm)) (some (.int i)) (some (.int j))) g1:=by simp[sMb,e]
 have part:∀(g:G)(σ:S3)(P:Bool)(c:MT)(v:ME),σ[5]?=some (some (.ref t))->σ[6]?=some (some (.int i))->σ[7]?=some (some (.int j))->TabW N n m g t->cnt g a (k+1) ->
   (∀x r d,g[x]?=some (.lst r)->r[j]?=some d->pIx (.ref t) (.int i) g=.ok (.ref x) g->pIx (.ref x) (.int j) g=.ok d g->entOk d n m->c σ g=.ok false g\/(c σ g=.ok true g/\∃d',v σ g=.ok d' g/\entOk d' n m)) ->
   ∃g',mIf c (YN (mOp2 pIx (mVar 5) (mVar 6)) (mVar 7) v) QN σ g=.nx σ g'/\TabW N n m g' t/\cnt g' a (k+1)/\KeepsN N [a] g g':=by
  intro g σ P c v v5 v6 v7 h hc hd
  obtain⟨hN,ls,e1,e2,e3⟩:=id h
  have hx:ls[i]?=some (ls[i]'(by omega)):=by simp[show i<ls.length by omega]
  obtain⟨b1,b2,r,b3,b4,b5⟩:=e3 _ (UK (show i<ls.length by omega))
  have hr:r[j]?=some (r[j]'(by omega)):=by simp[show j<r.length by omega]
  have p1:pIx (.ref t) (.int i) g=.ok (.ref (ls[i]'(by omega))) g:=QeW e1 (by rw[Uy,hx];rfl)
  have p2:pIx (.ref (ls[i]'(by omega))) (.int j) g=.ok (r[j]'(by omega)) g:=QeW b3 hr
  rcases hd _ r _ b3 hr p1 p2 (b5 _ (UK (by omega))) with hf|⟨ht,d',hv,ho⟩
  ·exact⟨g,iff' g hf rfl,h,hc,.refl⟩
  ·refine⟨g.set (ls[i]'(by omega)) (.lst (r.set j d')),ift g ht ?_,h.set b3 b2 (by simp[b4]) (λd hd=>?_),(Uk (by omega)).trans hc,(Keeps.set _ _).n (λn hn h2=>by simp at hn;omega)⟩
   ·exact Qkj hv (by simp[v5,v6,p1]) (by simp[v7]) b3 (by omega)
   ·rcases List.mem_or_eq_of_mem_set hd with hd|rfl
    ·exact b5 d hd
    ·exact ho
 obtain⟨g2,s2,h2,c2,k2⟩:=part g1 (sMb ns a n m t (some (.int mm)) (some (.int i)) (some (.int j))) true (Qat (Qk (mOp2 pEq (mOp2 pMod (mVar 2) (mLit (.int 3))) (mLit (.int 0)))) (Qk (mOp2 QaI (mOp2 pIx (mOp2 pIx (mVar 5) (mVar 6)) (mVar 7)) (mLit .non)))) (mOpA pTup (Qb (mOp2 pIx (mOp2 pIx (mOp2 pIx (mVar 5) (mVar 6)) (mVar 7)) (mLit (.int 0))) (Qb (mOp2 pIx (mOp2 pIx (mOp2 pIx (mVar 5) (mVar 6)) (mVar 7)) (mLit (.int 1))) (Qb (mVar 6) mNil)))) rfl rfl rfl h1 c1 (λx r d hx hr p1 p2 ho=>by
  rcases ho with rfl|⟨u,v,w,rfl,u0,u1,v0,v1,hw⟩
  ·left;by_cases h3:mm%3=0 <;> simp[sMb,h3,p1,p2,QaI,isNon]
  ·by_cases h3:mm%3=0
   ·right;exact⟨by simp[sMb,h3,p1,p2,QaI,isNon],.tup [.int u,.str w,.int i],by simp[sMb,p1,p2,SZ],.inr ⟨u,i,w,rfl,u0,u1,by omega,by omega,hw⟩⟩
   ·left;simp[sMb,h3])
 obtain⟨w,hw,ww⟩:=Qn6 (mm/300) g2
 obtain⟨g3,s3,h3,c3,k3⟩:=part g2 (sMb ns a n m t (some (.int mm)) (some (.int i)) (some (.int j))) true (Qat (Qk (mOp2 pGt (mOp2 pMod (mOp2 Z7 (mVar 2) (mLit (.int 3))) (mLit (.int 7))) (mLit (.int 1)))) (Qk (mOp2 pIs (mOp2 pIx (mOp2 pIx (mVar 5) (mVar 6)) (mVar 7)) (mLit .non)))) (mOpA pTup (Qb (mOp2 pMod (mOp2 Z7 (mVar 2) (mLit (.int 30))) (mVar 4)) (Qb (mOp2 pIx (mLit (.str "lr")) (mOp2 pMod (mOp2 Z7 (mVar 2) (mLit (.int 300))) (mLit (.int 2)))) (Qb (mOp2 pMod (mOp2 Z7 (mVar 2) (mLit (.int 600))) (mVar 3)) mNil)))) rfl rfl rfl h2 c2 (λx r d hx hr p1 p2 ho=>by
  by_cases h3:1<mm/3%7
  ·rcases ho with rfl|⟨u,v,w,rfl,_⟩
   ·right;exact⟨by simp[sMb,h3,p1,p2,pIs,isNon,JY],.tup [.int (mm/30%m),.str w,.int (mm/600%n)],by simp[sMb,JY,Qe6 hn',Qe6 hm',hw,SZ],.inr ⟨_,_,w,rfl,Tw _ (by omega),Tk _ hm',Tw _ (by omega),Tk _ hn',ww⟩⟩
   ·left;simp[sMb,h3,p1,p2,pIs,isNon,JY]
  ·left;simp[sMb,h3,JY])
 exact⟨some (.int mm),g3,Qg _ g1 s1 (Qg _ g2 s2 s3),h3,c3,(k1.trans k2).trans k3⟩
theorem Qon{N n m t a i:Nat}{ns:List Int}{g:G}{k:Int}{x2 x7:Option D}(h:TabW N n m g t)(ha:a<N)(hg:cnt g a k)(hk:0<=k)(hk2:k<900000000)(hi:i<n)(hm:m<=8):
  ∃x2' x7' g',Zs (sMb ns a n m t x2 (some (.int i)) x7) g=.nx (sMb ns a n m t x2' (some (.int i)) x7') g'/\TabW N n m g' t/\cnt g' a (k+m)/\KeepsN N [a] g g':=by
 obtain⟨σ',g',f1,h',c',k',x2',x7',rfl⟩:=JU (t:=gSet 7) (body:=ZX) (lo:=0) (n:=m) (σ:=sMb ns a n m t x2 (some (.int i)) x7) (g:=g)
  (λj σ g'=>TabW N n m g' t/\cnt g' a (k+j)/\KeepsN N [a] g g'/\∃x2' x7',σ=sMb ns a n m t x2' (some (.int i)) x7') ⟨h,by simpa using hg,.refl,_,_,rfl⟩ (λj σ g' hj ⟨q1,q2,q3,x2',x7',hσ⟩=>by
   subst hσ
   obtain⟨x2'',g'',e1,e2,e3,e4⟩:=Qmq (ns:=ns) (x2:=x2') q1 ha q2 (by omega) (by omega) hi hj
   refine⟨sMb ns a n m t x2' (some (.int i)) (some (.int j)),_,g'',by simp[sMb,gSet],e1,e2,by rw[show k+((j+1:Nat):Int)=k+j+1 by omega];exact e3,q3.trans e4,_,_,rfl⟩)
 refine⟨x2',x7',g',?_,h',c',k'⟩
 unfold Zs
 have hrg:QC (mVar 4) (sMb ns a n m t x2 (some (.int i)) x7) g=.ok (Q8 0 m) g:=Jh (by simp[sMb]) (QeT (by omega))
 rw[Qap hrg]
 exact f1
theorem pick{xs:List Int}{i:Int}{g:G}{n:Nat}(hx:∀x∈xs,1<=x/\x<=4)(h0:0<=i)(h1:i<xs.length)(hn:g.length=n):∃v:Nat,1<=v/\v<=4/\pIx (.ref n) (.int i) (g++[.lst (xs.map .int)])=.ok (.int v) (g++[.lst (xs.map .int)]):=by
 subst hn
 have hi:i.toNat<xs.length:=by omega
 have:=hx _ (UK hi)
 refine⟨(xs[i.toNat]).toNat,by omega,by omega,?_⟩
 rw[TN (by omega)]
 exact Qn8 (QW _) h0 (by simp[hi])
end L3
namespace L3
open PySem
theorem Qpm(ns:List Int)(a:Nat)(k:Int)(g:G)(hg:cnt g a k)(hk:0<=k)(hk2:k<800000000):
  ∃N n m t rows k' g',Y8 [.fl (ns.map .int),.ref a] g=.ok (.ref t) g'/\tabOf N g' t rows/\Tb rows n m/\cnt g' a k'/\k<=k'/\k'<=k+200/\Keeps [a] g g'/\a<N:=by
 obtain⟨mm,m1,m2,e⟩:=Qcz ns a k g hg hk (by omega)
 have ha:=ZI hg
 have c1:cnt (g.set a (.lst [.int (k+1)])) a (k+1):=QK hg
 have k1:Keeps [a] g (g.set a (.lst [.int (k+1)])):=.set _ _
 have l1:(g.set a (.lst [.int (k+1)])).length=g.length:=by simp
 generalize g.set a (.lst [.int (k+1)])=g1 at e c1 k1 l1
 obtain⟨v,v1,v2,e2⟩:=pick (xs:=[1,2,2,3,3,4]) (i:=mm%6) (g:=g1) (n:=g1.length) (by decide) (by omega) (by simp;omega) rfl
 have k2:Keeps [a] g1 (g1++[.lst ([1,2,2,3,3,4].map D.int)]):=.push _
 have n2:newL [.int 1,.int 2,.int 2,.int 3,.int 3,.int 4] g1=.ok (.ref g1.length) (g1++[.lst ([1,2,2,3,3,4].map D.int)]):=by simp[SZ]
 have c2:cnt (g1++[.lst ([1,2,2,3,3,4].map D.int)]) a (k+1):=JF c1
 generalize g1++[.lst ([1,2,2,3,3,4].map D.int)]=g2 at e2 k2 n2 c2
 obtain⟨u,u1,u2,e3⟩:=pick (xs:=[2,2,3,2,4,1]) (i:=mm/6%6) (g:=g2) (n:=g2.length) (by decide) (by omega) (by simp;omega) rfl
 have k3:Keeps [a] g2 (g2++[.lst ([2,2,3,2,4,1].map D.int)]):=.push _
 have n3:newL [.int 2,.int 2,.int 3,.int 2,.int 4,.int 1] g2=.ok (.ref g2.length) (g2++[.lst ([2,2,3,2,4,1].map D.int)]):=by simp[SZ]
 have c3:cnt (g2++[.lst ([2,2,3,2,4,1].map D.int)]) a (k+1):=JF c2
 generalize g2++[.lst ([2,2,3,2,4,1].map D.int)]=g3 at e3 k3 n3 c3
 let S:Option D->Option D->Option D->Option D->S3:=λx3 x4 x5 x6=>[some (.fl (ns.map .int)),some (.ref a),some (.int mm),x3,x4,x5,x6,none]
 obtain⟨n,m,hn0,hn,hm0,hm,s4⟩:∃n m:Nat,0<n/\n<=5/\0<m/\m<=8/\mIf (Qk (mOp2 pEq (mOp2 pMod (mOp2 Z7 (mVar 2) (mLit (.int 36))) (mLit (.int 13))) (mLit (.int 0)))) (mAsg (Yh [(gSet 3),(gSet 4)]) (mOpA pTup (Qb (mLit (.int 5)) (Qb (mLit (.int 8)) mNil)))) QN (S (some (.int v)) (some (.int u)) none none) g3=.nx (S (some (.int n)) (some (.int m)) none none) g3:=by
  by_cases h:mm/36%13=0
  ·refine⟨5,8,by omega,by omega,by omega,by omega,ift g3 (by simp[S,JY,h]) (by unfold mAsg;simp[SZ,Yh,Qew,gSet,S])⟩
  ·exact⟨v,u,by omega,by omega,by omega,by omega,iff' g3 (by simp[S,JY,h]) rfl⟩
 obtain⟨rows,g4,e4,k4,c4,t4,r1,r2,r3⟩:=Qki ns a (k+1) n m g3 hn0 hm0 (by omega) hm c3 (by omega) (by omega)
 have haN:a<g3.length:=ZI c3
 have hmul:((n*m:Nat):Int)<=40:=by have:=Nat.mul_le_mul hn hm;omega
 have hmul0:(n:Int)*m=((n*m:Nat):Int):=by simp
 have hmm0:(0:Int)<=((n*m:Nat):Int):=by omega
 rw[hmul0]at c4
 generalize ((n*m:Nat):Int)=nm at c4 hmul hmm0
 obtain⟨σ',g5,f5,h5,⟨k',c5,hk'1,hk'2⟩,k5,x2',x6',x7',rfl⟩:=JU (t:=gSet 6) (body:=Zs) (lo:=0) (n:=n) (σ:=sMb ns a n m g3.length (some (.int mm)) none none) (g:=g4)
  (λi σ g'=>TabW g3.length n m g' g3.length/\(∃k',cnt g' a k'/\k+1+nm<=k'/\k'<=k+1+nm+8*i)/\KeepsN g3.length [a] g4 g'/\∃x2' x6' x7',σ=sMb ns a n m g3.length x2' x6' x7') ⟨Qmp t4 r1 r2 r3,⟨_,c4,by omega,by omega⟩,.refl,_,_,_,rfl⟩ (λi σ g' hi ⟨q1,⟨k',q2,q3,q4⟩,q5,x2',x6',x7',hσ⟩=>by
   subst hσ
   obtain⟨y2,y7,g'',z1,z2,z3,z4⟩:=Qon (ns:=ns) (i:=i) (x2:=x2') (x7:=x7') q1 haN q2 (by omega) (by omega) hi hm
   exact⟨sMb ns a n m g3.length x2' (some (.int i)) x7',_,g'',by simp[sMb,gSet],z1,z2,⟨_,z3,by omega,by omega⟩,q5.trans z4,_,_,_,rfl⟩)
 obtain⟨rows',t5,w1,w2,w3⟩:=h5.back
 have kk:Keeps [a] g g5:=by
  have k34:Keeps [a] g3 g4:=k4
  have:KeepsN g3.length [a] g3 g5:=(k34.n (by simp)).trans k5
  exact((k1.trans k2).trans k3).trans this.keeps
 refine⟨g3.length,n,m,g3.length,rows',k',g5,QX rfl (?_:Y7 [some (.fl (ns.map .int)),some (.ref a),none,none,none,none,none,none] g=_),t5,⟨hn0,hm0,by omega,hm,w1,w2,w3⟩,c5,by omega,by omega,kk,haN⟩
 unfold Y7
 refine Qg (S none none none none) g1 (by simp[S,e]) (Qg (S (some (.int v)) none none none) g2 ?_ (Qg (S (some (.int v)) (some (.int u)) none none) g3 ?_ (Qg _ g3 s4 (Qg (sMb ns a n m g3.length (some (.int mm)) none none) g4 ?_ (Qg (sMb ns a n m g3.length x2' x6' x7') g5 ?_ rfl)))))
 ·exact Zc (Qa0 (Qe7 (xs:=[.int 1,.int 2,.int 2,.int 3,.int 3,.int 4]) (g1:=g1) (by simp) n2) (y:=.int (mm%6)) (g2:=g2) (by simp[S]) e2)
 ·exact Zc (Qa0 (Qe7 (xs:=[.int 2,.int 2,.int 3,.int 2,.int 4,.int 1]) (g1:=g2) (by simp) n3) (y:=.int (mm/6%6)) (g2:=g3) (by simp[S,JY]) e3)
 ·exact Zc (by rw[QR (ds:=[.fl (ns.map .int),.ref a,.int n,.int m]) (g':=g3) rfl];exact e4)
 ·have hrg:QC (mVar 3) (sMb ns a n m g3.length (some (.int mm)) none none) g4=.ok (Q8 0 n) g4:=Jh (by simp[sMb]) (QeT (by omega))
  rw[Qap hrg]
  exact f5
end L3
end
namespace L3
open PySem
theorem Qa4:∀is:List Int,Qex (is.map D.int)=some is
 |[]=>rfl
 |i::r=>by show(Qex (r.map D.int)).map (i :: ·)=_;rw[Qa4 r];rfl
theorem Qja{c:Cn}{x:D}{B:Nat}{g:G}(h:SL g c x B)(hB:B<=40000):∃M g',QbX [x] g=.ok (QbL c M) g'/\MkF M c.f/\M.length<=B/\Keeps [] g g':=by
 obtain⟨d,ks,rfl,hd,hf,hk⟩:=h
 obtain⟨is,k1,k2,k3⟩:=hf.keys
 have hil:=Qb0 k1
 have hsl:(QG is).length=is.length:=(QH is).length_eq
 have hM:=hf.marks k1
 let S:S3:=[some (shL c d),some (.int c.st),some (.int c.pl),some (.ref d)]
 have p1:QbJ (.ref d) g=.ok (.ref g.length) (g++[.lst (is.map .int)]):=by
  unfold QbJ;dsimp only;rw[hd];dsimp only;rw[k1];dsimp only;rw[Ud (by omega)]
 have g1:=QW (g:=g) (.lst (is.map D.int))
 have kp1:Keeps [] g (g++[.lst (is.map D.int)]):=.push _
 generalize g.length=n1 at p1 g1
 generalize g++[.lst (is.map D.int)]=h1 at p1 g1 kp1
 have p2:Zu (.ref n1) h1=.ok (.ref h1.length) (h1++[.lst ((QG is).map .int)]):=by
  unfold Zu;rw[ZY g1];dsimp only;rw[Qa4]
 have g2:=QW (g:=h1) (.lst ((QG is).map D.int))
 have kp2:Keeps [] h1 (h1++[.lst ((QG is).map D.int)]):=.push _
 generalize h1.length=n2 at p2 g2
 generalize h1++[.lst ((QG is).map D.int)]=h2 at p2 g2 kp2
 have hd2:=(kp1.trans kp2).at' _ _ (by simp) hd
 have ha:mOp1 Zu (mOp1 QbJ (mVar 3)) S g=.ok (.ref n2) h2:=Ji (Ji (x:=.ref d) (g1:=g) rfl p1) p2
 have c1:=QcC (F:=D.int) (H:=λy=>stD (y,c.f y)) (t:=gSet 0) (e:=mOpA pTup (Qb (mVar 0) (Qb (mOp2 pDIx (mVar 1) (mVar 0)) mNil))) (n:=1) (cap:=[3]) (σ:=S) (g0:=g) (a:=mOp1 Zu (mOp1 QbJ (mVar 3))) g2 (by omega) ha (λσ=>∃u,σ=[u,some (.ref d)]) ⟨_,rfl⟩ (λy hy σ' ⟨u,hu⟩=>by
  subst hu
  have hy0:=(k3 y).mp ((QH is).mem_iff.mp hy)
  refine⟨[some (.int y),some (.ref d)],rfl,⟨_,rfl⟩,?_⟩
  have e:pDIx (.ref d) (.int y) h2=.ok (.int (c.f y)) h2:=by unfold pDIx;dsimp only;rw[hd2];dsimp only;rw[hf.get,Ue hy0]
  simp[e,SZ,stD])
 have g3:=QW (g:=h2) (.lst ((QG is).map λy=>stD (y,c.f y)))
 have kp3:Keeps [] h2 (h2++[.lst ((QG is).map λy=>stD (y,c.f y))]):=.push _
 refine⟨(QG is).map λy=>(y,c.f y),_,QX rfl (?_:QdU [some (shL c d),none,none,none] g=_),hM,by simp;omega,(kp1.trans kp2).trans kp3⟩
 unfold QdU
 refine Qg S g rfl (Qdl (Qe7 (xs:=[.int c.st,.int c.pl,.tup (mkD ((QG is).map λy=>(y,c.f y)))]) (g1:=h2++[.lst ((QG is).map λy=>stD (y,c.f y))]) (Zh (g1:=g) rfl (Zh (g1:=g) rfl (Zh (g1:=h2++[.lst ((QG is).map λy=>stD (y,c.f y))]) (Ji c1 ?_) rfl))) (by simp[SZ,QbL])))
 simp[YO,g3,mkD]
theorem QfL{g:G}{f:Nat}{ds:List D}(hz:ds.length<=1000)(h:∀u∈ds,Sm g f u u):Sm g (f+1) (.tup ds) (.tup ds):=.seq _ _ _ false ds ds rfl rfl rfl hz (λi u v h1 h2=>by
 rw[h1]at h2;cases h2
 exact h u (Rt h1))
theorem Qmr(g:G)(c:Cn){M:List (Int×Int)}(hM:M.length<=1000)(k:Int):Sm g 6 (.tup [QbL c M,.int k]) (.tup [QbL c M,.int k]):=by
 refine QfL (by simp) λu hu=>?_
 simp at hu
 rcases hu with rfl|rfl
 ·refine QfL (by simp) λu hu=>?_
  simp at hu
  rcases hu with rfl|rfl|rfl
  ·exact .int _ _
  ·exact .int _ _
  ·refine QfL (by simpa[mkD]using hM) λu hu=>?_
   obtain⟨p,_,rfl⟩:=Ry.mp hu
   exact Qi5 g 1 p
 ·exact .int _ _
theorem Qjb(g:G)(c:Cn){M:List (Int×Int)}(hM:M.length<=1000)(k:Int):∃g',ZB 6 [.tup [QbL c M,.int k],.tup [QbL c M,.int k]] g=.ok (.bl true) g'/\Keeps [] g g':=QfJ (Qmr g c hM k) g .refl
noncomputable def AdjN(m:Int):Sts->Prop
 |[]=>True
 | (t,k)::r=>0<=t/\t<m/\1<=k/\(∀q,r.head?=some q->q.1≠t)/\AdjN m r
theorem Qb2{m:Int}{s c:Int}:∀{r:Sts},AdjN m r->0<=s->s<m->1<=c->(∀q,r.getLast?=some q->q.1≠s)->AdjN m (r++[(s,c)])
 |[],_,h0,h1,hc,_=>⟨h0,h1,hc,by simp,trivial⟩
 |p::r,h,h0,h1,hc,hl=>by
  refine⟨h.1,h.2.1,h.2.2.1,λq hq=>?_,Qb2 h.2.2.2.2 h0 h1 hc λq hq=>?_⟩
  ·cases r with
   |nil =>
    have:(s,c)=q:=by simpa using hq
    subst this
    exact λe=>hl p (by simp) e.symm
   |cons u r=>exact h.2.2.2.1 q (by simpa using hq)
  ·cases r with
   |nil=>simp at hq
   |cons u r=>exact hl q (by simpa using hq)
theorem QgQ{m:Int}{p:Int×Int}(hp:p.1≠0):∀{r:Sts},AdjN m (r++[p])->Q9 m (r++[p])
 |[],h=>⟨h.1,h.2.1,h.2.2.1,λe=>hp e.symm,trivial⟩
 |q::r,h=>by
  refine⟨h.1,h.2.1,h.2.2.1,?_,QgQ hp h.2.2.2.2⟩
  have h4:=h.2.2.2.1
  have h5:=h.2.2.2.2
  cases r with
  |nil=>exact h4 p (by simp)
  |cons u r=>exact h4 u (by simp)
theorem Qe8{m:Int}:∀{s s':Sts},Q9 m s->Q9 m s'->(∀i,QA s i=QA s' i)->s=s'
 |[],[],_,_,_=>rfl
 |[],(t,k)::r,_,h,e=>by
  have hk:=h.2.2.1
  have e0:=e 0
  have ek:=e k.toNat
  rw[Zz h]at e0
  have hc:QA ((t,k)::r) k.toNat=QA r 0:=by rw[QA,Ue (by omega)];congr 1;omega
  rw[hc,Zz h.2.2.2.2]at ek
  exact absurd (ek.symm.trans e0) h.2.2.2.1
 | (t,k)::r,[],h,_,e=>by
  have hk:=h.2.2.1
  have e0:=e 0
  have ek:=e k.toNat
  rw[Zz h]at e0
  have hc:QA ((t,k)::r) k.toNat=QA r 0:=by rw[QA,Ue (by omega)];congr 1;omega
  rw[hc,Zz h.2.2.2.2]at ek
  exact absurd (ek.trans e0.symm) h.2.2.2.1
 | (t,k)::r,(t',k')::r',h,h',e=>by
  have hk:=h.2.2.1
  have hk':=h'.2.2.1
  have e0:=e 0
  rw[Zz h,Zz h']at e0
  have e0:t=t':=e0
  subst e0
  have hc:∀i,QA ((t,k)::r) (k.toNat+i)=QA r i:=λi=>by rw[QA,Ue (by omega)];congr 1;omega
  have hc':∀i,QA ((t,k')::r') (k'.toNat+i)=QA r' i:=λi=>by rw[QA,Ue (by omega)];congr 1;omega
  have ekk:k=k':=by
   rcases Int.lt_trichotomy k k' with z|z|z
   ·have e1:=e k.toNat
    have a1:=hc 0
    rw[Bg]at a1
    rw[a1,Zz h.2.2.2.2,QA,Ud (by omega)]at e1
    exact absurd e1 h.2.2.2.1
   ·exact z
   ·have e1:=e k'.toNat
    have a1:=hc' 0
    rw[Bg]at a1
    rw[a1,Zz h'.2.2.2.2,QA,Ud (by omega)]at e1
    exact absurd e1.symm h'.2.2.2.1
  subst ekk
  congr 1
  exact Qe8 h.2.2.2.2 h'.2.2.2.2 λi=>by rw[<-hc,<-hc',e]
noncomputable def tot:Sts->Nat
 |[]=>0
 | (_,k)::r=>k.toNat+tot r
theorem Jz(a b:Sts):tot (a++b)=tot a+tot b:=by
 induction a with
 |nil=>simp[tot]
 |cons p r ih=>obtain⟨t,k⟩:=p;rw[Wf,tot,tot,ih];omega
theorem Qaf{m:Int}:∀{a:Sts}(b:Sts)(i:Nat),AdjN m a->QA (a++b) i=if i<tot a then QA a i else QA b (i-tot a)
 |[],b,i,_=>by simp[tot]
 | (t,k)::r,b,i,h=>by
  have hk:=h.2.2.1
  rw[Wf,QA,QA,tot]
  by_cases z:(i:Int)<k
  ·rw[Ud z,Ud (by omega),Ud z]
  ·rw[Ue z,Ue z,Qaf b _ h.2.2.2.2]
   by_cases y:i-k.toNat<tot r
   ·rw[Ud y,Ud (by omega)]
   ·rw[Ue y,Ue (by omega)];congr 1;omega
theorem Qag{t k:Int}{i:Nat}:QA [(t,k)] i=if (i:Int)<k then t else 0:=rfl
theorem QgR{m:Int}:∀{a:Sts}{i:Nat},AdjN m a->tot a<=i->QA a i=0
 |[],_,_,_=>rfl
 | (t,k)::r,i,h,hi=>by
  have hk:=h.2.2.1
  rw[tot]at hi
  rw[QA,Ue (by omega)]
  exact QgR h.2.2.2.2 (by omega)
structure Sn(m:Int)(φ:Nat->Int)(side:Sts)(last:Int):Prop where
 tt:(tot side:Int)=last+1
 ce:∀i,i<tot side->QA side i=φ i
 adj:AdjN m side
 ne:∀p,side.getLast?=some p->p.1≠0
noncomputable def QfM(side:Sts)(last off s:Int):Sts :=
 if off > last+1 then side++[(0,off-last-1)]++[(s,1)] else
 match side.getLast? with
 |some p=>if p.1=s then side.dropLast++[(s,p.2+1)] else side++[(s,1)]
 |none=>side++[(s,1)]
theorem Qkv{m:Int}{a:Sts}{t k:Int}:AdjN m (a++[(t,k)])->AdjN m (a++[(t,k+1)]):=by
 induction a with
 |nil=>intro h;exact⟨h.1,h.2.1,by have:=h.2.2.1;omega,h.2.2.2⟩
 |cons p r ih =>
  intro h
  refine⟨h.1,h.2.1,h.2.2.1,λq hq=>?_,ih h.2.2.2.2⟩
  cases r with
  |nil =>
   have:(t,k+1)=q:=by simpa using hq
   subst this
   exact h.2.2.2.1 (t,k) (by simp)
  |cons u r=>exact h.2.2.2.1 q (by simpa using hq)
theorem Qkw{m:Int}{a:Sts}{p:Int×Int}:AdjN m (a++[p])->AdjN m a:=by
 induction a with
 |nil=>intro _;trivial
 |cons q r ih =>
  intro h
  refine⟨h.1,h.2.1,h.2.2.1,λu hu=>?_,ih h.2.2.2.2⟩
  cases r with
  |nil=>simp at hu
  |cons v r=>exact h.2.2.2.1 u (by simpa using hu)
theorem Sn.turn{m:Int}{φ:Nat->Int}{side:Sts}{last:Int}{off:Nat}(h:Sn m φ side last)(hl:last+1<=off)(h0:φ off≠0)(h1:0<=φ off)(h2:φ off<m)(hb:∀i:Nat,last<i->i<off->φ i=0)(hm:0<m):Sn m φ (QfM side last off (φ off)) off:=by
 have ht:=h.tt
 unfold QfM
 by_cases z:(off:Int) > last+1
 ·rw[Ud z]
  have a1:AdjN m (side++[(0,(off:Int) - last-1)]):=Qb2 h.adj (by omega) hm (by omega) h.ne
  have a2:AdjN m (side++[(0,(off:Int) - last-1)]++[(φ off,1)]):=Qb2 a1 h1 h2 (by omega) (λq hq=>by
   have:(0,(off:Int) - last-1)=q:=by simpa using hq
   subst this;exact λe=>h0 e.symm)
  have t1:tot (side++[(0,(off:Int) - last-1)])=off:=by rw[Jz];show tot side+(((off:Int) - last-1).toNat+0)=off;omega
  refine⟨by rw[Jz,t1];show((off+((1:Int).toNat+0):Nat):Int)=_;omega,λi hi=>?_,a2,λp hp=>by
   have:(φ off,(1:Int))=p:=by simpa using hp
   subst this;exact h0⟩
  rw[Jz,t1]at hi
  rw[Qaf _ _ a1,t1]
  by_cases y:i<off
  ·rw[Ud y,Qaf _ _ h.adj]
   by_cases x:i<tot side
   ·rw[Ud x];exact h.ce i x
   ·rw[Ue x,Qag,Ud (by omega)]
    exact(hb i (by omega) y).symm
  ·have hi:i<off+((1:Int).toNat+0):=hi
   have:i=off:=by omega
   subst this
   rw[Ue y,Qag,Ud (by omega)]
 ·rw[Ue z]
  have he:(off:Int)=last+1:=by omega
  have ho:tot side=off:=by omega
  have fin:(∀p,side.getLast?=some p->p.1≠φ off)->Sn m φ (side++[(φ off,1)]) off:=λhne=>by
   refine⟨by rw[Jz,ho];show((off+((1:Int).toNat+0):Nat):Int)=_;omega,λi hi=>?_,Qb2 h.adj h1 h2 (by omega) hne,λp hp=>by
    have:(φ off,(1:Int))=p:=by simpa using hp
    subst this;exact h0⟩
   rw[Jz,ho]at hi
   rw[Qaf _ _ h.adj,ho]
   by_cases y:i<off
   ·rw[Ud y];exact h.ce i (by omega)
   ·have hi:i<off+((1:Int).toNat+0):=hi
    have:i=off:=by omega
    subst this
    rw[Ue y,Qag,Ud (by omega)]
  cases hg:side.getLast? with
  |none=>dsimp only;exact fin (by rw[hg];simp)
  |some p =>
   obtain⟨t,k⟩:=p
   dsimp only
   by_cases e:t=φ off
   ·rw[Ud e]
    obtain⟨a,ha⟩:∃a,side=a++[(t,k)]:=⟨side.dropLast,by
     have hne:side≠[]:=by rintro rfl;simp at hg
     rw[List.getLast?_eq_some_getLast hne]at hg
     have:=List.dropLast_concat_getLast hne
     rw[Option.some.inj hg]at this
     exact this.symm⟩
    subst ha
    rw[BC,<-e]
    have hadj:=h.adj
    have ha:=Qkw hadj
    have hk:1<=k:=by
     have:∀{a:Sts},AdjN m (a++[(t,k)])->1<=k:=λ{a}=>by
      induction a with
      |nil=>intro h;exact h.2.2.1
      |cons q r ih=>intro h;exact ih h.2.2.2.2
     exact this hadj
    have ho:tot a+(k.toNat+0)=off:=by rw[Jz]at ho;exact ho
    refine⟨by rw[Jz];show((tot a+((k+1).toNat+0):Nat):Int)=_;omega,λi hi=>?_,Qkv hadj,λp hp=>by
     have:(t,k+1)=p:=by simpa using hp
     subst this;rw[e];exact h0⟩
    rw[Jz]at hi
    have hi:i<tot a+((k+1).toNat+0):=hi
    rw[Qaf _ _ ha]
    by_cases y:i<off
    ·have:=h.ce i (by rw[Jz];show i<tot a+(k.toNat+0);omega)
     rw[Qaf _ _ ha]at this
     rw[<-this]
     by_cases x:i<tot a
     ·rw[Ud x,Ud x]
     ·rw[Ue x,Ue x,Qag,Qag,Ud (by omega),Ud (by omega)]
    ·have:i=off:=by omega
     subst this
     rw[Ue (by omega),Qag,Ud (by omega),e]
   ·rw[Ue e];exact fin (λq hq=>by rw[hg]at hq;cases hq;exact e)
theorem Sn.done{m:Int}{φ:Nat->Int}{side s:Sts}{last:Int}(h:Sn m φ side last)(hb:∀i:Nat,last<i->φ i=0)(hs:Q9 m s)(hc:∀i,φ i=QA s i):side=s:=by
 have ht:=h.tt
 have hg:Q9 m side:=by
  rcases QcE side with rfl|⟨a,p,rfl⟩
  ·trivial
  ·exact QgQ (h.ne p (by simp)) h.adj
 refine Qe8 hg hs λi=>?_
 rw[<-hc]
 by_cases z:i<tot side
 ·exact h.ce i z
 ·rw[QgR h.adj (by omega),hb i (by omega)]
theorem Sn.start(m:Int)(φ:Nat->Int):Sn m φ [] (-1):=⟨rfl,λi hi=>by simp[tot]at hi,trivial,by simp⟩
theorem Qjc{α:Type}{s:Nat}{xs:List α}{F H:α->D}{P:α->Bool}{t:MG}{c:MT}{e:ME}{n:Nat}{cap:List Nat}{σ:S3}{g0 g:G}{a:ME}(hs:g[s]?=some (.lst (xs.map F)))(hz:xs.length<=100000)(ha:a σ g0=.ok (.ref s) g)(I:S3->Prop)(h0:I (capt n cap σ))(step:∀x∈xs,∀σ',I σ'->∃σ1,t (F x) σ'=some σ1/\I σ1/\c σ1 g=.ok (P x) g/\e σ1 g=.ok (H x) g):YI (QO a) n cap t c e σ g0=.ok (.ref g.length) (g++[.lst ((xs.filter P).map H)]):=by
 have hit:QO a σ g0=.ok (srcL s xs.length) g:=by
  unfold QO
  rw[ha,Res.bind_ok]
  unfold Qak
  dsimp only
  rw[hs]
  dsimp only
  rw[Ur]
  try rfl
 obtain⟨ys,σ',g3,c1,c2,c3,_⟩:=Yd (src:=srcL s xs.length) (t:=t) (c:=c) (e:=e) (n:=xs.length)
  (λi σ' g4 acc=>acc=((xs.take i).filter P).map H/\g4=g/\I σ') (λi σ' g4 acc hi hQ=>by
   obtain⟨q1,q2,q3⟩:=hQ
   subst q2
   obtain⟨σ1,e1,e2,e3,e4⟩:=step xs[i] (UK hi) σ' q3
   refine⟨F xs[i],σ1,g4,?_,e1,?_⟩
   ·show(match g4[s]? with|some (.lst es)=>some es[i]? | _=>none)=_
    rw[hs];dsimp only;rw[Uy,UL hi];rfl
   ·rw[UN hi,List.filter_append]
    cases hp:P xs[i]with
    |true=>rw[hp]at e3;exact .inl ⟨H xs[i],g4,e3,e4,by rw[q1];simp[hp],rfl,e2⟩
    |false=>rw[hp]at e3;exact .inr ⟨e3,by rw[q1];simp[hp],rfl,e2⟩) (λσ g4 acc hQ=>by
   show(match g4[s]? with|some (.lst es)=>some es[xs.length]? | _=>none)=_
   rw[hQ.2.1,hs];dsimp only;rw[Ta (by simp)]) (xs.length+1) 0 (capt n cap σ) g [] (by omega) (by omega) ⟨rfl,rfl,h0⟩
 rw[Ri]at c2
 subst c2 c3
 exact Qd3 hit (U3 (QbB hz)) rfl c1
theorem Qpn{a b:Bool}{g:G}:pEq (.bl a) (.bl b) g=.ok (.bl (a == b)) g:=rfl
theorem QfN{f:Int->Int}{is:List Int}{P:Int->Bool}{h:Int->Int}(hn:is.Nodup)(hinj:∀x y,h x=h y->x=y):(QG ((is.filter P).map h)).Pairwise (· < ·)/\∀o,o∈QG ((is.filter P).map h)↔∃x∈is,P x=true/\h x=o:=by
 have hp:=QH ((is.filter P).map h)
 have hs:=YR ((is.filter P).map h)
 have hnd:((is.filter P).map h).Nodup:=by
  have h1:(is.filter P).Nodup:=hn.filter _
  unfold List.Nodup at h1 ⊢
  rw[RT]
  exact h1.imp λhab e=>hab (hinj _ _ e)
 have hn':(QG ((is.filter P).map h)).Nodup:=hp.nodup_iff.mpr hnd
 refine⟨(hs.and hn').imp λ⟨a,b⟩=>by omega,λo=>?_⟩
 rw[hp.mem_iff,Ry]
 constructor
 ·rintro ⟨x,hx,e⟩
  have:=RC.mp hx
  exact⟨x,this.1,this.2,e⟩
 ·rintro ⟨x,hx,h1,e⟩
  exact⟨x,RC.mpr ⟨hx,h1⟩,e⟩
noncomputable def Zp(c:Cn)(d u v:Nat)(x0:D)(w y:Int)(x7 x8 x9 x10:Option D):S3:=[some x0,some (.int c.st),some (.int c.pl),some (.ref d),some (.tup [.ref u,.ref v]),some (.int w),some (.int y),x7,x8,x9,x10]
theorem Qjd(n:Nat):ixD (n+1) (-1)=some n:=QgD n
theorem Qje{c:Cn}{d u v q:Nat}{x0:D}{w y:Int}{x7 x10:Option D}{ks:List (DK×D)}{g:G}{side:Sts}{last:Int}{off:Nat}{φ:Nat->Int}(hd:g[d]?=some (.dct ks))(hf:DF ks c.f)(hq:pIx (.tup [.ref u,.ref v]) (.int w) g=.ok (.ref q) g)(hq2:∀o,pIx (.tup [.ref u,.ref v]) (.int w) (g.set q o)=.ok (.ref q) (g.set q o))(hs:g[q]?=some (.lst (stsD side)))(hx:c.f (c.pl+y*((off:Int)+1-w))=φ off)(h0:φ off≠0)(hy:cM y)(hl:last+1<=off)(hz:side.length<=90000):
  ∃x10',Js (Zp c d u v x0 w y x7 (some (.int last)) (some (.int off)) x10) g=.nx (Zp c d u v x0 w y x7 (some (.int off)) (some (.int off)) x10') (g.set q (.lst (stsD (QfM side last off (φ off))))):=by
 have p1:pDIx (.ref d) (.int (c.pl+y*((off:Int)+1-w))) g=.ok (.int (φ off)) g:=by unfold pDIx;dsimp only;rw[hd];dsimp only;rw[hf.get,hx,Ue h0]
 refine⟨some (.int (φ off)),?_⟩
 unfold Js
 refine Qg (Zp c d u v x0 w y x7 (some (.int last)) (some (.int off)) (some (.int (φ off)))) g (by simp[Zp,mulL hy,p1]) ?_
 have hz1:(stsD side).length<SZ:=QbB (by simp[stsD];omega)
 unfold QfM
 by_cases z:(off:Int) > last+1
 ·rw[Ud z]
  have hap:∀(g:G)(ds:List D)(e:ME)(y':D)(σ:S3),mOp2 pIx (mVar 4) (mVar 5) σ g=.ok (.ref q) g->g[q]?=some (.lst ds)->e σ g=.ok y' g->ds.length<SZ->Zq (ZM (mOp2 pIx (mVar 4) (mVar 5)) e) σ g=.nx σ (g.set q (.lst (ds++[y']))):=λg ds e y' σ a1 a2 a3 a4=>QeV a1 a2 a3 a4
  refine Qg (Zp c d u v x0 w y x7 (some (.int last)) (some (.int off)) (some (.int (φ off)))) (g.set q (.lst (stsD side++[stD (0,(off:Int) - last-1)]))) (ift g (by simp[Zp];omega) (hap g _ _ _ _ (by simp[Zp,hq]) hs (by simp[Zp,SZ,stD]) hz1)) ?_
  have hs2:=QK (u:=.lst (stsD side++[stD (0,(off:Int) - last-1)])) hs
  have hne:¬(off:Int)=last+1:=by omega
  refine Qg (Zp c d u v x0 w y x7 (some (.int last)) (some (.int off)) (some (.int (φ off)))) _ (iff' _ (by simp[Zp,hne]) (hap _ _ _ (stD (φ off,1)) _ (by simp[Zp,hq2]) hs2 (by simp[Zp,SZ,stD]) (QbB (by simp[stsD];omega)))) ?_
  rw[RZ]
  simp[Zp,stsD]
 ·rw[Ue z]
  have he:(off:Int)=last+1:=by omega
  refine Qg (Zp c d u v x0 w y x7 (some (.int last)) (some (.int off)) (some (.int (φ off)))) g (iff' g (by simp[Zp];omega) rfl) ?_
  have hln:=QbA hs
  have app:Zq (ZM (mOp2 pIx (mVar 4) (mVar 5)) (mOpA pTup (Qb (mVar 10) (Qb (mLit (.int 1)) mNil)))) (Zp c d u v x0 w y x7 (some (.int last)) (some (.int off)) (some (.int (φ off)))) g=.nx (Zp c d u v x0 w y x7 (some (.int last)) (some (.int off)) (some (.int (φ off)))) (g.set q (.lst (stsD side++[stD (φ off,1)]))):=QeV (by simp[Zp,hq]) hs (by simp[Zp,SZ,stD]) hz1
  rcases QcE side with rfl|⟨a,p,rfl⟩
  ·refine Qg _ _ (iff' g (by simp[Zp,he,hq,hln,stsD]) app) (by simp[Zp,stsD])
  ·obtain⟨t,k⟩:=p
   have hs':g[q]?=some (.lst (stD (t,k)::(stsD a).reverse).reverse):=by rw[hs];simp[stsD]
   have hlast:pIx (.ref q) (.int (-1)) g=.ok (.tup [.int t,.int k]) g:=Qd4 hs'
   have hs3:g[q]?=some (.lst (stsD a++[stD (t,k)])):=by rw[hs];simp[stsD]
   have hg:(a++[(t,k)]).getLast?=some (t,k):=by simp
   rw[hg]
   dsimp only
   by_cases e:t=φ off
   ·rw[Ud e,BC]
    refine Qg (Zp c d u v x0 w y x7 (some (.int last)) (some (.int off)) (some (.int (φ off)))) (g.set q (.lst (stsD a++[stD (φ off,k+1)]))) (ift g (by simp[Zp,he,hq,hln,hlast,stsD,e]) ?_) (by simp[Zp,stsD])
    unfold YN
    simp[Zp,hq,hlast,SZ,hs3,Qjd,stD]
   ·rw[Ue e]
    refine Qg _ _ (iff' g (by simp[Zp,he,hq,hln,hlast,stsD,e]) app) (by simp[Zp,stsD])
theorem Qjf(side:Sts)(last off s:Int):(QfM side last off s).length<=side.length+2:=by
 unfold QfM
 split
 ·simp
 ·split
  ·split
   ·simp;omega
   ·simp
  ·simp
theorem Qe9{c:Cn}{d u v q m:Nat}{x0:D}{w y:Int}{x7 x8 x9 x10:Option D}{ks:List (DK×D)}{g:G}{φ:Nat->Int}{s:Sts}(hd:g[d]?=some (.dct ks))(hf:DF ks c.f)(hk:ks.length<=30000)(hq:∀g,pIx (.tup [.ref u,.ref v]) (.int w) g=.ok (.ref q) g)(hs:g[q]?=some (.lst []))(hw:(w=0/\y = -1)\/(w=1/\y=1))(hφ:∀off:Nat,c.f (c.pl+y*((off:Int)+1-w))=φ off)(hm:∀x,0<=c.f x/\c.f x<m)(hG:Q9 m s)(hc:∀i,φ i=QA s i):
  ∃y7 y8 y9 y10 g',Qaz (Zp c d u v x0 w y x7 x8 x9 x10) g=.nx (Zp c d u v x0 w y y7 y8 y9 y10) g'/\g'[q]?=some (.lst (stsD s))/\Keeps [q] g g':=by
 obtain⟨is,k1,k2,k3⟩:=hf.keys
 have hil:=Qb0 k1
 have hsl:(QG is).length=is.length:=(QH is).length_eq
 have hqd:q≠d:=λe=>by rw[e,hd]at hs;cases hs
 have hcy:cM y:=by rcases hw with⟨_,rfl⟩|⟨_,rfl⟩ <;> exact⟨by decide,by decide⟩
 -- the spots
 have p1:QbJ (.ref d) g=.ok (.ref g.length) (g++[.lst (is.map .int)]):=by
  unfold QbJ;dsimp only;rw[hd];dsimp only;rw[k1];dsimp only;rw[Ud (by omega)]
 have g1:=QW (g:=g) (.lst (is.map D.int))
 have kp1:Keeps [] g (g++[.lst (is.map D.int)]):=.push _
 generalize g.length=n1 at p1 g1
 generalize g++[.lst (is.map D.int)]=h1 at p1 g1 kp1
 have p2:Zu (.ref n1) h1=.ok (.ref h1.length) (h1++[.lst ((QG is).map .int)]):=by
  unfold Zu;rw[ZY g1];dsimp only;rw[Qa4]
 have g2:=QW (g:=h1) (.lst ((QG is).map D.int))
 have kp2:Keeps [] h1 (h1++[.lst ((QG is).map D.int)]):=.push _
 generalize h1.length=n2 at p2 g2
 generalize h1++[.lst ((QG is).map D.int)]=h2 at p2 g2 kp2
 let S:Option D->Option D->Option D->Option D->S3:=Zp c d u v x0 w y
 have ha:mOp1 Zu (mOp1 QbJ (mVar 3)) (S x7 x8 x9 x10) g=.ok (.ref n2) h2:=Ji (Ji (x:=.ref d) (g1:=g) rfl p1) p2
 let P:Int->Bool:=λx=>decide (x<c.pl) == (w == 0)
 let hh:Int->Int:=λx=>(x-c.pl)*y-1+w
 have c1:=Qjc (F:=D.int) (H:=λx=>.int (hh x)) (P:=P) (t:=gSet 0) (c:=Qk (mOp2 pEq (mOp2 pLt (mVar 0) (mVar 3)) (mOp2 pEq (mVar 1) (mLit (.int 0))))) (e:=mOp2 pAdd (mOp2 pSub (mOp2 pMul (mOp2 pSub (mVar 0) (mVar 3)) (mVar 2)) (mLit (.int 1))) (mVar 1)) (n:=1) (cap:=[5,6,2]) (σ:=S x7 x8 x9 x10) (g0:=g) (a:=mOp1 Zu (mOp1 QbJ (mVar 3))) g2 (by omega) ha (λσ=>∃z,σ=[z,some (.int w),some (.int y),some (.int c.pl)]) ⟨_,rfl⟩ (λx hx σ' ⟨z,hz⟩=>by
  subst hz
  exact⟨[some (.int x),some (.int w),some (.int y),some (.int c.pl)],rfl,⟨_,rfl⟩,by simp[Qpn,P],by simp[mulR hcy,hh]⟩)
 have kp3:Keeps [] h2 (h2++[.lst (((QG is).filter P).map λx=>.int (hh x))]):=.push _
 have g3:=QW (g:=h2) (.lst (((QG is).filter P).map λx=>D.int (hh x)))
 generalize h2.length=n3 at c1 g3
 generalize h2++[.lst (((QG is).filter P).map λx=>D.int (hh x))]=h3 at c1 g3 kp3
 have e3:((QG is).filter P).map (λx=>D.int (hh x))=(((QG is).filter P).map hh).map D.int:=by rw[List.map_map];rfl
 rw[e3]at g3
 have p4:Zu (.ref n3) h3=.ok (.ref h3.length) (h3++[.lst ((QG (((QG is).filter P).map hh)).map .int)]):=by
  unfold Zu;rw[ZY g3];dsimp only;rw[Qa4]
 have hnd:(QG is).Nodup:=(QH is).nodup_iff.mpr k2
 have hinj:∀a b,hh a=hh b->a=b:=λa b e=>by
  rcases hw with⟨rfl,rfl⟩|⟨rfl,rfl⟩ <;> (simp only[hh]at e;omega)
 obtain⟨o1,o2⟩:=QfN (f:=c.f) (P:=P) hnd hinj
 have hlen:(QG (((QG is).filter P).map hh)).length<=30000:=by
  rw[(QH _).length_eq,Ur]
  have:=Wb P (QG is)
  omega
 generalize hoff:QG (((QG is).filter P).map hh)=offs at *
 -- what an offset is
 have hmem:∀o,o∈offs↔0<=o/\φ o.toNat≠0:=λo=>by
  rw[o2]
  constructor
  ·rintro ⟨x,hx,hp,e⟩
   have hx:=(k3 x).mp ((QH is).mem_iff.mp hx)
   rcases hw with⟨rfl,rfl⟩|⟨rfl,rfl⟩
   ·have hp:x<c.pl:=by simpa[P]using hp
    have e:(x-c.pl) * -1-1+0=o:=e
    refine⟨by omega,?_⟩
    rw[<-hφ,show c.pl + -1*(((o.toNat:Nat):Int)+1-0)=x by omega]
    exact hx
   ·have hp:¬x<c.pl:=by simpa[P]using hp
    have e:(x-c.pl)*1-1+1=o:=e
    refine⟨by omega,?_⟩
    rw[<-hφ,show c.pl+1*(((o.toNat:Nat):Int)+1-1)=x by omega]
    exact hx
  ·rintro ⟨h0,h1⟩
   rw[<-hφ]at h1
   refine⟨_,(QH is).mem_iff.mpr ((k3 _).mpr h1),?_,?_⟩
   ·rcases hw with⟨rfl,rfl⟩|⟨rfl,rfl⟩
    ·have:c.pl + -1*(((o.toNat:Nat):Int)+1-0)<c.pl:=by omega
     simp only[P,UC this];rfl
    ·have:¬c.pl+1*(((o.toNat:Nat):Int)+1-1)<c.pl:=by omega
     simp only[P,UB this];rfl
   ·rcases hw with⟨rfl,rfl⟩|⟨rfl,rfl⟩ <;> (simp only[hh];omega)
 have kp4:Keeps [] h3 (h3++[.lst (offs.map D.int)]):=.push _
 have g4:=QW (g:=h3) (.lst (offs.map D.int))
 generalize hn4:h3.length=n4 at p4 g4
 have kpp:=((kp1.trans kp2).trans kp3).trans kp4
 have hqn:q≠n4:=λe=>by
  have h3q:=((kp1.trans kp2).trans kp3).at' _ _ (by simp) hs
  have:=ZI h3q
  omega
 generalize h3++[.lst (offs.map D.int)]=h4 at p4 g4 kp4 kpp
 have hd4:=kpp.at' _ _ (by simp) hd
 have hs4:=kpp.at' _ _ (by simp) hs
 -- the loop
 obtain⟨σ',g',f1,side,last,q1,q2,q3,q4,q5,q0,y9,y10,q6⟩:=Qd0 (src:=srcL n4 offs.length) (t:=gSet 9) (body:=Js) (n:=offs.length) (σ:=S (some (.ref n3)) (some (.int (-1))) x9 x10) (g:=h4) rfl
  (λi σ g'=>∃side last,g'[q]?=some (.lst (stsD side))/\Sn m φ side last/\(∀(j:Nat) o,j<i->offs[j]?=some o->o<=last)/\(∀(j:Nat) o,i<=j->offs[j]?=some o->last<o)/\Keeps [q] h4 g'/\side.length<=2*i/\∃y9 y10,σ=S (some (.ref n3)) (some (.int last)) y9 y10) ⟨[],-1,hs4,Sn.start _ _,λj o hj=>by omega,λj o _ ho=>by have:=(hmem o).mp (Rt ho);omega,.refl,Uc _,_,_,rfl⟩ (λi σ g' hi ⟨side,last,q1,q2,q3,q4,q5,q0,y9,y10,hσ⟩=>by
   subst hσ
   have hoi:offs[i]?=some offs[i]:=by simp[hi]
   have hmi:=(hmem offs[i]).mp (UK hi)
   obtain⟨o,ho⟩:∃o:Nat,offs[i]=(o:Int):=⟨offs[i].toNat,by omega⟩
   rw[ho]at hmi hoi
   have hmi2:φ o≠0:=by simpa using hmi.2
   have hlo:=q4 i o (Uc _) hoi
   have hfo:=hm (c.pl+y*((o:Int)+1-w))
   rw[hφ]at hfo
   have hside:side.length<=90000:=by omega
   obtain⟨z10,e1⟩:=Qje (last:=last) (off:=o) (φ:=φ) (x0:=x0) (x7:=some (.ref n3)) (x10:=y10) (q5.at' _ _ (by simpa using hqd.symm) hd4) hf (hq g') (λo=>hq _) q1 (hφ o) hmi2 hcy (by omega) hside
   have hgap:∀j:Nat,last<j->j<o->φ j=0:=λj h1 h2=>by
    apply T5
    intro hne
    have:(j:Int)∈offs:=(hmem j).mpr ⟨by omega,by simpa using hne⟩
    obtain⟨k,hk',ek⟩:=U1 this
    have hk2:offs[k]?=some (j:Int):=by simp[hk',ek]
    rcases Nat.lt_trichotomy k i with z|z|z
    ·have:=q3 k j z hk2;omega
    ·subst z;rw[hoi]at hk2;cases hk2;omega
    ·have:=(T7.mp o1) i k hi hk' z
     rw[ho,ek]at this;omega
   refine⟨.int o,S (some (.ref n3)) (some (.int last)) (some (.int o)) y10,_,_,?_,rfl,e1,QfM side last o (φ o),o,QK q1,q2.turn (by omega) hmi2 hfo.1 hfo.2 hgap (by omega),λj o' hj ho'=>?_,λj o' hj ho'=>?_,q5.trans (.set _ _),by have:=Qjf side last o (φ o);omega,_,_,rfl⟩
   ·show(match g'[n4]? with|some (.lst es)=>some es[i]? | _=>none)=_
    rw[q5.at' _ _ (by simpa using hqn.symm) g4];dsimp only;rw[Uy,hoi];rfl
   ·by_cases z:j<i
    ·have:=q3 j o' z ho';omega
    ·have:j=i:=by omega
     subst this;rw[hoi]at ho';cases ho';omega
   ·have hj2:=(Ul.mp ho')
    obtain⟨hj3,ej⟩:=hj2
    have:=(T7.mp o1) i j hi hj3 (by omega)
    rw[ho,ej]at this;exact this) (λσ g' ⟨_,_,_,_,_,_,q5,_,_⟩=>by
   show(match g'[n4]? with|some (.lst es)=>some es[offs.length]? | _=>none)=_
   rw[q5.at' _ _ (by simpa using hqn.symm) g4];dsimp only;rw[Ta (by simp)])
 subst q6
 have hend:side=s:=q2.done (λj hj=>by
  apply T5
  intro hne
  have:(j:Int)∈offs:=(hmem j).mpr ⟨by omega,by simpa using hne⟩
  obtain⟨k,hk',ek⟩:=U1 this
  have:=q3 k j hk' (by simp[hk',ek])
  omega) hG hc
 subst hend
 refine⟨some (.ref n3),some (.int last),y9,y10,g',?_,q1,(kpp.mono (by simp)).trans q5⟩
 unfold Qaz
 refine Qg (S (some (.ref n3)) x8 x9 x10) h3 (Zc c1) (Qg (S (some (.ref n3)) (some (.int (-1))) x9 x10) h3 rfl ?_)
 have hit:QO (mOp1 Zu (mVar 7)) (S (some (.ref n3)) (some (.int (-1))) x9 x10) h3=.ok (srcL n4 offs.length) h4:=by
  unfold QO
  rw[Ji (x:=.ref n3) (g1:=h3) rfl p4,Res.bind_ok]
  unfold Qak
  dsimp only
  rw[g4]
  dsimp only
  rw[Ur]
  try rfl
 rw[Qap hit]
 exact f1
theorem ixT0{a b:D}{g:G}:pIx (.tup [a,b]) (.int 0) g=.ok a g:=Qof
theorem ixT1{a b:D}{g:G}:pIx (.tup [a,b]) (.int 1) g=.ok b g:=Qog
theorem Qms{n m d:Nat}{c:Cn}{ks:List (DK×D)}{g:G}{S:RowN}(hd:g[d]?=some (.dct ks))(hf:DF ks c.f)(hk:ks.length<=30000)(ho:OkN n m S)(h:RF S c)(hm:∀x,0<=c.f x/\c.f x<m):
  ∃u v g',QdW [shL c d] g=.ok (.tup [.int S.st,.ref u,.ref v]) g'/\g'[u]?=some (.lst (stsD S.L))/\g'[v]?=some (.lst (stsD (putN S.R S.own 1)))/\Keeps [] g g':=by
 have hR:=Jx (c:=1) ho.R ho.o0 ho.o1
 have cR:∀i:Nat,c.f (c.pl+i)=QA (putN S.R S.own 1) i:=λi=>by
  cases i with
  |zero=>rw[(YW ho.R).1,<-h.own];simp
  |succ i=>rw[(YW ho.R).2,<-h.R];congr 1;omega
 have kp:Keeps [] g (g++[.lst [],.lst []]):=⟨by simp,λk o _ e=>JF e⟩
 have u0:(g++[.lst [],.lst []])[g.length]?=some (.lst []):=gt0
 have v0:(g++[.lst [],.lst []])[g.length+1]?=some (.lst []):=gt1
 have e0:mOpA pTup (Qb (mOpA newL mNil) (Qb (mOpA newL mNil) mNil)) [some (shL c d),some (.int c.st),some (.int c.pl),some (.ref d),none,none,none,none,none,none,none] g=.ok (.tup [.ref g.length,.ref (g.length+1)]) (g++[.lst [],.lst []]):=by simp[SZ]
 have huv:g.length≠g.length+1:=by omega
 have hgl:∀x,g.length<=x->x=g.length\/x=g.length+1->g.length<=x:=λx h _=>h
 generalize hu:g.length=u at u0 v0 e0 huv
 generalize hv:u+1=v at v0 e0 huv
 generalize g++[GO.lst [],GO.lst []]=g1 at kp u0 v0 e0
 obtain⟨y7,y8,y9,y10,g2,f2,s2,k2⟩:=Qe9 (c:=c) (d:=d) (u:=u) (v:=v) (q:=u) (x0:=shL c d) (w:=0) (y:=-1) (x7:=none) (x8:=none) (x9:=none) (x10:=none) (φ:=λi=>c.f (c.pl-1-i)) (s:=S.L) (kp.at' _ _ (by simp) hd) hf hk (λg=>ixT0) u0 (.inl ⟨rfl,rfl⟩) (λoff=>by congr 1;omega) hm ho.L (λi=>h.L i)
 have hdl:=ZI hd
 obtain⟨z7,z8,z9,z10,g3,f3,s3,k3⟩:=Qe9 (c:=c) (d:=d) (u:=u) (v:=v) (q:=v) (x0:=shL c d) (w:=1) (y:=1) (x7:=y7) (x8:=y8) (x9:=y9) (x10:=y10) (φ:=λi=>c.f (c.pl+i)) (s:=putN S.R S.own 1) (k2.at' _ _ (by simp;omega) (kp.at' _ _ (by simp) hd)) hf hk (λg=>ixT1) (k2.at' _ _ (by simpa using huv.symm) v0) (.inr ⟨rfl,rfl⟩) (λoff=>by congr 1;omega) hm hR cR
 refine⟨u,v,g3,QX rfl (?_:QdV [some (shL c d),none,none,none,none,none,none,none,none,none,none] g=_),k3.at' _ _ (by simpa using huv) s2,s3,(kp.over k2 (by simp;omega)).over k3 (by simp;omega)⟩
 unfold QdV
 refine Qg [some (shL c d),some (.int c.st),some (.int c.pl),some (.ref d),none,none,none,none,none,none,none] g rfl (Qg [some (shL c d),some (.int c.st),some (.int c.pl),some (.ref d),some (.tup [.ref u,.ref v]),none,none,none,none,none,none] g1 (Zc e0) (Qg (Zp c d u v (shL c d) 1 1 z7 z8 z9 z10) g3 ?_ ?_))
 ·have e5:QO (mOpA pTup (Qb (mOpA pTup (Qb (mLit (.int 0)) (Qb (mOp1 pNeg (mLit (.int 1))) mNil))) (Qb (mOpA pTup (Qb (mLit (.int 1)) (Qb (mLit (.int 1)) mNil))) mNil))) [some (shL c d),some (.int c.st),some (.int c.pl),some (.ref d),some (.tup [.ref u,.ref v]),none,none,none,none,none,none] g1=.ok ⟨λ_ i=>some ([D.tup [.int 0,.int (-1)],D.tup [.int 1,.int 1]]:List D)[i]?,2⟩ g1:=rfl
  rw[Qap e5]
  show forL _ _ _ 3 0 _ _=_
  have st1:Yh [gSet 5,gSet 6] (.tup [.int 0,.int (-1)]) [some (shL c d),some (.int c.st),some (.int c.pl),some (.ref d),some (.tup [.ref u,.ref v]),none,none,none,none,none,none]=some (Zp c d u v (shL c d) 0 (-1) none none none none):=rfl
  have st2:Yh [gSet 5,gSet 6] (.tup [.int 1,.int 1]) (Zp c d u v (shL c d) 0 (-1) y7 y8 y9 y10)=some (Zp c d u v (shL c d) 1 1 y7 y8 y9 y10):=rfl
  simp[forL,st1,st2,f2,f3]
 ·simp[Zp,SZ,h.st]
theorem Qjg{rows:List (List D)}{n m:Nat}(T:Tb rows n m):∀(k:Nat)(c:Cn),CnOk n m c->CnOk n m (runF rows k c).1
 |0,c,h=>h
 |k+1,c,h=>by
  cases hs:JW rows c with
  |none=>rw[YE hs];exact h
  |some c'=>rw[Ye hs];exact Qjg T k c' (Qi9 T h hs)
noncomputable def YG(t:Nat)(x1:D)(steps:Int)(c:Cn)(d:Nat)(done:Int)(x7:Option D):S3:=[some (.ref t),some x1,some (.int steps),some (.int c.st),some (.int c.pl),some (.ref d),some (.int done),x7]
theorem Qfa{rows:List (List D)}{N n m t d B:Nat}{x1:D}{steps:Int}(T:Tb rows n m)(hN:N<=d):∀(k:Nat)(c:Cn)(ks:List (DK×D))(g:G)(done:Int)(x7:Option D),done+k=steps->CnOk n m c->tabB N g t rows->g[d]?=some (.dct ks)->DF ks c.f->ks.length<=B->B+k<=90000 ->
  ∃g' ks',g'[d]?=some (.dct ks')/\DF ks' (runF rows k c).1.f/\ks'.length<=B+(runF rows k c).2/\Keeps [d] g g' /\
   (Zv (Qk (mOp2 pLt (mVar 6) (mVar 2))) ZC (k+2) (YG t x1 steps c d done x7) g=.rt (.tup [shL (runF rows k c).1 d,.int (done+(runF rows k c).2)]) g'\/∃y7,Zv (Qk (mOp2 pLt (mVar 6) (mVar 2))) ZC (k+2) (YG t x1 steps c d done x7) g=.nx (YG t x1 steps (runF rows k c).1 d (done+(runF rows k c).2) y7) g')
 |0,c,ks,g,done,x7,hs,ho,ht,hd,hf,hk,hB=>by
  refine⟨g,ks,hd,hf,by show ks.length<=B+0;omega,.refl,.inr ⟨x7,?_⟩⟩
  unfold Zv
  have tc:Qk (mOp2 pLt (mVar 6) (mVar 2)) (YG t x1 steps c d done x7) g=.ok false g:=by simp[YG];omega
  rw[tc]
  simp[runF]
 |k+1,c,ks,g,done,x7,hs,ho,ht,hd,hf,hk,hB=>by
  unfold Zv
  have tc:Qk (mOp2 pLt (mVar 6) (mVar 2)) (YG t x1 steps c d done x7) g=.ok true g:=by simp[YG];omega
  rw[tc]
  dsimp only
  have h0:=ho.f c.pl
  obtain⟨row,e,hr,hrd,he,hat⟩:=T.at ho.st (c:=(c.f c.pl).toNat) (by omega)
  obtain⟨y,p1,p2,_⟩:=Qom ht hr hrd
  rw[TN h0.1]at p2
  have hst:JW rows c=goF e c:=by unfold JW;rw[hat];rfl
  have s1:mAsg (gSet 7) (mOp2 pIx (mOp2 pIx (mVar 0) (mVar 3)) (QeO (mVar 5) (mVar 4) (mLit (.int 0)))) (YG t x1 steps c d done x7) g=.nx (YG t x1 steps c d done (some e)) g:=by
   refine Zc (Qa0 (x:=.ref y) (y:=.int (c.f c.pl)) (g1:=g) (g2:=g) (Qa0 (x:=.ref t) (y:=.int c.st) (g1:=g) (g2:=g) rfl rfl p1) ?_ p2)
   rw[Qmm (n:=d) (ks:=ks) (i:=c.pl) (z:=.int 0) rfl hd rfl rfl,hf.getD]
  rcases he with rfl|⟨a,b,z,rfl,a0,a1,b0,b1,_⟩
  ·have hn:JW rows c=none:=by rw[hst];rfl
   have eb:ZC (YG t x1 steps c d done x7) g=.rt (.tup [shL c d,.int done]) g:=by
    unfold ZC
    exact Qg _ g s1 (Qgz (ift g rfl (by simp[YG,SZ,shL])))
   rw[eb,YE hn]
   exact⟨g,ks,hd,hf,by dsimp only;omega,.refl,.inl (by simp)⟩
  ·obtain⟨c',hc'⟩:∃c',c'=(⟨b.toNat,if z=rS then c.pl+1 else c.pl-1,updF c.f c.pl a⟩:Cn):=⟨_,rfl⟩
   have hn:JW rows c=some c':=by rw[hst,hc'];rfl
   have s3:Qhi (mVar 5) (mVar 4) (mOp2 pIx (mVar 7) (mLit (.int 0))) (YG t x1 steps c d done (some (.tup [.int a,.str z,.int b]))) g=.nx (YG t x1 steps c d done (some (.tup [.int a,.str z,.int b]))) (g.set d (.dct (dPut ks (.inl c.pl) (.int a)))):=Qmn (by simp[YG]) rfl rfl hd (by omega)
   have d3:=QK (u:=.dct (dPut ks (.inl c.pl) (.int a))) hd
   obtain⟨g4,s4,d4,k4⟩:∃g4,mIf (Qk (mOp2 pEq (mOp2 pIx (mVar 7) (mLit (.int 0))) (mLit (.int 0)))) (Zq (QiK (mVar 5) (mVar 4))) QN (YG t x1 steps c d done (some (.tup [.int a,.str z,.int b]))) (g.set d (.dct (dPut ks (.inl c.pl) (.int a))))=.nx (YG t x1 steps c d done (some (.tup [.int a,.str z,.int b]))) g4/\g4[d]?=some (.dct (putC ks c.pl a))/\Keeps [d] g g4:=by
    by_cases ha:a=0
    ·refine⟨(g.set d (.dct (dPut ks (.inl c.pl) (.int a)))).set d (.dct (QbI (dPut ks (.inl c.pl) (.int a)) (.inl c.pl))),ift _ (by simp[YG,ha]) (Qd2 (d:=.int a) (Qmo rfl rfl d3 (by rw[Qec,Ud rfl]))),?_,(Keeps.set _ _).trans (.set _ _)⟩
     rw[QK d3];unfold putC;rw[Ud ha]
    ·refine⟨g.set d (.dct (dPut ks (.inl c.pl) (.int a))),iff' _ (by simp[YG,ha]) rfl,?_,.set _ _⟩
     rw[d3];unfold putC;rw[Ue ha]
   have hcl:=Qkt ks c.pl a
   have hf4:DF (putC ks c.pl a) c'.f:=by rw[hc'];exact hf.put
   obtain⟨g5,ks5,z1,z2,z3,z4,z5⟩:=Qfa (x1:=x1) (steps:=steps) (B:=B+1) T hN k c' (putC ks c.pl a) g4 (done+1) (some (.tup [.int a,.str z,.int b])) (by omega) (Qi9 T ho hn) (ht.mono k4 (by simpa using hN)) d4 hf4 (by omega) (by omega)
   have eb:ZC (YG t x1 steps c d done x7) g=.nx (YG t x1 steps c' d (done+1) (some (.tup [.int a,.str z,.int b]))) g4:=by
    unfold ZC
    refine Qg _ g s1 (Qg _ g (iff' g rfl rfl) (Qg _ _ s3 (Qg _ g4 s4 ?_)))
    rw[hc']
    by_cases hz:z=rS <;> simp[YG,eq_str,s_r',hz] <;> omega
   rw[eb]
   dsimp only
   rw[Ye hn]
   refine⟨g5,ks5,z1,z2,by dsimp only;omega,k4.trans z4,?_⟩
   dsimp only
   rw[show done+(((runF rows k c').2+1:Nat):Int)=done+1+((runF rows k c').2:Int) by omega]
   exact z5
theorem Qmt{rows:List (List D)}{N n m t d B k:Nat}{c:Cn}{ks:List (DK×D)}{g:G}(T:Tb rows n m)(hN:N<=d)(ho:CnOk n m c)(ht:tabB N g t rows)(hd:g[d]?=some (.dct ks))(hf:DF ks c.f)(hk:ks.length<=B)(hB:B+k<=90000):
  ∃g' ks',QdZ [.ref t,shL c d,.int k] g=.ok (.tup [shL (runF rows k c).1 d,.int (runF rows k c).2]) g'/\g'[d]?=some (.dct ks')/\DF ks' (runF rows k c).1.f/\ks'.length<=B+(runF rows k c).2/\Keeps [d] g g':=by
 obtain⟨g',ks',z1,z2,z3,z4,z5⟩:=Qfa (x1:=shL c d) (steps:=k) (B:=B) T hN k c ks g 0 none (by omega) ho ht hd hf hk hB
 simp only[Int.zero_add]at z5
 refine⟨g',ks',QX rfl (?_:QdY [some (.ref t),some (shL c d),some (.int k),none,none,none,none,none] g=_),z1,z2,z3,z4⟩
 unfold QdY
 refine Qg [some (.ref t),some (shL c d),some (.int k),some (.int c.st),some (.int c.pl),some (.ref d),none,none] g rfl (Qg (YG t (shL c d) k c d 0 none) g rfl ?_)
 rcases z5 with z5|⟨y7,z5⟩
 ·exact Qgz (QbZ z5 (by intro z;cases z))
 ·exact Qg _ g' (QbZ z5 (by intro z;cases z)) (by simp[YG,SZ,shL])
noncomputable def rowD(S:RowN)(a b:Nat):D:=.tup [.int S.st,.ref a,.ref b]
noncomputable def JG(S:RowN)(a b:Nat)(gone done leaps:Int):D:=.tup [rowD S a b,.int gone,.int done,.int leaps]
def RowIn(n m:Nat)(g:G)(S:RowN)(a b:Nat):Prop:=StR n m g (rowD S a b) S.st S.L (putN S.R S.own 1) a b
noncomputable def Qjh(st:Nat)(L R:Sts):RowN:=⟨st,L,Qx R,Qw R 1⟩
noncomputable def tooS:Str:=Str.ofString "too long"
theorem Qa5{rows:List (List D)}{n m M k:Nat}{d:D}{steps:Int}{g:G}{st:Nat}{L R:Sts}{a b:Nat}(T:Tb rows n m)(hM:g[M]?=some (Jv rows))(h:StR n m g d st L R a b)(hz:L.length+R.length+min k steps.toNat<80000):
  ∃g',Keeps [] g g'/\(match runN rows k (Qjh st L R) steps with
   |none=>Jt [.ref M,d,.int steps,.int k] g=.ok (.str tooS) g'
   |some q=>∃a' b',RowIn n m g' q.1 a' b'/\Jt [.ref M,d,.int steps,.int k] g=.ok (JG q.1 a' b' q.2.1 q.2.2.1 q.2.2.2) g'/\q.1.L.length+q.1.R.length<=L.length+R.length+min k steps.toNat):=by
 obtain⟨g',k1,y⟩:=Qi3 (k:=k) (steps:=steps) T hM h hz
 refine⟨g',k1,?_⟩
 have hr0:runN rows k (Qjh st L R) steps=runN rows k ⟨st,L,Qx R,Qw R 1⟩ steps:=rfl
 rw[hr0]
 have s0:mAsg (gSet 4) (mLit .non) [some (.ref M),some d,some (.int steps),some (.int k),none] g=.nx [some (.ref M),some d,some (.int steps),some (.int k),some .non] g:=rfl
 cases hr:runN rows k ⟨st,L,Qx R,Qw R 1⟩ steps with
 |none =>
  rw[hr]at y
  refine QX rfl (Qg _ g s0 (Qg [some (.ref M),some d,some (.int steps),some (.int k),some (.str tooS)] g' ?_ rfl))
  unfold mTry
  simp[y,runH,tooS]
 |some q =>
  rw[hr]at y
  obtain⟨a',b',e1,e2,e3⟩:=y
  refine⟨a',b',e2,QX rfl (Qg _ g s0 (Qg [some (.ref M),some d,some (.int steps),some (.int k),some (JG q.1 a' b' q.2.1 q.2.2.1 q.2.2.2)] g' ?_ rfl)),e3⟩
  unfold mTry
  simp[e1,JG,rowD]
theorem Qa6{n m:Nat}{S:RowN}(ho:OkN n m S):Qjh S.st S.L (putN S.R S.own 1)=S:=by
 unfold Qjh
 have q1:Qx (putN S.R S.own 1)=S.own:=Qkk (by omega)
 have q2:Qw (putN S.R S.own 1) 1=S.R:=by
  have:=Qkm (t:=S.own) (x:=0) ho.R (.inr rfl)
  rw[drop_zero ho.R]at this
  exact this
 rw[q1,q2]
theorem StR.ok{n m:Nat}{g:G}{d:D}{st:Nat}{L R:Sts}{a b:Nat}(h:StR n m g d st L R a b)(hm:0<m):OkN n m (Qjh st L R):=by
 have hn:=Qd5 h.R' hm
 exact⟨h.s',hn.1,hn.2,h.L',YC h.R'⟩
theorem RowIn.mono{n m:Nat}{g g1:G}{S:RowN}{a b:Nat}(h:RowIn n m g S a b)(k:Keeps [] g g1):RowIn n m g1 S a b:=StR.mono h k
theorem Qdn{n m:Nat}{g:G}{S:RowN}{a b c d:Nat}{x y:Int}(h1:RowIn n m g S a b)(h2:RowIn n m g S c d)(hz:S.L.length+S.R.length<=900):∃g',ZB 6 [.tup [rowD S a b,.int x,.int y],.tup [rowD S c d,.int x,.int y]] g=.ok (.bl true) g'/\Keeps [] g g':=by
 have hp:=JX S.R S.own 1
 refine QfJ (.seq 5 _ _ false [rowD S a b,.int x,.int y] [rowD S c d,.int x,.int y] rfl rfl rfl (by simp) (λi u v e1 e2=>?_)) g .refl
 match i,e1,e2 with
 |0,e1,e2=>cases e1;cases e2;exact Qks (f:=1) h1.a' h1.b' h2.a' h2.b' (by omega) (by omega)
 |1,e1,e2=>cases e1;cases e2;exact .int _ _
 |2,e1,e2=>cases e1;cases e2;exact .int _ _
 |i+3,e1,_=>simp at e1
theorem Qji{rows:List (List D)}{n m:Nat}(T:Tb rows n m):∀(K:Nat)(S:RowN)(w:Int) q,OkN n m S->0<=w->runN rows K S w=some q->q.2.2.2<=q.2.2.1
 |K,S,w,q,ho,h0,h=>by
  by_cases hw:w<=0
  ·rw[Jk hw]at h;cases h;exact UZ _
  ·cases hn:YD rows S w with
   |none=>rw[Qaq hn]at h;cases h;exact UZ _
   |some r =>
    obtain⟨o1,s1,s2⟩:=Qbn T ho (by omega) hn
    cases K with
    |zero=>rw[Qht (by omega) hn]at h;cases h
    |succ K =>
     rw[JV (by omega) hn]at h
     cases hr:runN rows K r.1 (w-r.2.1) with
     |none=>rw[hr]at h;cases h
     |some q' =>
      rw[hr]at h;cases h
      have:=Qji T K r.1 (w-r.2.1) q' o1 (by omega) hr
      dsimp only;omega
theorem Qjj{rows:List (List D)}{n m:Nat}(T:Tb rows n m):∀(K:Nat)(S:RowN)(w:Int) q,OkN n m S->0<=w->runN rows K S w=some q->(q.1.L.length:Int)+q.1.R.length<=S.L.length+S.R.length+q.2.2.2
 |K,S,w,q,ho,h0,h=>by
  by_cases hw:w<=0
  ·rw[Jk hw]at h;cases h;simp
  ·cases hn:YD rows S w with
   |none=>rw[Qaq hn]at h;cases h;simp
   |some r =>
    obtain⟨o1,s1,s2⟩:=Qbn T ho (by omega) hn
    have hl:r.1.L.length+r.1.R.length<=S.L.length+S.R.length+1:=by
     unfold YD at hn
     cases he:QeY rows S.st S.own.toNat with
     |none=>rw[he]at hn;cases hn
     |some d=>rw[he]at hn;exact QgG hn
    cases K with
    |zero=>rw[Qht (by omega) hn]at h;cases h
    |succ K =>
     rw[JV (by omega) hn]at h
     cases hr:runN rows K r.1 (w-r.2.1) with
     |none=>rw[hr]at h;cases h
     |some q' =>
      rw[hr]at h;cases h
      have:=Qjj T K r.1 (w-r.2.1) q' o1 (by omega) hr
      dsimp only;omega
theorem StR.monoD{n m:Nat}{g g1:G}{x:D}{st:Nat}{L R:Sts}{a b d:Nat}{ks:List (DK×D)}(h:StR n m g x st L R a b)(kp:Keeps [d] g g1)(hd:g[d]?=some (.dct ks)):StR n m g1 x st L R a b :=
 ⟨h.d',kp.at' _ _ (by simp;rintro rfl;cases h.a'.symm.trans hd) h.a',kp.at' _ _ (by simp;rintro rfl;cases h.b'.symm.trans hd) h.b',h.L',h.R',h.s'⟩
theorem Qkx{σ:S3}{g:G}{f f':D->D->G->Res D}{a b c:ME}{x y z:Int}{p:Bool}(ha:a σ g=.ok (.int x) g)(hb:b σ g=.ok (.int y) g)(hc:c σ g=.ok (.int z) g)(h1:f (.int x) (.int y) g=.ok (.bl true) g)(h2:f' (.int y) (.int z) g=.ok (.bl p) g):JJ f f' a b c σ g=.ok (.bl p) g:=by
 unfold JJ;simp[ha,hb,hc,h1,h2,Res.bind]
theorem QfO{rows:List (List D)}{N n m M t d B k a b:Nat}{c:Cn}{ks:List (DK×D)}{S:RowN}{g:G}(T:Tb rows n m)(hM:g[M]?=some (Jv rows))(hN:N<=d)(ht:tabB N g t rows)(hco:CnOk n m c)(hd:g[d]?=some (.dct ks))(hf:DF ks c.f)(hk:ks.length<=B)(hB:B+k<=20000)(ho:OkN n m S)(hS:RowIn n m g S a b)(h:RF S c)(hz:S.L.length+S.R.length+k<=800):
  ∃S' a' b' ks' g',QaB [.ref M,.ref t,shL c d,rowD S a b,.int k] g=.ok (.tup [shL (runF rows k c).1 d,rowD S' a' b',.int (runF rows k c).2]) g'/\RF S' (runF rows k c).1/\OkN n m S'/\RowIn n m g' S' a' b'/\g'[d]?=some (.dct ks')/\DF ks' (runF rows k c).1.f/\ks'.length<=B+(runF rows k c).2/\S'.L.length+S'.R.length<=S.L.length+S.R.length+(runF rows k c).2/\Keeps [d] g g':=by
 obtain⟨g1,ks1,e1,d1,f1,l1,k1⟩:=Qmt (k:=k) T hN hco ht hd hf hk (by omega)
 have hM1:=k1.at' _ _ (by simp;rintro rfl;cases hM.symm.trans hd) hM
 have hS1:RowIn n m g1 S a b:=StR.monoD hS k1 hd
 have hp:=JX S.R S.own 1
 obtain⟨q,hq⟩:=Qbo T k S (k:Nat) ho (UZ _)
 obtain⟨g2,k2,y2⟩:=Qa5 (k:=k) (steps:=(k:Nat)) T hM1 hS1 (by omega)
 rw[Qa6 ho,hq]at y2
 obtain⟨a',b',r2,e2,l2⟩:=y2
 obtain⟨z1,z2,z3⟩:=Qac T k k S c q ho h hq
 obtain⟨oq,_,_,lp,_⟩:=QeZ T k S (k:Nat) q ho (by omega) hq
 have hle:=Qji T k S (k:Nat) q ho (by omega) hq
 have hgl:=Qjj T k S (k:Nat) q ho (by omega) hq
 have hrl:=QfK (rows:=rows) k c
 have d2:=k2.at' _ _ (by simp) d1
 obtain⟨u,v,g3,e3,u3,v3,k3⟩:=Qms d2 f1 (by omega) oq z1 (Qjg T k c hco).f
 have r3:RowIn n m g3 q.1 u v:=⟨rfl,u3,v3,oq.L,Jx oq.R oq.o0 oq.o1,oq.st⟩
 obtain⟨g4,e4,k4⟩:=Qdn (x:=q.2.1) (y:=q.2.2.1) (r2.mono k3) r3 (by omega)
 have kk:=(k2.trans k3).trans k4
 refine⟨q.1,a',b',ks1,g4,QX rfl (?_:QaA [some (.ref M),some (.ref t),some (shL c d),some (rowD S a b),some (.int k),none,none,none] g=_),z1,oq,(r2.mono k3).mono k4,kk.at' _ _ (by simp) d1,f1,l1,by rw[z3]at hle;omega,k1.trans (kk.mono (by simp))⟩
 let Z:D->Option D->Option D->Option D->S3:=λx2 x5 x6 x7=>[some (.ref M),some (.ref t),some x2,some (rowD S a b),some (.int k),x5,x6,x7]
 unfold QaA
 refine Qg (Z (shL c d) (some (.int c.pl)) none none) g (by simp[Z,shL]) ?_
 refine Qg (Z (shL (runF rows k c).1 d) (some (.int c.pl)) (some (.int (runF rows k c).2)) none) g1 ?_ ?_
 ·unfold mAsg
  rw[QR (ds:=[.ref t,shL c d,.int k]) (g':=g) rfl,e1]
  rfl
 refine Qg (Z (shL (runF rows k c).1 d) (some (.int c.pl)) (some (.int (runF rows k c).2)) (some (JG q.1 a' b' q.2.1 q.2.2.1 q.2.2.2))) g2 (Zc (by rw[QR (ds:=[.ref M,rowD S a b,.int k,.int k]) (g':=g1) rfl];exact e2)) ?_
 have sl:QaJ (JG q.1 a' b' q.2.1 q.2.2.1 q.2.2.2) none (some 3) g2=.ok (.tup [rowD q.1 a' b',.int q.2.1,.int q.2.2.1]) g2:=rfl
 refine Qg (Z (shL (runF rows k c).1 d) (some (.int c.pl)) (some (.int (runF rows k c).2)) (some (JG q.1 a' b' q.2.1 q.2.2.1 q.2.2.2))) g4 (iff' g4 ?_ rfl) ?_
 ·refine Qn7 (g1:=g2) (Jw (Qa0 (x:=JG q.1 a' b' q.2.1 q.2.2.1 q.2.2.2) (y:=.str "too long") (g1:=g2) (g2:=g2) rfl rfl rfl)) (QiU (Jw ?_))
  rw[QR (ds:=[.tup [rowD q.1 a' b',.int q.2.1,.int q.2.2.1],.tup [rowD q.1 u v,.int q.2.1,.int q.2.2.1]]) (g':=g3)]
  ·exact e4
  ·refine Zh (g1:=g2) (by simp[Z,sl]) (Zh (g1:=g3) (Qe7 (xs:=[rowD q.1 u v,.int q.2.1,.int q.2.2.1]) (g1:=g3) (Zh (g1:=g3) ?_ (Zh (g1:=g3) ?_ (Zh (g1:=g3) ?_ rfl))) (by simp[SZ])) rfl)
   ·rw[QR (ds:=[shL (runF rows k c).1 d]) (g':=g2) rfl];exact e3
   ·rw[z2];simp[Z,shL]
   ·rw[z3];rfl
 refine Qg (Z (shL (runF rows k c).1 d) (some (.int c.pl)) (some (.int (runF rows k c).2)) (some (JG q.1 a' b' q.2.1 q.2.2.1 q.2.2.2))) g4 (iff' g4 (QiU (Jw (Qkx (x:=0) (y:=q.2.2.2) (z:=(runF rows k c).2) rfl (by simp[Z,JG]) rfl ?_ ?_))) rfl) ?_
 ·simp[lp]
 ·rw[z3]at hle;simp[hle]
 ·simp[Z,JG,SZ]
theorem Qfb{rows:List (List D)}{n m M a b:Nat}{S:RowN}{g:G}{far cut:Int}(T:Tb rows n m)(hM:g[M]?=some (Jv rows))(ho:OkN n m S)(hS:RowIn n m g S a b)(hz:S.L.length+S.R.length<=500)(h0:0<=cut)(h1:cut<=far):
  ∃g',Ju [.ref M,rowD S a b,.int far,.int cut] g=.ok (.bl true) g':=by
 have hp:=JX S.R S.own 1
 obtain⟨g1,k1,y1⟩:=Qa5 (k:=300) (steps:=far) T hM hS (by omega)
 rw[Qa6 ho,show((300:Nat):Int)=300 from rfl]at y1
 let Z:Option D->Option D->Option D->S3:=λx4 x5 x6=>[some (.ref M),some (rowD S a b),some (.int far),some (.int cut),x4,x5,x6]
 cases hr:runN rows 300 S far with
 |none =>
  rw[hr]at y1
  refine⟨g1,QX rfl (?_:ZQ (Z none none none) g=_)⟩
  unfold ZQ
  refine Qg (Z (some (.str tooS)) none none) g1 (Zc (by rw[QR (ds:=[.ref M,rowD S a b,.int far,.int 300]) (g':=g) rfl];exact y1)) (Qgz (ift g1 ?_ rfl))
  simp[Z,eq_str,tooS]
 |some q =>
  rw[hr]at y1
  obtain⟨a1,b1,r1,e1,l1⟩:=y1
  obtain⟨qa,qb,x1,x2,x3,x4,x5,_⟩:=QfH T 300 S far cut q ho h0 h1 hr
  obtain⟨oa,_⟩:=QeZ T 301 S cut qa ho h0 (x1 301 (by omega))
  obtain⟨g2,k2,y2⟩:=Qa5 (k:=301) (steps:=cut) T (k1.at' _ _ (by simp) hM) (hS.mono k1) (by omega)
  rw[Qa6 ho,x1 301 (by omega),show((301:Nat):Int)=301 from rfl]at y2
  obtain⟨a2,b2,r2,e2,l2⟩:=y2
  have hp2:=JX qa.1.R qa.1.own 1
  obtain⟨g3,k3,y3⟩:=Qa5 (k:=301) (steps:=far-cut) T ((k1.trans k2).at' _ _ (by simp) hM) r2 (by omega)
  rw[Qa6 oa,x2 301 (by omega),show((301:Nat):Int)=301 from rfl]at y3
  obtain⟨a3,b3,r3,e3,l3⟩:=y3
  rw[x3]at r3 l3
  obtain⟨g4,e4,k4⟩:=Qdn (x:=q.2.1) (y:=q.2.2.1) r3 ((r1.mono k2).mono k3) (by omega)
  refine⟨g4,QX rfl (?_:ZQ (Z none none none) g=_)⟩
  unfold ZQ
  refine Qg (Z (some (JG q.1 a1 b1 q.2.1 q.2.2.1 q.2.2.2)) none none) g1 (Zc (by rw[QR (ds:=[.ref M,rowD S a b,.int far,.int 300]) (g':=g) rfl];exact e1)) (Qg _ g1 (iff' g1 rfl rfl) ?_)
  refine Qg (Z (some (JG q.1 a1 b1 q.2.1 q.2.2.1 q.2.2.2)) (some (JG qa.1 a2 b2 qa.2.1 qa.2.2.1 qa.2.2.2)) none) g2 (Zc (by rw[QR (ds:=[.ref M,rowD S a b,.int cut,.int 301]) (g':=g1) rfl];exact e2)) (Qg _ g2 (iff' g2 rfl rfl) ?_)
  refine Qg (Z (some (JG q.1 a1 b1 q.2.1 q.2.2.1 q.2.2.2)) (some (JG qa.1 a2 b2 qa.2.1 qa.2.2.1 qa.2.2.2)) (some (JG qb.1 a3 b3 qb.2.1 qb.2.2.1 qb.2.2.2))) g3 (Zc (by rw[QR (ds:=[.ref M,rowD qa.1 a2 b2,.int (far-cut),.int 301]) (g':=g2) rfl];exact e3)) (Qg _ g3 (iff' g3 rfl rfl) (Qdl ?_))
  rw[QR (ds:=[.tup [rowD q.1 a3 b3,.int q.2.1,.int q.2.2.1],.tup [rowD q.1 a1 b1,.int q.2.1,.int q.2.2.1]]) (g':=g3)]
  ·exact e4
  ·have sl:QaJ (JG q.1 a1 b1 q.2.1 q.2.2.1 q.2.2.2) none (some 3) g3=.ok (.tup [rowD q.1 a1 b1,.int q.2.1,.int q.2.2.1]) g3:=rfl
   refine Zh (g1:=g3) ?_ (Zh (g1:=g3) (by simp[Z,sl]) rfl)
   unfold JG
   simp[Z,SZ,x4,x5,x3,rowD]
theorem QfP{g:G}{M a:Nat}{rows:List (List D)}{k:Int}(h:g[M]?=some (Jv rows))(hc:cnt g a k):M≠a:=λe=>by
 subst e
 cases h.symm.trans hc
theorem Qoo{rows:List (List D)}{n m N t:Nat}{g g0:G}{σ:S3}{e:MA}(T:Tb rows n m)(ht:tabOf N g t rows)(he:e σ g0=.ok [.ref t] g):∃g',Keeps [] g g'/\Qdw 11 Ze e σ g0=.ok (.ref g.length) g'/\g'[g.length]?=some (Jv rows):=by
 have n0:=T.n0;have m0:=T.m0;have n12:=T.n12;have m8:=T.m8
 have hgood:=entOk.good T.n0 T.m0 T.len T.row T.ent
 obtain⟨g2,kp2,e2,hM2⟩:=Qmd (.ref t) rows g ht.rows (λr hr=>by rw[T.row r hr];exact U3 (QiT (by omega))) (by rw[T.len];exact U3 (QiT (by omega))) (λr hr d hd=>(T.ent r hr d hd).thing) e σ g0 he
 rw[Ud hgood]at e2
 exact⟨g2,kp2,e2,hM2 hgood⟩
theorem cn0{rows:List (List D)}{n m:Nat}(T:Tb rows n m):CnOk n m c0:=⟨T.n0,λx=>⟨UZ _,by have:=T.m0;show(0:Int)<m;omega⟩⟩
noncomputable def sLaw(ns:List Int)(t M d:Nat)(c:Cn)(S:RowN)(a b:Nat)(total:Int)(x7 x8 x9 x10 x11:Option D):S3:=[some (.fl (ns.map .int)),some (.ref 0),some (.ref t),some (.ref M),some (shL c d),some (rowD S a b),some (.int total),x7,x8,x9,x10,x11]
def tabR(A B:Nat)(g:G)(t:Nat)(rows:List (List D)):Prop:=A<=t/\t<B/\∃ds,g[t]?=some (.lst ds)/\∀(i:Nat)(row:List D),rows[i]?=some row->∃n,A<=n/\n<B/\ds[i]?=some (.ref n)/\g[n]?=some (.lst row)
theorem tabR.b{A B:Nat}{g:G}{t:Nat}{rows:List (List D)}(h:tabR A B g t rows):tabB B g t rows:=by
 obtain⟨_,h2,ds,h3,h4⟩:=h
 exact⟨h2,ds,h3,λi row hr=>let ⟨n,_,a,b,c⟩:=h4 i row hr;⟨n,a,b,c⟩⟩
theorem tabR.mono{A B:Nat}{S:List Nat}{g g1:G}{t:Nat}{rows:List (List D)}(h:tabR A B g t rows)(k:Keeps S g g1)(hS:∀n∈S,n<A\/B<=n):tabR A B g1 t rows:=by
 obtain⟨h1,h2,ds,h3,h4⟩:=h
 refine⟨h1,h2,ds,k.at' _ _ (λhm=>by have:=hS t hm;omega) h3,λi row hr=>?_⟩
 obtain⟨n,a1,a2,a3,a4⟩:=h4 i row hr
 exact⟨n,a1,a2,a3,k.at' _ _ (λhm=>by have:=hS n hm;omega) a4⟩
theorem tabOf.r{N:Nat}{g:G}{t:Nat}{rows:List (List D)}(h:tabOf N g t rows):tabR N g.length g t rows:=by
 obtain⟨h1,ds,h3,h4,h5⟩:=h
 refine⟨h1,ZI h3,ds,h3,λi row hr=>?_⟩
 have hi:=(Ul.mp hr).1
 have hx:ds[i]?=some (ds[i]'(by omega)):=by simp[show i<ds.length by omega]
 obtain⟨n,e,q1,q2,q3⟩:=h5 i _ row hx hr
 rw[e]at hx
 exact⟨n,q1,ZI q3,hx,q3⟩
structure Ahead(rows:List (List D))(n m A N t M d:Nat)(g:G)(i tt:Nat)(c:Cn)(S:RowN)(a b:Nat):Prop where
 mach:g[M]?=some (Jv rows)
 tab:tabR A N g t rows
 cfg:runF rows tt c0=(c,tt)
 le:tt<=300
 dict:∃ks,g[d]?=some (.dct ks)/\DF ks c.f/\ks.length<=tt
 ok:OkN n m S
 row:RowIn n m g S a b
 rf:RF S c
 len:S.L.length+S.R.length<=tt
 cn:∃k:Int,cnt g 0 k/\0<=k/\k<=1000+2*i
theorem RowIn.monoA{n m:Nat}{g g1:G}{S:RowN}{a b:Nat}{k:Int}(h:RowIn n m g S a b)(kp:Keeps [0] g g1)(hc:cnt g 0 k):RowIn n m g1 S a b:=by
 have hn:∀{q:Nat}{s:Sts},g[q]?=some (.lst (stsD s))->q≠0:=λ{q s} hq e=>by
  subst e
  have:=hq.symm.trans hc
  injection this with this
  injection this with this
  cases s with
  |nil=>cases this
  |cons p r=>simp[stsD,stD]at this
 exact⟨h.d',kp.at' _ _ (by simpa using hn h.a') h.a',kp.at' _ _ (by simpa using hn h.b') h.b',h.L',h.R',h.s'⟩
theorem Qmu{rows:List (List D)}{n m A N t M d i tt a b:Nat}{c:Cn}{S:RowN}{g:G}{ns:List Int}{x:Int}{x9 x10 x11:Option D}(T:Tb rows n m)(hN:N<=d)(hA:0<A)(h:Ahead rows n m A N t M d g i tt c S a b)(hi:i<63):
  ∃(tt':Nat)(c':Cn)(S':RowN)(a' b':Nat)(y9 y10:Option D)(g':G),QbY (sLaw ns t M d c S a b tt (some (.int i)) (some (.int x)) x9 x10 x11) g=.nx (sLaw ns t M d c' S' a' b' tt' (some (.int i)) (some (.int x)) y9 y10 x11) g'/\Ahead rows n m A N t M d g' (i+1) tt' c' S' a' b'/\Keeps [0,d] g g':=by
 obtain⟨k,hc,hk0,hk1⟩:=h.cn
 obtain⟨ks,hd,hf,hkl⟩:=h.dict
 have hle:=h.le
 have hln:=h.len
 obtain⟨v,v1,v2,e1⟩:=Qcz ns 0 k g hc hk0 (by omega)
 have kp1:Keeps [0] g (g.set 0 (.lst [.int (k+1)])):=.set _ _
 have c1:cnt (g.set 0 (.lst [.int (k+1)])) 0 (k+1):=QK hc
 generalize g.set 0 (.lst [.int (k+1)])=g1 at e1 kp1 c1
 have hd0:d≠0:=by rintro rfl;cases hd.symm.trans hc
 have d1:=kp1.at' _ _ (by simpa using hd0) hd
 have hM1:=kp1.at' _ _ (by simpa using QfP h.mach hc) h.mach
 have t1:=h.tab.mono kp1 (by simp;omega)
 have r1:=h.row.monoA kp1 hc
 obtain⟨w,hw⟩:∃w:Nat,(if 300 - (tt:Int)<(x%97+v) % 18 then 300 - (tt:Int) else (x%97+v) % 18)=(w:Int):=⟨(if 300 - (tt:Int)<(x%97+v) % 18 then 300 - (tt:Int) else (x%97+v) % 18).toNat,by split <;> omega⟩
 have hw17:w<=17/\tt+w<=300:=by split at hw <;> omega
 have hcc:CnOk n m c:=by
  have:=Qjg T tt c0 (cn0 T)
  rw[h.cfg]at this
  exact this
 obtain⟨S',a',b',ks',g2,e2,z1,z2,z3,z4,z5,z6,z7,kp2⟩:=QfO (k:=w) (B:=tt) T hM1 hN t1.b hcc d1 hf hkl (by omega) h.ok r1 h.rf (by omega)
 have hadd:=QgC (rows:=rows) tt w c0 (by rw[h.cfg])
 rw[h.cfg]at hadd
 dsimp only at hadd
 obtain⟨c',hc'⟩:∃c',c'=(runF rows w c).1:=⟨_,rfl⟩
 obtain⟨dn,hdn⟩:∃dn,dn=(runF rows w c).2:=⟨_,rfl⟩
 have hdw:dn<=w:=by rw[hdn];exact QfK _ _
 rw[<-hc',<-hdn]at hadd e2
 rw[<-hc']at z1 z5
 rw[<-hdn]at z6 z7
 have hcfg:runF rows (tt+dn) c0=(c',tt+dn):=by
  obtain⟨_,m2,m3⟩:=QgP (rows:=rows) (tt+w) c0 (tt+dn)
  rw[hadd]at m2 m3
  dsimp only at m2 m3
  exact Prod.ext (m3 (Uc _) (by omega)) (m2 (Uc _))
 have c2:=kp2.at' _ _ (by simpa using hd0.symm) c1
 have hM2:=kp2.at' _ _ (by simp;rintro rfl;cases hM1.symm.trans d1) hM1
 have t2:=t1.mono kp2 (by simp;omega)
 let Z:Cn->RowN->Nat->Nat->Int->Option D->Option D->S3:=λc S a b tt y9 y10=>sLaw ns t M d c S a b tt (some (.int i)) (some (.int x)) y9 y10 x11
 -- now and then the whole run anew
 obtain⟨g3,kp3,t3⟩:∃g3,Keeps [] g2 g3/\Qat (Qk (mOp2 pEq (mOp2 pMod (mVar 7) (mLit (.int 16))) (mLit (.int 3)))) (JI (Qk (Qn (ZB 6) (Qb (Qn Yc (QfE (Qb (mVar 3) (Qb (mVar 6) mNil)) (.int 5000))) (Qb (mOpA pTup (Qb (Qn QbX (Qb (mVar 4) mNil)) (Qb (mVar 6) mNil))) mNil))))) (Z c' S' a' b' ((tt+dn:Nat):Int) (some (.int w)) (some (.tup [shL c' d,rowD S' a' b',.int dn]))) g2=.ok false g3:=by
  by_cases h3:(i:Int) % 16=3
  ·have sl:SL g2 c' (shL c' d) (tt+dn):=⟨d,ks',rfl,z4,z5,z6⟩
   obtain⟨q,hq⟩:=Qbo T 5000 ⟨0,[],0,[]⟩ ((tt+dn:Nat):Int) (Qb1 T) (by omega)
   obtain⟨_,_,y⟩:=Qku (k:=5000) (w:=tt+dn) (steps:=((tt+dn:Nat):Int)) T hM2 (.inl rfl) (by omega)
   rw[hq]at y
   rw[hcfg]at y
   dsimp only at y
   -- the marks,known from the dict
   obtain⟨is,j1,j2,j3⟩:=z5.keys
   have hmk:=z5.marks j1
   have hml:((QG is).map λx=>(x,c'.f x)).length<=1000:=by
    rw[Ur,(QH is).length_eq,Qb0 j1]
    omega
   obtain⟨g4,kp4,e4⟩:=y _ hmk (by omega)
   obtain⟨Mk,g5,e5,hMk,hMl,kp5⟩:=Qja (sl.mono kp4 (by simp)) (by omega)
   have hu:=hMk.uniq hmk
   subst hu
   obtain⟨g6,e6,kp6⟩:=Qjb g5 c' (M:=_) hml ((tt+dn:Nat):Int)
   refine⟨g6,(kp4.trans kp5).trans kp6,?_⟩
   rw[Qmg]
   have hb:Qk (mOp2 pEq (mOp2 pMod (mVar 7) (mLit (.int 16))) (mLit (.int 3))) (Z c' S' a' b' ((tt+dn:Nat):Int) (some (.int w)) (some (.tup [shL c' d,rowD S' a' b',.int dn]))) g2=.ok true g2:=by simp[Z,sLaw,h3]
   rw[hb]
   dsimp only
   rw[Ud rfl]
   refine QiU (Jw ?_)
   rw[QR (ds:=[.tup [QbL c' ((QG is).map λx=>(x,c'.f x)),.int ((tt+dn:Nat):Int)],.tup [QbL c' ((QG is).map λx=>(x,c'.f x)),.int ((tt+dn:Nat):Int)]]) (g':=g5)]
   ·exact e6
   ·refine Zh (g1:=g4) ?_ (Zh (g1:=g5) (Qe7 (xs:=[QbL c' ((QG is).map λx=>(x,c'.f x)),.int ((tt+dn:Nat):Int)]) (g1:=g5) (Zh (g1:=g5) ?_ (Zh (g1:=g5) rfl rfl)) (by simp[SZ])) rfl)
    ·rw[QR (ds:=[.ref M,.int ((tt+dn:Nat):Int),.int 5000]) (g':=g2) rfl];exact e4
    ·rw[QR (ds:=[shL c' d]) (g':=g4) rfl];exact e5
  ·exact⟨g2,.refl,by simp[Z,sLaw,h3]⟩
 refine⟨tt+dn,c',S',a',b',some (.int w),some (.tup [shL c' d,rowD S' a' b',.int dn]),g3,?_,⟨kp3.at' _ _ (by simp) hM2,t2.mono kp3 (by simp),hcfg,by omega,⟨ks',kp3.at' _ _ (by simp) z4,z5,by omega⟩,z2,z3.mono kp3,z1,?_,⟨k+1,kp3.at' _ _ (by simp) c2,by omega,by omega⟩⟩,((kp1.mono (by simp)).trans (kp2.mono (by simp))).trans (kp3.mono (by simp))⟩
 ·unfold QbY
  refine Qg (Z c S a b tt (some (.int w)) x10) g1 ?_ ?_
  ·rw[<-hw]
   simp[Z,sLaw,e1,Qhj]
  refine Qg (Z c S a b tt (some (.int w)) (some (.tup [shL c' d,rowD S' a' b',.int dn]))) g2 (Zc (by rw[QR (ds:=[.ref M,.ref t,shL c d,rowD S a b,.int w]) (g':=g1) rfl];exact e2)) ?_
  refine Qg _ g2 (iff' g2 rfl rfl) ?_
  refine Qg (Z c' S' a' b' tt (some (.int w)) (some (.tup [shL c' d,rowD S' a' b',.int dn]))) g2 (by unfold mAsg;simp[Z,sLaw,SZ,Yh,Qew,gSet]) ?_
  refine Qg (Z c' S' a' b' ((tt+dn:Nat):Int) (some (.int w)) (some (.tup [shL c' d,rowD S' a' b',.int dn]))) g2 (by simp[Z,sLaw]) ?_
  exact iff' g3 t3 rfl
 ·omega
theorem Qpo(xs:List D)(h:xs.length<=63):cutD xs none (some 63)=xs:=by
 unfold cutD sIxD
 dsimp only
 rw[Ue (by omega),List.drop_zero,Nat.sub_zero]
 exact RN (by show xs.length<=min 63 xs.length;omega)
theorem law_true(ns:List Int)(h:ns.length<=63):∃g',Qkd [.fl (ns.map .int)] []=.ok (.bl true) g':=by
 have cA:cnt ([.lst [.int 0]]:G) 0 0:=rfl
 obtain⟨A,n,m,t,rows,k1,g1,e1,t1,T,c1,h11,h12,_,haN⟩:=Qpm ns 0 0 [.lst [.int 0]] cA (by omega) (by omega)
 let Z:List (Option D)->S3:=λl=>[some (.fl (ns.map .int)),some (.ref 0),some (.ref t)]++l
 obtain⟨g2,kp2,e2,hM⟩:=Qoo (σ:=Z [none,none,none,none,none,none,none,none,none]) (e:=Qb (mVar 2) mNil) (g0:=g1) T t1 rfl
 have c2:=kp2.at' _ _ (by simp) c1
 have t2:=(t1.mono kp2 (by simp)).r
 have hM0:=QfP hM c2
 generalize g1.length=M at e2 hM hM0
 have kp3:Keeps [] g2 (g2++[.dct [],.lst [],.lst []]):=⟨by simp,λk o _ e=>JF e⟩
 have e3:mOpA pTup (Qb (mLit (.int 0)) (Qb (mLit (.int 0)) (Qb Qj5 mNil))) (Z [some (.ref M),none,none,none,none,none,none,none,none]) g2=.ok (shL c0 g2.length) (g2++[.dct []]):=by simp[Qj5,SZ,shL,c0]
 have e4:mOpA pTup (Qb (mLit (.int 0)) (Qb (mOpA newL mNil) (Qb (mOpA newL mNil) mNil))) (Z [some (.ref M),some (shL c0 g2.length),none,none,none,none,none,none,none]) (g2++[.dct []])=.ok (rowD ⟨0,[],0,[]⟩ (g2.length+1) (g2.length+2)) (g2++[.dct [],.lst [],.lst []]):=by simp[SZ,rowD]
 have hA:Ahead rows n m A g2.length t M g2.length (g2++[.dct [],.lst [],.lst []]) 0 0 c0 ⟨0,[],0,[]⟩ (g2.length+1) (g2.length+2) :=
  ⟨kp3.at' _ _ (by simp) hM,t2.mono kp3 (by simp),rfl,by omega,⟨[],gt0,df0,by simp⟩,Qb1 T,⟨rfl,gt1,gt2,trivial,trivial,T.n0⟩,QgO rows,by simp,⟨k1,kp3.at' _ _ (by simp) c2,by omega,by omega⟩⟩
 have kpl:g2.length<(g2++[GO.dct [],GO.lst [],GO.lst []]).length:=by simp
 generalize hd:g2.length=d at e3 e4 hA kpl t2
 generalize d+1=a0 at e4 hA
 generalize d+2=b0 at e4 hA
 generalize g2++[.dct []]=g3 at e3 e4
 generalize g2++[GO.dct [],GO.lst [],GO.lst []]=g4 at e4 hA kp3 kpl
 -- the script
 have kp5:Keeps [] g4 (g4++[.lst (ns.map D.int)]):=.push _
 have s5:=QW (g:=g4) (.lst (ns.map D.int))
 have p5:QaJ (.fl (ns.map .int)) none (some 63) g4=.ok (.ref g4.length) (g4++[.lst (ns.map D.int)]):=by unfold QaJ;dsimp only;rw[Qpo _ (by simpa using h)]
 have hq:g4.length≠0/\g4.length≠d:=⟨by omega,by omega⟩
 have hA5:Ahead rows n m A d t M d (g4++[.lst (ns.map D.int)]) 0 0 c0 ⟨0,[],0,[]⟩ a0 b0 :=
  ⟨kp5.at' _ _ (by simp) hA.mach,hA.tab.mono kp5 (by simp),hA.cfg,hA.le,let ⟨ks,x,y⟩:=hA.dict;⟨ks,kp5.at' _ _ (by simp) x,y⟩,hA.ok,hA.row.mono kp5,hA.rf,hA.len,let ⟨k,x,y⟩:=hA.cn;⟨k,kp5.at' _ _ (by simp) x,y⟩⟩
 generalize g4.length=q at s5 p5 hq
 generalize g4++[.lst (ns.map D.int)]=g5 at s5 p5 hA5 kp5
 have hsrc:∀(σ:S3),σ[0]?=some (some (.fl (ns.map .int)))->∃src,Qcp (Jd (mVar 0) Yi (QaK (mLit (.int 63)))) σ g4=.ok src g5/\src.top=ns.length/\∀g' i,g'[q]?=some (.lst (ns.map D.int))->src.at' g' i=(match ns[i]? with|some x=>some (some (.tup [.int i,.int x]))|none=>some none):=λσ hσ=>by
  unfold Qcp
  have e:Jd (mVar 0) Yi (QaK (mLit (.int 63))) σ g4=.ok (.ref q) g5:=by simp[hσ,p5]
  rw[e,Res.bind_ok]
  unfold QfB
  rw[ZY s5]
  refine⟨_,rfl,by simp,λg' i hg=>?_⟩
  dsimp only
  rw[ZY hg]
  dsimp only
  rw[Uy]
  cases ns[i]? <;> rfl
 obtain⟨src,hs1,hs2,hs3⟩:=hsrc (sLaw ns t M d c0 ⟨0,[],0,[]⟩ a0 b0 0 none none none none none) rfl
 obtain⟨σ6,g6,f6,tt,c,S,a,b,hA6,k6,y7,y8,y9,y10,rfl⟩:=Qd0 (t:=Yh [gSet 7,gSet 8]) (body:=QbY) (σ:=sLaw ns t M d c0 ⟨0,[],0,[]⟩ a0 b0 0 none none none none none) (g:=g5) hs2
  (λi σ g'=>∃(tt:Nat)(c:Cn)(S:RowN)(a b:Nat),Ahead rows n m A d t M d g' i tt c S a b/\Keeps [0,d] g5 g'/\∃y7 y8 y9 y10,σ=sLaw ns t M d c S a b tt y7 y8 y9 y10 none) ⟨0,c0,⟨0,[],0,[]⟩,a0,b0,hA5,.refl,none,none,none,none,rfl⟩ (λi σ g' hi ⟨tt,c,S,a,b,hA',k',y7,y8,y9,y10,hσ⟩=>by
   subst hσ
   obtain⟨tt',c',S',a',b',z9,z10,g'',e,hA'',k''⟩:=Qmu (ns:=ns) (x:=ns[i]) (x9:=y9) (x10:=y10) (x11:=none) T (Uc d) (by omega) hA' (by omega)
   refine⟨.tup [.int i,.int ns[i]],sLaw ns t M d c S a b tt (some (.int i)) (some (.int ns[i])) y9 y10 none,_,g'',?_,rfl,e,tt',c',S',a',b',hA'',k'.trans k'',_,_,_,_,rfl⟩
   rw[hs3 g' i (k'.at' _ _ (by simp;omega) s5)]
   simp[hi]) (λσ g' ⟨_,_,_,_,_,_,k',_⟩=>by
   rw[hs3 g' _ (k'.at' _ _ (by simp;omega) s5)]
   simp)
 obtain⟨k,c6,hk0,hk1⟩:=hA6.cn
 have hle:=hA6.le
 have hln:=hA6.len
 obtain⟨u,u1,e7⟩:=Qk5 ns 0 k g6 c6 hk0 (by omega)
 have kp7:Keeps [0] g6 (g6.set 0 (.lst [.int (k+1)])):=.set _ _
 have c7:cnt (g6.set 0 (.lst [.int (k+1)])) 0 (k+1):=QK c6
 generalize g6.set 0 (.lst [.int (k+1)])=g7 at e7 kp7 c7
 obtain⟨v,v1,e8⟩:=Qk5 ns 0 (k+1) g7 c7 (by omega) (by omega)
 have kp8:Keeps [0] g7 (g7.set 0 (.lst [.int (k+1+1)])):=.set _ _
 generalize g7.set 0 (.lst [.int (k+1+1)])=g8 at e8 kp8
 have r7:=hA6.row.monoA kp7 c6
 have r8:=r7.monoA kp8 c7
 have hMn:=QfP hA6.mach c6
 have hM8:=kp8.at' _ _ (by simpa using hMn) (kp7.at' _ _ (by simpa using hMn) hA6.mach)
 have hc0:0<=v % (u+1)/\v % (u+1)<u+1:=⟨Tw _ (by omega),Tk _ (by omega)⟩
 obtain⟨g9,e9⟩:=Qfb (far:=u) (cut:=v % (u+1)) T hM8 hA6.ok r8 (by omega) hc0.1 (by omega)
 refine⟨g9,QX rfl (?_:Ql8 [some (.fl (ns.map .int)),none,none,none,none,none,none,none,none,none,none,none] []=_)⟩
 unfold Ql8
 refine Qg [some (.fl (ns.map .int)),some (.ref 0),none,none,none,none,none,none,none,none,none,none] [.lst [.int 0]] (by simp[SZ]) ?_
 refine Qg (Z [none,none,none,none,none,none,none,none,none]) g1 (Zc (by rw[QR (ds:=[.fl (ns.map .int),.ref 0]) (g':=[.lst [.int 0]]) rfl];exact e1)) ?_
 refine Qg (Z [some (.ref M),none,none,none,none,none,none,none,none]) g2 (Zc e2) ?_
 refine Qg (Z [some (.ref M),some (shL c0 d),none,none,none,none,none,none,none]) g3 (Zc e3) ?_
 refine Qg (Z [some (.ref M),some (shL c0 d),some (rowD ⟨0,[],0,[]⟩ a0 b0),none,none,none,none,none,none]) g4 (Zc e4) ?_
 refine Qg (sLaw ns t M d c0 ⟨0,[],0,[]⟩ a0 b0 0 none none none none none) g4 rfl ?_
 refine Qg (sLaw ns t M d c S a b tt y7 y8 y9 y10 none) g6 ?_ ?_
 ·rw[Qap hs1];exact f6
 refine Qg (sLaw ns t M d c S a b tt y7 y8 y9 y10 (some (.int u))) g7 (Zc (by rw[QR (ds:=[.fl (ns.map .int),.ref 0]) (g':=g6) rfl];exact e7)) (Qdl ?_)
 rw[QR (ds:=[.ref M,rowD S a b,.int u,.int (v % (u+1))]) (g':=g8)]
 ·exact e9
 ·exact Zh (g1:=g7) rfl (Zh (g1:=g7) rfl (Zh (g1:=g7) rfl (Zh (g1:=g8) (Qa0 (x:=.int v) (y:=.int (u+1)) (g1:=g8) (g2:=g8) (by rw[QR (ds:=[.fl (ns.map .int),.ref 0]) (g':=g7) rfl];exact e8) rfl (Qe6 (by omega))) rfl)))
end L3
namespace V
open PySem PySem.Spec PyProof.Rows L2 L3
theorem Zi{N P:List Str}{sc:Scope}(h1:sc.kind=.function:=by rfl)(h2:sc.isCoroutine=false:=by rfl)(h3:sc.isGenerator=false:=by rfl)(h4:N.Nodup:=by decide +kernel)(h5:N.take P.length=P:=by rfl)(h6:∀x∈P,sc.names.lookup x=some .local\/sc.names.lookup x=some .cell:=by decide +kernel)(h7:∀y∈sc.names,y.2≠.free:=by decide +kernel):FnScope N P sc:=⟨h1,h2,h3,h4,h5,h6,h7⟩
noncomputable def top(i:Nat):Stmt:=PySem.Challenge.pw_tapeproof_k91_whole_fast.main.body.getD i (.Pass ⟨0,0,0,0⟩)
noncomputable abbrev Qbp:Stmt:=top 6
abbrev Qhz:List Str:=["value"]
theorem QfQ:FnScope Qhz ["value"] (Qf Qbp):=Zi
noncomputable abbrev Qbq:Stmt:=top 7
abbrev QhA:List Str:=["value", "many"]
theorem QfR:FnScope QhA ["value", "many"] (Qf Qbq):=Zi
noncomputable abbrev Yj:Stmt:=top 8
abbrev QbM:List Str:=["value"]
theorem Qbr:FnScope QbM ["value"] (Qf Yj):=Zi
noncomputable abbrev Qbs:Stmt:=top 13
abbrev QhB:List Str:=["thing", "states", "signs"]
theorem QfS:FnScope QhB ["thing", "states", "signs"] (Qf Qbs):=Zi
noncomputable abbrev YY:Stmt:=top 14
abbrev QbC:List Str:=["rows", "states", "signs", "row"]
theorem Yq:FnScope QbC ["rows"] (Qf YY):=Zi
noncomputable abbrev Q2:Stmt:=Qcb (top 15) 0
abbrev Qar:List Str:=["self", "table", "rows"]
theorem JZ:FnScope Qar ["self", "table"] (Qf Q2):=Zi
noncomputable abbrev QaD:Stmt:=top 16
abbrev QfT:List Str:=["machine"]
theorem Qfc:FnScope QfT ["machine"] (Qf QaD):=Zi
noncomputable abbrev Qbt:Stmt:=top 17
abbrev QhC:List Str:=["machine"]
theorem QfU:FnScope QhC ["machine"] (Qf Qbt):=Zi
noncomputable abbrev JA:Stmt:=top 19
abbrev Qed:List Str:=["side", "sign", "count"]
theorem Qc1:FnScope Qed ["side", "sign", "count"] (Qf JA):=Zi
noncomputable abbrev J0:Stmt:=top 20
abbrev Qfd:List Str:=["thing"]
theorem Qee:FnScope Qfd ["thing"] (Qf J0):=Zi
noncomputable abbrev YZ:Stmt:=top 21
abbrev QbD:List Str:=["side", "stretch", "following"]
theorem JB:FnScope QbD ["side"] (Qf YZ):=Zi
noncomputable abbrev Z0:Stmt:=top 22
abbrev Qbu:List Str:=["stretches"]
theorem Qa7:FnScope Qbu ["stretches"] (Qf Z0):=Zi
noncomputable abbrev Qah:Stmt:=top 23
abbrev Qdo:List Str:=["side", "first", "pace", "marks", "place", "sign", "count"]
theorem Z1:FnScope Qdo ["side", "first", "pace"] (Qf Qah):=Zi
noncomputable abbrev QcI:Stmt:=top 24
abbrev Qjk:List Str:=["stretches", "place", "left", "right"]
theorem Qbv:FnScope Qjk ["stretches", "place"] (Qf QcI):=Zi
noncomputable abbrev Qmv:Stmt:=top 26
abbrev Qpp:List Str:=["side", "sign", "count"]
theorem Qop:FnScope Qpp ["side", "sign", "count"] (Qf Qmv):=Zi
noncomputable abbrev Qjl:Stmt:=top 27
abbrev Qoq:List Str:=["side", "count", "nearest"]
theorem Qjm:FnScope Qoq ["side", "count"] (Qf Qjl):=Zi
noncomputable abbrev Y9:Stmt:=top 28
abbrev Qc2:List Str:=["side"]
theorem QcJ:FnScope Qc2 ["side"] (Qf Y9):=Zi
noncomputable abbrev QfV:Stmt:=top 29
abbrev Qmw:List Str:=["side", "sign", "most"]
theorem Qky:FnScope Qmw ["side", "sign", "most"] (Qf QfV):=Zi
noncomputable abbrev Q6:Stmt:=Qcb (top 30) 0
abbrev QcK:List Str:=["self", "machine", "stretches"]
theorem QbN:FnScope QcK ["self", "machine", "stretches"] (Qf Q6):=Zi
noncomputable abbrev QT:Stmt:=Qcb (top 30) 1
abbrev QbO:List Str:=["self"]
theorem Qbw:FnScope QbO ["self"] (Qf QT):=Zi
noncomputable abbrev Q7:Stmt:=Qcb (top 30) 2
abbrev QcL:List Str:=["self", "asked", "entry", "rightwards", "ahead", "behind", "steps"]
theorem QU:FnScope QcL ["self", "asked"] (Qf Q7):=Zi
noncomputable abbrev Zf:Stmt:=Qcb (top 30) 3
abbrev Qc3:List Str:=["self", "right"]
theorem J4:FnScope Qc3 ["self"] (Qf Zf):=Zi
noncomputable abbrev Zj:Stmt:=top 31
abbrev Y0:List Str:=["machine", "stretches", "signs", "side"]
theorem ZD:FnScope Y0 ["machine", "stretches"] (Qf Zj):=Zi
noncomputable abbrev QaE:Stmt:=top 32
abbrev QfW:List Str:=["machine", "stretches", "steps", "most", "walk", "done", "leaps"]
theorem ZJ:FnScope QfW ["machine", "stretches", "steps", "most"] (Qf QaE):=Zi
noncomputable abbrev ZK:Stmt:=top 33
abbrev Qfe:List Str:=["machine", "steps", "most", "told"]
theorem Qa8:FnScope Qfe ["machine", "steps", "most"] (Qf ZK):=Zi
noncomputable abbrev Qef:Stmt:=top 35
abbrev Qkz:List Str:=["_law_script", "_law_at", "_law_cell", "_law_m"]
theorem QcM:FnScope Qkz ["_law_script", "_law_at"] (Qf Qef):=Zi
noncomputable abbrev Qb3:Stmt:=top 36
abbrev QgS:List Str:=["_law_found", "_law_due"]
theorem Qjn:FnScope QgS ["_law_found", "_law_due"] (Qf Qb3):=Zi
noncomputable abbrev QcN:Stmt:=top 37
abbrev Qjo:List Str:=["_law_script", "_law_at", "_law_states", "_law_signs", "_law_table_here", "_law_k", "_law_line", "_law_j", "_law_m", "_law_entry"]
theorem ZL:FnScope Qjo ["_law_script", "_law_at", "_law_states", "_law_signs"] (Qf QcN):=Zi
noncomputable abbrev Qb4:Stmt:=top 38
abbrev QgT:List Str:=["_law_shot_here", "_law_state", "_law_place", "_law_cells"]
theorem Qa9:FnScope QgT ["_law_shot_here"] (Qf Qb4):=Zi
noncomputable abbrev Ja:Stmt:=top 39
abbrev Qc4:List Str:=["_law_script", "_law_at", "_law_m", "_law_states", "_law_signs", "_law_table_here", "_law_k", "_law_j"]
theorem Qu:FnScope Qc4 ["_law_script", "_law_at"] (Qf Ja):=Zi
noncomputable abbrev Qb5:Stmt:=top 40
abbrev QgU:List Str:=["_law_shot_here", "_law_state", "_law_place", "_law_cells", "_law_rows", "_law_which", "_law_way", "_law_spots", "_law_last", "_law_off", "_law_sign"]
theorem Zd:FnScope QgU ["_law_shot_here"] (Qf Qb5):=Zi
noncomputable abbrev Qeg:Stmt:=top 41
abbrev QkA:List Str:=["_law_machine", "_law_stretches", "_law_steps", "_law_most", "_law_told"]
theorem Qba:FnScope QkA ["_law_machine", "_law_stretches", "_law_steps", "_law_most"] (Qf Qeg):=Zi
noncomputable abbrev QfX:Stmt:=top 42
abbrev Qmx:List Str:=["_law_script", "_law_at", "_law_m", "_law_cell", "_law_size", "_law_k"]
theorem Qai:FnScope Qmx ["_law_script", "_law_at"] (Qf QfX):=Zi
noncomputable abbrev Qeh:Stmt:=top 43
abbrev QkB:List Str:=["_law_table_here", "_law_shot_here", "_law_steps", "_law_state", "_law_place", "_law_cells", "_law_done", "_law_entry"]
theorem ZR:FnScope QkB ["_law_table_here", "_law_shot_here", "_law_steps"] (Qf Qeh):=Zi
noncomputable abbrev JC:Stmt:=top 44
abbrev Qei:List Str:=["_law_machine", "_law_stretches", "_law_far_here", "_law_cut", "_law_due", "_law_one", "_law_other"]
theorem Z6:FnScope Qei ["_law_machine", "_law_stretches", "_law_far_here", "_law_cut"] (Qf JC):=Zi
noncomputable abbrev QaF:Stmt:=top 45
abbrev QfY:List Str:=["_law_machine", "_law_table_here", "_law_shot_here", "_law_stretches", "_law_steps", "_law_place", "_law_done", "_law_found"]
theorem Yg:FnScope QfY ["_law_machine", "_law_table_here", "_law_shot_here", "_law_stretches", "_law_steps"] (Qf QaF):=Zi
noncomputable abbrev QkC:Stmt:=top 46
abbrev Qpq:List Str:=["_law_script", "_law_at", "_law_table_here", "_law_machine", "_law_shot_here", "_law_stretches", "_law_total", "_law_k", "_law_cell", "_law_steps", "_law_made", "_law_far_here"]
theorem Y1:FnScope Qpq ["_law_script"] (Qf QkC):=Zi
def UF(K:Frag)(mg:Str->Option Value)(x:Str)(st:Stmt):Prop:=∃f fd,Fun K x x st f fd/\mg x=some (.ref f)
theorem _root_.L2.Room.m{j k:Nat}{A:Around}(h:Room k A)(e:j<=k:=by omega):Room j A:=h.mono e
theorem ZS{P:Program}{w:World}{K:Frag}{mg:Str->Option Value}{base:Heap}{ca:Nat->Addr}{x:Str}{st:Stmt}{N ps:List Str}{k n j:Nat}{m:MS}(u:UF K mg x st)(S:FnScope N ps (Qf st))(h:∀(f:Addr) (cdv:Value) (A:Around) (outer:List Env) (s:Shared) (H:Hp) (E:XK),Room k (A.deeper (envOfC x (Qf st) s.heap.objs.size f cdv))->PSs3 ca (cxOf (CXW P w ca) P w K mg base N x (Qf st) f cdv A outer s H E) (QQ st) m)(hj:ps.length=j:=by rfl)(hn:N.length-ps.length=n:=by rfl)(hb:∀(kV doc pm:Value) (an:Option Addr) (cdv ct:Value) (us:List Value),us.length=ps.length->bindArgs (fnOf x x (Zg st) (QQ st) (Qf st) .none kV doc pm an cdv ct) ⟨us,[]⟩=pure (ps.zip us):=by intro _ _ _ _ _ _ us hl;first|(obtain⟨_,rfl⟩:=L3.len1 hl;rfl)|(obtain⟨_,_,rfl⟩:=L3.len2 hl;rfl)|(obtain⟨_,_,_,rfl⟩:=L3.len3 hl;rfl)|(obtain⟨_,_,_,_,rfl⟩:=L3.len4 hl;rfl)|(obtain⟨_,_,_,_,_,rfl⟩:=L3.len5 hl;rfl)):FnH P w K mg base ca x (k+1) j (mDef j n m):=by
 obtain⟨f,fd,F,hm⟩:=u
 exact⟨⟨f,fd,ps,QeC F S hj hn (h f),hm,F.kp,F.binds hb⟩,JP _ _ _⟩
structure Zk(K:Frag)(mg:Str->Option Value)(ca:Nat->Addr):Prop where
 z_all:mg "all" = none
 z_any:mg "any" = none
 z_bool:mg "bool" = none
 z_enumerate:mg "enumerate" = none
 z_int:mg "int" = none
 z_isinstance:mg "isinstance" = none
 z_len:mg "len" = none
 z_list:mg "list" = none
 z_min:mg "min" = none
 z_range:mg "range" = none
 z_reversed:mg "reversed" = none
 z_sorted:mg "sorted" = none
 z_str:mg "str" = none
 z_tuple:mg "tuple" = none
 z_zip:mg "zip" = none
 g_BLANK:∃k,mg "BLANK" = some (.int 0 k)
 g_LEFT:∃k,mg "LEFT" = some (.str "l" k)
 g_RIGHT:∃k,mg "RIGHT" = some (.str "r" k)
 t_TooLong:mg "TooLong" = some (.ref (ca 6))/\CatX K ca (ca 6) [6] [0,1,5]
 e_TooLong:RaH K mg ca 6 "TooLong"
 a_left:FldOk K ca [13] "left"
 a_moved:FldOk K ca [13] "moved"
 a_own:FldOk K ca [13] "own"
 a_right:FldOk K ca [13] "right"
 a_state:FldOk K ca [13] "state"
 a_table:FldOk K ca [11,13] "table"
 u0:UF K mg "is_whole" Qbp
 u1:UF K mg "is_below" Qbq
 u2:UF K mg "is_from_nought" Yj
 u3:UF K mg "is_entry" Qbs
 u4:UF K mg "check_rows" YY
 u5:∃f fd,Fun K "__init__" "Machine.__init__" Q2 f fd/\Mk K (ca 11) f/\mg "Machine" = some (.ref (ca 11))
 u6:UF K mg "states_of" QaD
 u7:UF K mg "signs_of" Qbt
 u8:UF K mg "add_stretch" JA
 u9:UF K mg "is_stretch" J0
 u10:UF K mg "check_side" YZ
 u11:UF K mg "check_stretches" Z0
 u12:UF K mg "marks_of" Qah
 u13:UF K mg "shot_of" QcI
 u14:UF K mg "put" Qmv
 u15:UF K mg "drop" Qjl
 u16:UF K mg "nearest_sign" Y9
 u17:UF K mg "alike" QfV
 u18:∃f fd,Fun K "__init__" "FastWalk.__init__" Q6 f fd/\Mk K (ca 13) f/\mg "FastWalk" = some (.ref (ca 13))
 u19:∃f fd,Fun K "entry" "FastWalk.entry" QT f fd/\Meth K (ca 13) "entry" f/\Cls K (ca 13)
 u20:∃f fd,Fun K "leap" "FastWalk.leap" Q7 f fd/\Meth K (ca 13) "leap" f/\Cls K (ca 13)
 u21:∃f fd,Fun K "row" "FastWalk.row" Zf f fd/\Meth K (ca 13) "row" f/\Cls K (ca 13)
 u22:UF K mg "check_of_machine" Zj
 u23:UF K mg "fast_from" QaE
 u24:∃f fd,FunD K "fast_after" "fast_after" ZK 5000 f fd/\mg "fast_after" = some (.ref f)
 u25:UF K mg "_law_next" Qef
 u26:UF K mg "_law_same" Qb3
 u27:UF K mg "_law_table" QcN
 u28:UF K mg "_law_shot" Qb4
 u29:UF K mg "_law_machine_by" Ja
 u30:UF K mg "_law_seen" Qb5
 u31:UF K mg "_law_fast" Qeg
 u32:UF K mg "_law_far" QfX
 u33:UF K mg "_law_walk" Qeh
 u34:UF K mg "_law_great_end" JC
 u35:UF K mg "_law_stretch" QaF
 u36:UF K mg "law" QkC
section
seal PE3 PT3 PW3 PA3 PS3 PSs3 PG3 PI3
variable{P:Program}{w:World}{K:Frag}{mg:Str->Option Value}{base:Heap}{ca:Nat->Addr}
theorem QcO(Z:Zk K mg ca):FnH P w K mg base ca "is_whole" 1 1 Jf:=ZS Z.u0 QfQ λ_ _ _ _ _ _ _ hr=>(Qh (QV (Qcd (Yw .int Z.z_isinstance Z.z_int QkQ (Qa 0)) (Qey (Qni (Yw .bool Z.z_isinstance Z.z_bool Qiv (Qa 0)))))))
theorem QcP(Z:Zk K mg ca):FnH P w K mg base ca "is_below" 2 2 ZF:=ZS Z.u1 QfR λ_ _ _ _ _ _ _ hr=>(Qh (QV (Qcd (Qo (QcO Z) hr.m (Qd (Qa 0) Qj)) (Qey (Qnz Qe (Qa 0) (Qa 1))))))
theorem Z2(Z:Zk K mg ca):FnH P w K mg base ca "is_from_nought" 2 1 QS:=ZS Z.u2 Qbr λ_ _ _ _ _ _ _ hr=>(Qh (QV (Qcd (Qo (QcO Z) hr.m (Qd (Qa 0) Qj)) (Qey (r_ge (Qa 0) Qe)))))
theorem QfZ(Z:Zk K mg ca):FnH P w K mg base ca "is_entry" 3 3 Yr:=ZS Z.u3 QfS λ_ _ _ _ _ _ _ hr=>(Qc (r_if (Qft (Qa 0) QaL) (Qh (QV r_bl)) Qz)
 (Qc (r_if (r_w (QcX (Qal (Yl (Yw .tuple Z.z_isinstance Z.z_tuple J8 (Qa 0)))) (Qam (QdB hr (YK Z.z_len (Qa 0)) Qe)))) (Qh (QV r_bl)) Qz)
 (Qh (QV (Qcd (Qo (QcP Z) hr.m (Qd (Qi (Qa 0) Qe) (Qd (Qa 2) Qj))) (Qcd (r_in (Qi (Qa 0) Qe) (Zt (Qd (Qiu Z.g_LEFT) (Qd (Qiu Z.g_RIGHT) Qj)))) (Qey (Qo (QcP Z) hr.m (Qd (Qi (Qa 0) Qe) (Qd (Qa 1) Qj))))))))))
theorem Qej(Z:Zk K mg ca):FnH P w K mg base ca "check_rows" 4 1 ZH:=ZS Z.u4 Yq λ_ _ _ _ _ _ _ hr=>(Qc (r_if (Jq hr (YK Z.z_len (Qa 0)) Qe) (Qh Yu) Qz)
 (Qc (Qt 1 Yq.nd (YK Z.z_len (Qa 0)))
 (Qc (Qt 2 Yq.nd (YK Z.z_len (Qi (Qa 0) Qe)))
 (Qc (r_if (Jq hr (Qa 2) Qe) (Qh Yu) Qz)
 (Qh (QbG rfl (Yv (Qa 0)) (Qy 3 Yq.nd) (Qc (r_if (QdB hr (YK Z.z_len (Qa 3)) (Qa 2)) (Qh Yu) Qz)
 (Qh (r_if (Qal (Yl (QlK rfl Z.z_all (Qcg (Z9 (Nb:=["thing", "states", "signs"]) (no:=1) (cap:=[1,2]) (N:=QbC) (sc:=Qf YY) rfl rfl (by decide +kernel)) rfl (Yv (Qa 3)) (λcl C s3 H3 ex=>⟨(Qy 0 (show List.Nodup (["thing", "states", "signs"]:List Str) by decide +kernel)),Qfr,(Qo (QfZ Z) hr.m (Qd (Qa 0) (Qd (Qa 1) (Qd (Qa 2) Qj))))⟩))))) (Qh Yu) Qz)))))))))
theorem QcQ(Z:Zk K mg ca):MkH P w K mg base ca 11 "Machine" 5 2 Ze:=by
 obtain⟨f,fd,F,hm⟩:=Z.u5
 exact⟨⟨f,fd,["self", "table"],QeC F JZ rfl rfl (λcdv A outer s H E hr=>(Qc (Qt 2 JZ.nd (QdD Z.z_tuple (Qcg (Z9 (Nb:=["row"]) (no:=1) (cap:=[]) (N:=Qar) (sc:=Qf Q2) rfl rfl (by decide +kernel)) rfl (Yv (Qa 1)) (λcl C s3 H3 ex=>⟨(Qy 0 (show List.Nodup (["row"]:List Str) by decide +kernel)),Qfr,(QdD Z.z_tuple (Qa 0))⟩))))
 (Qc (ZE (Qo (Qej Z) hr.m (Qd (Qa 2) Qj)))
 (Qh (Zx (Qa 0) (Qa 2) Z.a_table))))),hm.1,hm.2,F.binds (ps:=["self", "table"]) (λ_ _ _ _ _ _ us hl=>by obtain⟨_,_,rfl⟩:=L3.len2 hl;rfl)⟩,JP _ _ _⟩
theorem Qff(Z:Zk K mg ca):FnH P w K mg base ca "states_of" 1 1 Qax:=ZS Z.u6 Qfc λ_ _ _ _ _ _ _ hr=>(Qh (QV (YK Z.z_len (Zw (Qa 0) Z.a_table))))
theorem Qf0(Z:Zk K mg ca):FnH P w K mg base ca "signs_of" 1 1 Qbk:=ZS Z.u7 QfU λ_ _ _ _ _ _ _ hr=>(Qh (QV (YK Z.z_len (Qi (Zw (Qa 0) Z.a_table) Qe))))
theorem Qc5(Z:Zk K mg ca):FnH P w K mg base ca "add_stretch" 1 3 Jr:=ZS Z.u8 Qc1 λ_ _ _ _ _ _ _ hr=>(Qc (r_if (QlD (Qa 2) Qe) (Qh Qnk) Qz)
 (Qh (r_if (r_w (Qby (Qch (YK Z.z_len (Qa 0)) Qe) (Qav (Jq hr (Qi (Qi (Qa 0) (QbH Qe)) Qe) (Qa 1))))) (Qh (Qce (Qa 0) (QbH Qe) (Zt (Qd (Qa 1) (Qd (Z8 (Qi (Qi (Qa 0) (QbH Qe)) Qe) (Qa 2)) Qj))))) (Qh (ZE (QaQ (Qa 0) (Zt (Qd (Qa 1) (Qd (Qa 2) Qj)))))))))
theorem Qek(Z:Zk K mg ca):FnH P w K mg base ca "is_stretch" 3 1 Ya:=ZS Z.u9 Qee λ_ _ _ _ _ _ _ hr=>(Qc (r_if (r_w (QcX (Qal (Yl (Yw .tuple Z.z_isinstance Z.z_tuple J8 (Qa 0)))) (Qam (QdB hr (YK Z.z_len (Qa 0)) Qe)))) (Qh (QV r_bl)) Qz)
 (Qh (QV (Qcd (Qo (Z2 Z) hr.m (Qd (Qi (Qa 0) Qe) Qj)) (Qcd (Qo (Z2 Z) hr.m (Qd (Qi (Qa 0) Qe) Qj)) (Qey (r_gt (Qi (Qa 0) Qe) Qe)))))))
theorem Qbb(Z:Zk K mg ca):FnH P w K mg base ca "check_side" 4 1 YS:=ZS Z.u10 JB λ_ _ _ _ _ _ _ hr=>(Qc (r_if (r_w (QcX (Qal (Yl (Ql5 Z.z_isinstance Z.z_list Z.z_tuple (Qa 0)))) (Qam (Qal (Yl (QlK rfl Z.z_all (Qcg (Z9 (Nb:=["thing"]) (no:=1) (cap:=[]) (N:=QbD) (sc:=Qf YZ) rfl rfl (by decide +kernel)) rfl (Yv (Qa 0)) (λcl C s3 H3 ex=>⟨(Qy 0 (show List.Nodup (["thing"]:List Str) by decide +kernel)),Qfr,(Qo (Qek Z) hr.m (Qd (Qa 0) Qj))⟩)))))))) (Qh Yu) Qz)
 (Qc (QbG rfl (Qny Z.z_zip (Qa 0) (Qci (Qa 0) (QeI Qe) QaR)) (JO rfl (QB (Qy 1 JB.nd) (QB (Qy 2 JB.nd) JN))) (Qh (r_if (Jq hr (Qi (Qa 1) Qe) (Qi (Qa 2) Qe)) (Qh Yu) Qz)))
 (Qh (r_if (r_w (Qby (Qch (YK Z.z_len (Qa 0)) Qe) (Qav (Jq hr (Qi (Qi (Qa 0) (QbH Qe)) Qe) (Qgp Z.g_BLANK))))) (Qh Yu) Qz))))
theorem Y2(Z:Zk K mg ca):FnH P w K mg base ca "check_stretches" 5 1 Zr:=ZS Z.u11 Qa7 λ_ _ _ _ _ _ _ hr=>(Qc (r_if (r_w (QcX (Qal (Yl (Yw .tuple Z.z_isinstance Z.z_tuple J8 (Qa 0)))) (Qam (QdB hr (YK Z.z_len (Qa 0)) Qe)))) (Qh Yu) Qz)
 (Qc (r_if (Qal (Yl (Qo (Z2 Z) hr.m (Qd (Qi (Qa 0) Qe) Qj)))) (Qh Yu) Qz)
 (Qc (ZE (Qo (Qbb Z) hr.m (Qd (Qi (Qa 0) Qe) Qj)))
 (Qh (ZE (Qo (Qbb Z) hr.m (Qd (Qi (Qa 0) Qe) Qj)))))))
theorem QcR(Z:Zk K mg ca):FnH P w K mg base ca "marks_of" 1 3 Qab:=ZS Z.u12 Z1 λ_ _ _ _ _ _ _ hr=>(Qc (Qt 3 Z1.nd (QbF Qj))
 (Qc (Qt 4 Z1.nd (Qa 1))
 (Qc (QbG rfl (Yv (Qa 0)) (JO rfl (QB (Qy 5 Z1.nd) (QB (Qy 6 Z1.nd) JN))) (Qc (r_if (QdB hr (Qa 5) (Qgp Z.g_BLANK)) (Qh (ZE (Qka (Qa 3) (Qcg (Z9 (Nb:=["cell", "sign", "place", "pace"]) (no:=1) (cap:=[5,4,2]) (N:=Qdo) (sc:=Qf Qah) rfl rfl (by decide +kernel)) rfl (J7 Z.z_range (Qa 6)) (λcl C s3 H3 ex=>⟨(Qy 0 (show List.Nodup (["cell", "sign", "place", "pace"]:List Str) by decide +kernel)),Qfr,(Zt (Qd (Z8 (Qa 2) (QcY (Qa 3) (Qa 0))) (Qd (Qa 1) Qj)))⟩))))) Qz)
 (Qh (Qt 4 Z1.nd (Z8 (Qa 4) (QcY (Qa 2) (Qa 6)))))))
 (Qh (QV (Qa 3))))))
theorem QhD(Z:Zk K mg ca):FnH P w K mg base ca "shot_of" 6 2 Qcs:=ZS Z.u13 Qbv λ_ _ _ _ _ _ _ hr=>(Qc (ZE (Qo (Y2 Z) hr.m (Qd (Qa 0) Qj)))
 (Qc (Qt 2 Qbv.nd (Qo (QcR Z) hr.m (Qd (Qi (Qa 0) Qe) (Qd (Qaw (Qa 1) Qe) (Qd (QbH Qe) Qj)))))
 (Qc (Qt 3 Qbv.nd (Qo (QcR Z) hr.m (Qd (Qi (Qa 0) Qe) (Qd (Qa 1) (Qd Qe Qj)))))
 (Qh (QV (Zt (Qd (Qi (Qa 0) Qe) (Qd (Qa 1) (Qd (Z8 (Qhg rfl Z.z_tuple Z.z_reversed (Qa 2)) (QdD Z.z_tuple (Qa 3))) Qj)))))))))
theorem Qjp(Z:Zk K mg ca):FnH P w K mg base ca "put" 2 3 Qhp:=ZS Z.u14 Qop λ_ _ _ _ _ _ _ hr=>(Qh (r_if (r_w (QcX (Qch (YK Z.z_len (Qa 0)) Qe) (Qam (QdB hr (Qa 1) (Qgp Z.g_BLANK))))) (Qh (ZE (Qo (Qc5 Z) hr.m (Qd (Qa 0) (Qd (Qa 1) (Qd (Qa 2) Qj)))))) Qz))
theorem Qf1(Z:Zk K mg ca):FnH P w K mg base ca "drop" 3 2 Qct:=ZS Z.u15 Qjm λ_ _ _ _ _ _ _ hr=>(Qh (r_if (Qch (YK Z.z_len (Qa 0)) Qe) (Qc (Qt 2 Qjm.nd (QoV (Qa 0)))
 (Qh (ZE (Qo (Qjp Z) hr.m (Qd (Qa 0) (Qd (Qi (Qa 2) Qe) (Qd (Qaw (Qi (Qa 2) Qe) (Qa 1)) Qj))))))) Qz))
theorem YH(Z:Zk K mg ca):FnH P w K mg base ca "nearest_sign" 1 1 Q1:=ZS Z.u16 QcJ λ_ _ _ _ _ _ _ hr=>(Qh (QV (Qdz (Qch (YK Z.z_len (Qa 0)) Qe) (Qi (Qi (Qa 0) (QbH Qe)) Qe) (Qgp Z.g_BLANK))))
theorem QkD(Z:Zk K mg ca):FnH P w K mg base ca "alike" 2 3 Qcu:=ZS Z.u17 Qky λ_ _ _ _ _ _ _ hr=>(Qc (r_if (QdB hr (Qo (YH Z) hr.m (Qd (Qa 0) Qj)) (Qa 1)) (Qh (QV Qe)) Qz)
 (Qh (QV (Qdz (Qch (YK Z.z_len (Qa 0)) Qe) (Qk0 rfl Z.z_min (Qi (Qi (Qa 0) (QbH Qe)) Qe) (Qa 2)) (Qa 2)))))
theorem QbP(Z:Zk K mg ca):MkH P w K mg base ca 13 "FastWalk" 4 3 ZO:=by
 obtain⟨f,fd,F,hm⟩:=Z.u18
 exact⟨⟨f,fd,["self", "machine", "stretches"],QeC F QbN rfl rfl (λcdv A outer s H E hr=>(Qc (Zx (Qa 0) (Zw (Qa 1) Z.a_table) Z.a_table)
 (Qc (Zx (Qa 0) (Qi (Qa 2) Qe) Z.a_state)
 (Qc (Zx (Qa 0) (QaU rfl Z.z_list Z.z_reversed (Qi (Qa 2) Qe)) Z.a_left)
 (Qc (Zx (Qa 0) (QaU rfl Z.z_list Z.z_reversed (Qi (Qa 2) Qe)) Z.a_right)
 (Qc (Zx (Qa 0) (Qo (YH Z) hr.m (Qd (Zw (Qa 0) Z.a_right) Qj)) Z.a_own)
 (Qc (ZE (Qo (Qf1 Z) hr.m (Qd (Zw (Qa 0) Z.a_right) (Qd Qe Qj))))
 (Qh (Zx (Qa 0) Qe Z.a_moved))))))))),hm.1,hm.2,F.binds (ps:=["self", "machine", "stretches"]) (λ_ _ _ _ _ _ us hl=>by obtain⟨_,_,_,rfl⟩:=L3.len3 hl;rfl)⟩,JP _ _ _⟩
theorem Jm(Z:Zk K mg ca):MtH P w K mg base ca 13 "entry" 1 1 Zb:=by
 obtain⟨f,fd,F,hm⟩:=Z.u19
 exact⟨⟨f,fd,["self"],QeC F Qbw rfl rfl (λcdv A outer s H E hr=>(Qh (QV (Qi (Qi (Zw (Qa 0) Z.a_table) (Zw (Qa 0) Z.a_state)) (Zw (Qa 0) Z.a_own))))),hm.1,hm.2,F.binds (ps:=["self"]) (λ_ _ _ _ _ _ us hl=>by obtain⟨_,rfl⟩:=L3.len1 hl;rfl)⟩,JP _ _ _⟩
theorem QbQ(Z:Zk K mg ca):MtH P w K mg base ca 13 "leap" 4 2 Yz:=by
 obtain⟨f,fd,F,hm⟩:=Z.u20
 exact⟨⟨f,fd,["self", "asked"],QeC F QU rfl rfl (λcdv A outer s H E hr=>(Qc (Qt 2 QU.nd (Qfq (Jm Z) hr.m (Qa 0)))
 (Qc (Qt 3 QU.nd (r_eq hr (Qi (Qa 2) Qe) (Qiu Z.g_RIGHT)))
 (Qc (Qt 4 QU.nd (Qdz (Yl (Qa 3)) (Zw (Qa 0) Z.a_right) (Zw (Qa 0) Z.a_left)))
 (Qc (Qt 5 QU.nd (Qdz (Yl (Qa 3)) (Zw (Qa 0) Z.a_left) (Zw (Qa 0) Z.a_right)))
 (Qc (Qt 6 QU.nd (Qdz (Jq hr (Qi (Qa 2) Qe) (Zw (Qa 0) Z.a_state)) (Z8 Qe (Qo (QkD Z) hr.m (Qd (Qa 4) (Qd (Zw (Qa 0) Z.a_own) (Qd (Qaw (Qa 1) Qe) Qj))))) Qe))
 (Qc (ZE (Qo (Qjp Z) hr.m (Qd (Qa 5) (Qd (Qi (Qa 2) Qe) (Qd (Qa 6) Qj)))))
 (Qc (ZE (Qo (Qf1 Z) hr.m (Qd (Qa 4) (Qd (Qaw (Qa 6) Qe) Qj))))
 (Qc (Zx (Qa 0) (Qo (YH Z) hr.m (Qd (Qa 4) Qj)) Z.a_own)
 (Qc (ZE (Qo (Qf1 Z) hr.m (Qd (Qa 4) (Qd Qe Qj))))
 (Qc (Zx (Qa 0) (Qi (Qa 2) Qe) Z.a_state)
 (Qc (Zx (Qa 0) (Qdz (Yl (Qa 3)) (Z8 (Zw (Qa 0) Z.a_moved) (Qa 6)) (Qaw (Zw (Qa 0) Z.a_moved) (Qa 6))) Z.a_moved)
 (Qh (QV (Qa 6))))))))))))))),hm.1,hm.2,F.binds (ps:=["self", "asked"]) (λ_ _ _ _ _ _ us hl=>by obtain⟨_,_,rfl⟩:=L3.len2 hl;rfl)⟩,JP _ _ _⟩
theorem QcS(Z:Zk K mg ca):MtH P w K mg base ca 13 "row" 3 1 Z5:=by
 obtain⟨f,fd,F,hm⟩:=Z.u21
 exact⟨⟨f,fd,["self"],QeC F J4 rfl rfl (λcdv A outer s H E hr=>(Qc (Qt 1 J4.nd (Qnu Z.z_list (Zw (Qa 0) Z.a_right)))
 (Qc (ZE (Qo (Qjp Z) hr.m (Qd (Qa 1) (Qd (Zw (Qa 0) Z.a_own) (Qd Qe Qj)))))
 (Qh (QV (Zt (Qd (Zw (Qa 0) Z.a_state) (Qd (QaU rfl Z.z_list Z.z_reversed (Zw (Qa 0) Z.a_left)) (Qd (QaU rfl Z.z_list Z.z_reversed (Qa 1)) Qj))))))))),hm.1,hm.2,F.binds (ps:=["self"]) (λ_ _ _ _ _ _ us hl=>by obtain⟨_,rfl⟩:=L3.len1 hl;rfl)⟩,JP _ _ _⟩
theorem QaG(Z:Zk K mg ca):FnH P w K mg base ca "check_of_machine" 6 2 ZP:=ZS Z.u22 ZD λ_ _ _ _ _ _ _ hr=>(Qc (ZE (Qo (Y2 Z) hr.m (Qd (Qa 1) Qj)))
 (Qc (r_if (Qnq (Qi (Qa 1) Qe) (Qo (Qff Z) hr.m (Qd (Qa 0) Qj))) (Qh Yu) Qz)
 (Qc (Qt 2 ZD.nd (Qo (Qf0 Z) hr.m (Qd (Qa 0) Qj)))
 (Qh (QbG rfl (Yv (Qci (Qa 1) (QeI Qe) QaR)) (Qy 3 ZD.nd) (Qh (r_if (Yl (Qo7 rfl Z.z_any (Qcg (Z9 (Nb:=["sign", "count", "signs"]) (no:=2) (cap:=[2]) (N:=Y0) (sc:=Qf Zj) rfl rfl (by decide +kernel)) rfl (Yv (Qa 3)) (λcl C s3 H3 ex=>⟨(JO rfl (QB (Qy 0 (show List.Nodup (["sign", "count", "signs"]:List Str) by decide +kernel)) (QB (Qy 1 (show List.Nodup (["sign", "count", "signs"]:List Str) by decide +kernel)) JN))),Qfr,(r_ge (Qa 0) (Qa 2))⟩)))) (Qh Yu) Qz)))))))
theorem QbE(Z:Zk K mg ca):FnH P w K mg base ca "fast_from" 7 4 YA:=ZS Z.u23 ZJ λ_ _ _ _ _ _ _ hr=>(Qc (ZE (Qo (QaG Z) hr.m (Qd (Qa 0) (Qd (Qa 1) Qj))))
 (Qc (Qt 4 ZJ.nd (QkM (QbP Z) hr.m (Qd (Qa 0) (Qd (Qa 1) Qj))))
 (Qc (Qt 5 ZJ.nd Qe)
 (Qc (Qt 6 ZJ.nd Qe)
 (Qc (Qia (r_w (Qby (QlD (Qa 5) (Qa 2)) (Qav (Qgk (Qfq (Jm Z) hr.m (Qa 4)) QaL)))) (Qc (r_if (Qnq (Qa 6) (Qa 3)) (Qh (QlO Z.e_TooLong hr.hd (Qd Qdy Qj))) Qz)
 (Qc (Qt 5 ZJ.nd (Z8 (Qa 5) (Qnm (QbQ Z) hr.m (Qa 4) (Qd (Qaw (Qa 2) (Qa 5)) Qj))))
 (Qh (Qt 6 ZJ.nd (Z8 (Qa 6) Qe))))))
 (Qh (QV (Zt (Qd (Qfq (QcS Z) hr.m (Qa 4)) (Qd (Zw (Qa 4) Z.a_moved) (Qd (Qa 5) (Qd (Qa 6) Qj))))))))))))
theorem Qel(Z:Zk K mg ca):FnD P w K mg base ca "fast_after" 8 3 5000 Yc:=by
 obtain⟨f,fd,F,hm⟩:=Z.u24
 obtain⟨t,hb⟩:=F.bindsD (ps:=["machine", "steps", "most"]) (λ_ _ _ _ _ _ _ _ us hl=>by obtain⟨_,_,rfl⟩:=L3.len2 (Nat.succ.inj hl);exact⟨_,rfl,rfl⟩)
 exact⟨⟨f,fd,["machine", "steps", "most"],t,Qn3 F Qa8 rfl rfl (λcdv A outer s H E hr=>(Qc (Qt 3 Qa8.nd (Qo (QbE Z) hr.m (Qd (Qa 0) (Qd (Zt (Qd Qe (Qd (QbF Qj) (Qd (QbF Qj) Qj)))) (Qd (Qa 1) (Qd (Qa 2) Qj))))))
 (Qh (QV (Zt (Qd (Qo (QhD Z) hr.m (Qd (Qi (Qa 3) Qe) (Qd (Qi (Qa 3) Qe) Qj))) (Qd (Qi (Qa 3) Qe) Qj))))))),hm,F.kp,F.binds (ps:=["machine", "steps", "most"]) (λ_ _ _ _ _ _ _ _ us hl=>by obtain⟨_,_,_,rfl⟩:=L3.len3 hl;exact⟨_,rfl,rfl⟩),hb⟩,JP _ _ _⟩
theorem J5(Z:Zk K mg ca):FnH P w K mg base ca "_law_next" 1 2 Yp:=ZS Z.u25 QcM λ_ _ _ _ _ _ _ hr=>(Qc (Qce (Qa 1) Qe (Z8 (Qi (Qa 1) Qe) Qe))
 (Qc (Qt 2 QcM.nd (Qdz (Qch (YK Z.z_len (Qa 0)) Qe) (Qi (Qa 0) (Ym (Qi (Qa 1) Qe) (YK Z.z_len (Qa 0)))) Qe))
 (Qc (Qt 3 QcM.nd (Ym (QcY (Z8 (Z8 (Ym (Qa 2) Qe) (QcY (QcY (Qi (Qa 1) Qe) (Qi (Qa 1) Qe)) Qe)) Qe) Qe) Qe))
 (Qh (QV (Ym (QcY (Qa 3) (Qa 3)) Qe))))))
theorem Qbc(Z:Zk K mg ca):∀n:Nat,FnH P w K mg base ca "_law_same" (1+n) 2 (ZB n)
 |0=>by
  obtain⟨f,fd,F,hm⟩:=Z.u26
  exact⟨⟨f,fd,["_law_found", "_law_due"],QlQ rfl,hm,F.kp,F.binds (ps:=["_law_found", "_law_due"]) (λ_ _ _ _ _ _ us hl=>by obtain⟨_,_,rfl⟩:=L3.len2 hl;rfl)⟩,λ_ _ _=>rfl⟩
 |n+1=>by
  have ih:=Qbc Z n
  obtain⟨f,fd,F,hm⟩:=Z.u26
  exact⟨⟨f,fd,["_law_found", "_law_due"],QeC F Qjn rfl rfl (λcdv A outer s H E hr=>(Qc (r_if (r_w (QcX (Yl (Yw .list Z.z_isinstance Z.z_list Qfu (Qa 1))) (Qam (Yl (Yw .tuple Z.z_isinstance Z.z_tuple J8 (Qa 1)))))) (Qc (r_if (r_w (QcX (QdB hr (Yw .list Z.z_isinstance Z.z_list Qfu (Qa 0)) (Yw .list Z.z_isinstance Z.z_list Qfu (Qa 1))) (Qam (QdB hr (Yw .tuple Z.z_isinstance Z.z_tuple J8 (Qa 0)) (Yw .tuple Z.z_isinstance Z.z_tuple J8 (Qa 1)))))) (Qh (QV r_bl)) Qz)
 (Qh (QV (Qcd (r_eq hr (YK Z.z_len (Qa 0)) (YK Z.z_len (Qa 1))) (Qey (QlK rfl Z.z_all (Qcg (Z9 (Nb:=["_law_a", "_law_b"]) (no:=2) (cap:=[]) (N:=QgS) (sc:=Qf Qb3) rfl rfl (by decide +kernel)) rfl (Qny Z.z_zip (Qa 0) (Qa 1)) (λcl C s3 H3 ex=>⟨(JO rfl (QB (Qy 0 (show List.Nodup (["_law_a", "_law_b"]:List Str) by decide +kernel)) (QB (Qy 1 (show List.Nodup (["_law_a", "_law_b"]:List Str) by decide +kernel)) JN))),Qfr,(Qo ih hr (Qd (Qa 0) (Qd (Qa 1) Qj)))⟩)))))))) Qz)
 (Qc (r_if (Qft (Qa 1) QaL) (Qh (QV (r_is (Qa 0) QaL))) Qz)
 (Qc (r_if (Yl (Yw .str Z.z_isinstance Z.z_str QkR (Qa 1))) (Qh (QV (Qcd (Yw .str Z.z_isinstance Z.z_str QkR (Qa 0)) (Qey (r_eq hr (Qa 0) (Qa 1)))))) Qz)
 (Qh (QV (Qcd (Yw .int Z.z_isinstance Z.z_int QkQ (Qa 0)) (Qcd (Qni (Yw .bool Z.z_isinstance Z.z_bool Qiv (Qa 0))) (Qey (r_eq hr (Qa 0) (Qa 1))))))))))),hm,F.kp,F.binds (ps:=["_law_found", "_law_due"]) (λ_ _ _ _ _ _ us hl=>by obtain⟨_,_,rfl⟩:=L3.len2 hl;rfl)⟩,JP _ _ _⟩
theorem QhE(Z:Zk K mg ca):FnH P w K mg base ca "_law_table" 2 4 Qcw:=ZS Z.u27 ZL λ_ _ _ _ _ _ _ hr=>(Qc (Qt 4 ZL.nd (QbF Qj))
 (Qc (QbG rfl (J7 Z.z_range (Qa 2)) (Qy 5 ZL.nd) (Qc (Qt 6 ZL.nd (QbF Qj))
 (Qc (QbG rfl (J7 Z.z_range (Qa 3)) (Qy 7 ZL.nd) (Qc (Qt 8 ZL.nd (Qo (J5 Z) hr.m (Qd (Qa 0) (Qd (Qa 1) Qj))))
 (Qc (Qt 9 ZL.nd (Zt (Qd (Ym (Qan (Qa 8) Qe) (Qa 3)) (Qd (Qi Qdy (Ym (Qan (Qa 8) Qe) Qe)) (Qd (Ym (Qan (Qa 8) Qe) (Qa 2)) Qj)))))
 (Qc (r_if (Jq hr (Ym (Qa 8) Qe) Qe) (Qh (Qt 9 ZL.nd QaL)) Qz)
 (Qh (ZE (QaQ (Qa 6) (Qa 9))))))))
 (Qh (ZE (QaQ (Qa 4) (Qa 6)))))))
 (Qh (QV (Qa 4)))))
theorem Qjq(Z:Zk K mg ca):FnH P w K mg base ca "_law_shot" 1 1 QbX:=ZS Z.u28 Qa9 λ_ _ _ _ _ _ _ hr=>(Qc (Qh9 (Qa 0) (JO rfl (QB (Qy 1 Qa9.nd) (QB (Qy 2 Qa9.nd) (QB (Qy 3 Qa9.nd) JN)))))
 (Qh (QV (Zt (Qd (Qa 1) (Qd (Qa 2) (Qd (QdD Z.z_tuple (Qcg (Z9 (Nb:=["_law_spot", "_law_cells"]) (no:=1) (cap:=[3]) (N:=QgT) (sc:=Qf Qb4) rfl rfl (by decide +kernel)) rfl (Yv (QdO Z.z_sorted (QkZ rfl Z.z_list (Qa 3)))) (λcl C s3 H3 ex=>⟨(Qy 0 (show List.Nodup (["_law_spot", "_law_cells"]:List Str) by decide +kernel)),Qfr,(Zt (Qd (Qa 0) (Qd (Qn0 (Qa 1) (Qa 0)) Qj)))⟩))) Qj)))))))
theorem QcT(Z:Zk K mg ca):FnH P w K mg base ca "_law_machine_by" 3 2 Y8:=ZS Z.u29 Qu λ_ _ _ _ _ _ _ hr=>(Qc (Qt 2 Qu.nd (Qo (J5 Z) hr.m (Qd (Qa 0) (Qd (Qa 1) Qj))))
 (Qc (Qt 3 Qu.nd (Qi (QbF (Qd Qe (Qd Qe (Qd Qe (Qd Qe (Qd Qe (Qd Qe Qj))))))) (Ym (Qa 2) Qe)))
 (Qc (Qt 4 Qu.nd (Qi (QbF (Qd Qe (Qd Qe (Qd Qe (Qd Qe (Qd Qe (Qd Qe Qj))))))) (Ym (Qan (Qa 2) Qe) Qe)))
 (Qc (r_if (Jq hr (Ym (Qan (Qa 2) Qe) Qe) Qe) (Qh (Qh9 (Zt (Qd Qe (Qd Qe Qj))) (JO rfl (QB (Qy 3 Qu.nd) (QB (Qy 4 Qu.nd) JN))))) Qz)
 (Qc (Qt 5 Qu.nd (Qo (QhE Z) hr.m (Qd (Qa 0) (Qd (Qa 1) (Qd (Qa 3) (Qd (Qa 4) Qj))))))
 (Qc (QbG rfl (J7 Z.z_range (Qa 3)) (Qy 6 Qu.nd) (Qh (QbG rfl (J7 Z.z_range (Qa 4)) (Qy 7 Qu.nd) (Qc (Qt 2 Qu.nd (Qo (J5 Z) hr.m (Qd (Qa 0) (Qd (Qa 1) Qj))))
 (Qc (r_if (r_w (Qby (Jq hr (Ym (Qa 2) Qe) Qe) (Qav (Qgk (Qi (Qi (Qa 5) (Qa 6)) (Qa 7)) QaL)))) (Qh (Qce (Qi (Qa 5) (Qa 6)) (Qa 7) (Zt (Qd (Qi (Qi (Qi (Qa 5) (Qa 6)) (Qa 7)) Qe) (Qd (Qi (Qi (Qi (Qa 5) (Qa 6)) (Qa 7)) Qe) (Qd (Qa 6) Qj)))))) Qz)
 (Qh (r_if (r_w (Qby (Qch (Ym (Qan (Qa 2) Qe) Qe) Qe) (Qav (Qft (Qi (Qi (Qa 5) (Qa 6)) (Qa 7)) QaL)))) (Qh (Qce (Qi (Qa 5) (Qa 6)) (Qa 7) (Zt (Qd (Ym (Qan (Qa 2) Qe) (Qa 4)) (Qd (Qi Qdy (Ym (Qan (Qa 2) Qe) Qe)) (Qd (Ym (Qan (Qa 2) Qe) (Qa 3)) Qj)))))) Qz)))))))
 (Qh (QV (Qa 5)))))))))
theorem Qjr(Z:Zk K mg ca):FnH P w K mg base ca "_law_seen" 1 1 QdW:=ZS Z.u30 Zd λ_ _ _ _ _ _ _ hr=>(Qc (Qh9 (Qa 0) (JO rfl (QB (Qy 1 Zd.nd) (QB (Qy 2 Zd.nd) (QB (Qy 3 Zd.nd) JN)))))
 (Qc (Qt 4 Zd.nd (Zt (Qd (QbF Qj) (Qd (QbF Qj) Qj))))
 (Qc (QbG rfl (Yv (Zt (Qd (Zt (Qd Qe (Qd (QbH Qe) Qj))) (Qd (Zt (Qd Qe (Qd Qe Qj))) Qj)))) (JO rfl (QB (Qy 5 Zd.nd) (QB (Qy 6 Zd.nd) JN))) (Qc (Qie 7 Zd.nd (Z9 (Nb:=["_law_spot", "_law_which", "_law_way", "_law_place"]) (no:=1) (cap:=[5,6,2]) (N:=QgU) (sc:=Qf Qb5) rfl rfl (by decide +kernel)) rfl (Yv (QdO Z.z_sorted (QkZ rfl Z.z_list (Qa 3)))) (λcl C s3 H3 ex=>⟨(Qy 0 (show List.Nodup (["_law_spot", "_law_which", "_law_way", "_law_place"]:List Str) by decide +kernel)),(QoU (Jq hr (r_lt (Qa 0) (Qa 3)) (r_eq hr (Qa 1) Qe))),(Z8 (Qaw (QcY (Qaw (Qa 0) (Qa 3)) (Qa 2)) Qe) (Qa 1))⟩))
 (Qc (Qt 8 Zd.nd (QbH Qe))
 (Qh (QbG rfl (Yv (QdO Z.z_sorted (Qa 7))) (Qy 9 Zd.nd) (Qc (Qt 10 Zd.nd (Qn0 (Qa 3) (Z8 (Qa 2) (QcY (Qa 6) (Qaw (Z8 (Qa 9) Qe) (Qa 5))))))
 (Qc (r_if (Qch (Qa 9) (Z8 (Qa 8) Qe)) (Qh (ZE (QaQ (Qi (Qa 4) (Qa 5)) (Zt (Qd Qe (Qd (Qaw (Qaw (Qa 9) (Qa 8)) Qe) Qj)))))) Qz)
 (Qc (r_if (r_w (Qby (Jq hr (Qa 9) (Z8 (Qa 8) Qe)) (Qby (Qch (YK Z.z_len (Qi (Qa 4) (Qa 5))) Qe) (Qav (Jq hr (Qi (Qi (Qi (Qa 4) (Qa 5)) (QbH Qe)) Qe) (Qa 10)))))) (Qh (Qce (Qi (Qa 4) (Qa 5)) (QbH Qe) (Zt (Qd (Qa 10) (Qd (Z8 (Qi (Qi (Qi (Qa 4) (Qa 5)) (QbH Qe)) Qe) Qe) Qj))))) (Qh (ZE (QaQ (Qi (Qa 4) (Qa 5)) (Zt (Qd (Qa 10) (Qd Qe Qj)))))))
 (Qh (Qt 8 Zd.nd (Qa 9)))))))))))
 (Qh (QV (Zt (Qd (Qa 1) (Qd (Qi (Qa 4) Qe) (Qd (Qi (Qa 4) Qe) Qj)))))))))
theorem Qbd(Z:Zk K mg ca):FnH P w K mg base ca "_law_fast" 8 4 Jt:=ZS Z.u31 Qba λ_ _ _ _ _ _ _ hr=>(Qc (Qt 4 Qba.nd QaL)
 (Qc (QnC Z.t_TooLong (Qh (Qt 4 Qba.nd (Qo (QbE Z) hr.m (Qd (Qa 0) (Qd (Qa 1) (Qd (Qa 2) (Qd (Qa 3) Qj))))))) (λa=>(Qh (Qt 4 Qba.nd Qdy))))
 (Qh (QV (Qa 4)))))
theorem QgV(Z:Zk K mg ca):FnH P w K mg base ca "_law_far" 2 2 QdX:=ZS Z.u32 Qai λ_ _ _ _ _ _ _ hr=>(Qc (Qt 2 Qai.nd (Qo (J5 Z) hr.m (Qd (Qa 0) (Qd (Qa 1) Qj))))
 (Qc (Qt 3 Qai.nd (Qdz (Qch (YK Z.z_len (Qa 0)) Qe) (Qi (Qa 0) (Ym (Qi (Qa 1) Qe) (YK Z.z_len (Qa 0)))) Qe))
 (Qc (Qt 4 Qai.nd Qe)
 (Qc (QbG rfl (J7 Z.z_range (Ym (Qan (Qa 2) Qe) Qe)) (Qy 5 Qai.nd) (Qh (Qt 4 Qai.nd (QcY (Qa 4) Qe))))
 (Qh (QV (Z8 Qe (Ym (Z8 (Ym (Qa 3) (Qn2 Qe Qe)) (QcY (Qa 2) (Qn2 Qe Qe))) (Qa 4)))))))))
theorem Qjs(Z:Zk K mg ca):FnH P w K mg base ca "_law_walk" 1 3 QdZ:=ZS Z.u33 ZR λ_ _ _ _ _ _ _ hr=>(Qc (Qh9 (Qa 1) (JO rfl (QB (Qy 3 ZR.nd) (QB (Qy 4 ZR.nd) (QB (Qy 5 ZR.nd) JN)))))
 (Qc (Qt 6 ZR.nd Qe)
 (Qc (Qia (QlD (Qa 6) (Qa 2)) (Qc (Qt 7 ZR.nd (Qi (Qi (Qa 0) (Qa 3)) (Ql1 (Qa 5) (Qa 4) Qe)))
 (Qc (r_if (Qft (Qa 7) QaL) (Qh (QV (Zt (Qd (Zt (Qd (Qa 3) (Qd (Qa 4) (Qd (Qa 5) Qj)))) (Qd (Qa 6) Qj))))) Qz)
 (Qc (QnZ (Qa 5) (Qa 4) (Qi (Qa 7) Qe))
 (Qc (r_if (Jq hr (Qi (Qa 7) Qe) Qe) (Qh (ZE (QnY (Qa 5) (Qa 4)))) Qz)
 (Qc (Qt 4 ZR.nd (Qdz (Jq hr (Qi (Qa 7) Qe) Qdy) (Z8 (Qa 4) Qe) (Qaw (Qa 4) Qe)))
 (Qc (Qt 3 ZR.nd (Qi (Qa 7) Qe))
 (Qh (Qt 6 ZR.nd (Z8 (Qa 6) Qe))))))))))
 (Qh (QV (Zt (Qd (Zt (Qd (Qa 3) (Qd (Qa 4) (Qd (Qa 5) Qj)))) (Qd (Qa 6) Qj))))))))
theorem Qc6(Z:Zk K mg ca):FnH P w K mg base ca "_law_great_end" 9 4 Ju:=ZS Z.u34 Z6 λ_ _ _ _ _ _ _ hr=>(Qc (Qt 4 Z6.nd (Qo (Qbd Z) hr.m (Qd (Qa 0) (Qd (Qa 1) (Qd (Qa 2) (Qd Qe Qj))))))
 (Qc (r_if (Jq hr (Qa 4) Qdy) (Qh (QV r_bl)) Qz)
 (Qc (Qt 5 Z6.nd (Qo (Qbd Z) hr.m (Qd (Qa 0) (Qd (Qa 1) (Qd (Qa 3) (Qd Qe Qj))))))
 (Qc (r_if (r_w (QcX (Jq hr (Qa 5) Qdy) (Qam (Qft (Qa 5) QaL)))) (Qh (QV r_bl)) Qz)
 (Qc (Qt 6 Z6.nd (Qo (Qbd Z) hr.m (Qd (Qa 0) (Qd (Qi (Qa 5) Qe) (Qd (Qaw (Qa 2) (Qa 3)) (Qd Qe Qj))))))
 (Qc (r_if (r_w (QcX (Jq hr (Qa 6) Qdy) (Qam (Qft (Qa 6) QaL)))) (Qh (QV r_bl)) Qz)
 (Qh (QV (Qo (Qbc Z 6) hr.m (Qd (Zt (Qd (Qi (Qa 6) Qe) (Qd (Z8 (Qi (Qa 5) Qe) (Qi (Qa 6) Qe)) (Qd (Z8 (Qi (Qa 5) Qe) (Qi (Qa 6) Qe)) Qj)))) (Qd (Qci (Qa 4) QaR (QeI Qe)) Qj)))))))))))
theorem Qfg(Z:Zk K mg ca):FnH P w K mg base ca "_law_stretch" 9 5 QaB:=ZS Z.u35 Yg λ_ _ _ _ _ _ _ hr=>(Qc (Qt 5 Yg.nd (Qi (Qa 2) Qe))
 (Qc (Qh9 (Qo (Qjs Z) hr.m (Qd (Qa 1) (Qd (Qa 2) (Qd (Qa 4) Qj)))) (JO rfl (QB (Qy 2 Yg.nd) (QB (Qy 6 Yg.nd) JN))))
 (Qc (Qt 7 Yg.nd (Qo (Qbd Z) hr.m (Qd (Qa 0) (Qd (Qa 3) (Qd (Qa 4) (Qd (Qa 4) Qj))))))
 (Qc (r_if (r_w (QcX (Jq hr (Qa 7) Qdy) (Qam (Qal (Yl (Qo (Qbc Z 6) hr.m (Qd (Qci (Qa 7) QaR (QeI Qe)) (Qd (Zt (Qd (Qo (Qjr Z) hr.m (Qd (Qa 2) Qj)) (Qd (Qaw (Qi (Qa 2) Qe) (Qa 5)) (Qd (Qa 6) Qj)))) Qj)))))))) (Qh (QV QaL)) Qz)
 (Qc (r_if (Qal (Ql9 Qe (Qi (Qa 7) Qe) (Qa 6))) (Qh (QV QaL)) Qz)
 (Qh (QV (Zt (Qd (Qa 2) (Qd (Qi (Qa 7) Qe) (Qd (Qa 6) Qj)))))))))))
theorem Qor(Z:Zk K mg ca){f:Addr}{fd:FuncData}(F:Fun K "law" "law" QkC f fd):FnOk P w K mg base (CXW P w ca) 10 f fd ["_law_script"] (spM K ca 1 Qkd) :=
 QeC F Y1 rfl rfl (λcdv A outer s H E hr=>(Qc (Qt 1 Y1.nd (QbF (Qd Qe Qj)))
 (Qc (Qt 2 Y1.nd (Qo (QcT Z) hr.m (Qd (Qa 0) (Qd (Qa 1) Qj))))
 (Qc (Qt 3 Y1.nd (QkM (QcQ Z) hr.m (Qd (Qa 2) Qj)))
 (Qc (Qt 4 Y1.nd (Zt (Qd Qe (Qd Qe (Qd QnX Qj)))))
 (Qc (Qt 5 Y1.nd (Zt (Qd Qe (Qd (QbF Qj) (Qd (QbF Qj) Qj)))))
 (Qc (Qt 6 Y1.nd Qe)
 (Qc (QbG rfl (QjZ Z.z_enumerate (Qci (Qa 0) QaR (QeI Qe))) (JO rfl (QB (Qy 7 Y1.nd) (QB (Qy 8 Y1.nd) JN))) (Qc (Qt 9 Y1.nd (Qk0 rfl Z.z_min (Ym (Z8 (Ym (Qa 8) Qe) (Qo (J5 Z) hr.m (Qd (Qa 0) (Qd (Qa 1) Qj)))) Qe) (Qaw Qe (Qa 6))))
 (Qc (Qt 10 Y1.nd (Qo (Qfg Z) hr.m (Qd (Qa 3) (Qd (Qa 2) (Qd (Qa 4) (Qd (Qa 5) (Qd (Qa 9) Qj)))))))
 (Qc (r_if (Qft (Qa 10) QaL) (Qh (QV r_bl)) Qz)
 (Qc (Qo8 4 5 rfl Y1.nd (Qd (Qi (Qa 10) Qe) (Qd (Qi (Qa 10) Qe) Qj)))
 (Qc (Qt 6 Y1.nd (Z8 (Qa 6) (Qi (Qa 10) Qe)))
 (Qh (r_if (r_w (Qby (Jq hr (Ym (Qa 7) Qe) Qe) (Qav (Qal (Yl (Qo (Qbc Z 6) hr.m (Qd (Ql7 (Qel Z) hr.m (Qd (Qa 3) (Qd (Qa 6) Qj))) (Qd (Zt (Qd (Qo (Qjq Z) hr.m (Qd (Qa 4) Qj)) (Qd (Qa 6) Qj))) Qj)))))))) (Qh (QV r_bl)) Qz))))))))
 (Qc (Qt 11 Y1.nd (Qo (QgV Z) hr.m (Qd (Qa 0) (Qd (Qa 1) Qj))))
 (Qh (QV (Qo (Qc6 Z) hr.m (Qd (Qa 3) (Qd (Qa 5) (Qd (Qa 11) (Qd (Ym (Qo (QgV Z) hr.m (Qd (Qa 0) (Qd (Qa 1) Qj))) (Z8 (Qa 11) Qe)) Qj))))))))))))))))
end
noncomputable def caOf(l:List Nat)(n:Nat):Addr:=l.getD n 0
def FA(K:Frag)(x:Str)(st:Stmt):Prop:=∃(f:Addr)(oc kV dc pm cd ct:Value)(od an:Option Addr)(sl:Array (Option Value)),nsIn K mainGlobals x=some (some (.ref f))/\K.lookup f=some ⟨oc,od,.func (fnOf x x (Zg st) (QQ st) (Qf st) .none kV dc pm an cd ct),sl⟩/\codeIn K cd x=true/\keepIn K (.ref f)=true
theorem fa_mk{K:Frag}{x:Str}{st:Stmt}{f:Addr}{oc kV dc pm cd ct:Value}{od an:Option Addr}{sl:Array (Option Value)}(a:nsIn K mainGlobals x=some (some (.ref f)))(l:K.lookup f=some ⟨oc,od,.func (fnOf x x (Zg st) (QQ st) (Qf st) .none kV dc pm an cd ct),sl⟩)(d:codeIn K cd x=true)(k:keepIn K (.ref f)=true):FA K x st:=⟨f,oc,kV,dc,pm,cd,ct,od,an,sl,a,l,d,k⟩
theorem FA.u{K:Frag}{h:Heap}{mg:Str->Option Value}{x:Str}{st:Stmt}(a:FA K x st)(X:K.In h)(G:h.Ns mainGlobals mg):UF K mg x st:=by
 obtain⟨f,oc,kV,dc,pm,cd,ct,od,an,sl,a,l,d,k⟩:=a
 exact⟨f,_,Qda l d k,TX X G a⟩
theorem z_mk{K:Frag}{h:Heap}{mg:Str->Option Value}(X:K.In h)(G:h.Ns mainGlobals mg){C0 C1 C5 C6 C11 C13:Addr}{oc32 kV32 dc32 pm32 cd32 ct32:Value}{od32 an32:Option Addr}{sl32:Array (Option Value)}{f32:Addr}{oc33 kV33 dc33 pm33 cd33 ct33:Value}{od33 an33:Option Addr}{sl33:Array (Option Value)}{f33:Addr}{oc34 kV34 dc34 pm34 cd34 ct34:Value}{od34 an34:Option Addr}{sl34:Array (Option Value)}{f34:Addr}{oc35 kV35 dc35 pm35 cd35 ct35:Value}{od35 an35:Option Addr}{sl35:Array (Option Value)}{f35:Addr}{oc36 kV36 dc36 pm36 cd36 ct36:Value}{od36 an36:Option Addr}{sl36:Array (Option Value)}{f36:Addr}{oc37 kV37 dc37 pm37 cd37 ct37:Value}{od37 an37:Option Addr}{sl37:Array (Option Value)}{f37:Addr}{dt37:Addr}{dk37:Tok}{de37:Value}{dd37:Option Addr}{dn37:Nat}{ds37:Array (Option Value)}{og_BLANK:_}{og_LEFT:_}{og_RIGHT:_}(c0:nsIn K mainGlobals "TapeError" = some (some (.ref C0)))(c1:nsIn K mainGlobals "NoMachine" = some (some (.ref C1)))(c5:nsIn K mainGlobals "NoStretches" = some (some (.ref C5)))(c6:nsIn K mainGlobals "TooLong" = some (some (.ref C6)))(c11:nsIn K mainGlobals "Machine" = some (some (.ref C11)))(c13:nsIn K mainGlobals "FastWalk" = some (some (.ref C13)))(a1:FA K "is_whole" Qbp)(a2:FA K "is_below" Qbq)(a3:FA K "is_from_nought" Yj)(a4:FA K "is_entry" Qbs)(a5:FA K "check_rows" YY)(a6:FA K "states_of" QaD)(a7:FA K "signs_of" Qbt)(a8:FA K "add_stretch" JA)(a9:FA K "is_stretch" J0)(a10:FA K "check_side" YZ)(a11:FA K "check_stretches" Z0)(a12:FA K "marks_of" Qah)(a13:FA K "shot_of" QcI)(a14:FA K "put" Qmv)(a15:FA K "drop" Qjl)(a16:FA K "nearest_sign" Y9)(a17:FA K "alike" QfV)(a18:FA K "check_of_machine" Zj)(a19:FA K "fast_from" QaE)(a20:FA K "_law_next" Qef)(a21:FA K "_law_same" Qb3)(a22:FA K "_law_table" QcN)(a23:FA K "_law_shot" Qb4)(a24:FA K "_law_machine_by" Ja)(a25:FA K "_law_seen" Qb5)(a26:FA K "_law_fast" Qeg)(a27:FA K "_law_far" QfX)(a28:FA K "_law_walk" Qeh)(a29:FA K "_law_great_end" JC)(a30:FA K "_law_stretch" QaF)(a31:FA K "law" QkC)(a32:findIn K (.ref C11) "__init__" = some (some (.ref f32)))(l32:K.lookup f32=some ⟨oc32,od32,.func (fnOf "__init__" "Machine.__init__" (Zg Q2) (QQ Q2) (Qf Q2) .none kV32 dc32 pm32 an32 cd32 ct32),sl32⟩)(d32:codeIn K cd32 "Machine.__init__" = true)(k32:keepIn K (.ref f32)=true)(i32:isFn K (.ref f32)=true)(m32:makesIn K C11=true)(q32:keepIn K (.ref C11)=true)(a33:findIn K (.ref C13) "__init__" = some (some (.ref f33)))(l33:K.lookup f33=some ⟨oc33,od33,.func (fnOf "__init__" "FastWalk.__init__" (Zg Q6) (QQ Q6) (Qf Q6) .none kV33 dc33 pm33 an33 cd33 ct33),sl33⟩)(d33:codeIn K cd33 "FastWalk.__init__" = true)(k33:keepIn K (.ref f33)=true)(i33:isFn K (.ref f33)=true)(m33:makesIn K C13=true)(q33:keepIn K (.ref C13)=true)(a34:findIn K (.ref C13) "entry" = some (some (.ref f34)))(l34:K.lookup f34=some ⟨oc34,od34,.func (fnOf "entry" "FastWalk.entry" (Zg QT) (QQ QT) (Qf QT) .none kV34 dc34 pm34 an34 cd34 ct34),sl34⟩)(d34:codeIn K cd34 "FastWalk.entry" = true)(k34:keepIn K (.ref f34)=true)(i34:isFn K (.ref f34)=true)(w34:clsB K C13=true)(a35:findIn K (.ref C13) "leap" = some (some (.ref f35)))(l35:K.lookup f35=some ⟨oc35,od35,.func (fnOf "leap" "FastWalk.leap" (Zg Q7) (QQ Q7) (Qf Q7) .none kV35 dc35 pm35 an35 cd35 ct35),sl35⟩)(d35:codeIn K cd35 "FastWalk.leap" = true)(k35:keepIn K (.ref f35)=true)(i35:isFn K (.ref f35)=true)(w35:clsB K C13=true)(a36:findIn K (.ref C13) "row" = some (some (.ref f36)))(l36:K.lookup f36=some ⟨oc36,od36,.func (fnOf "row" "FastWalk.row" (Zg Zf) (QQ Zf) (Qf Zf) .none kV36 dc36 pm36 an36 cd36 ct36),sl36⟩)(d36:codeIn K cd36 "FastWalk.row" = true)(k36:keepIn K (.ref f36)=true)(i36:isFn K (.ref f36)=true)(w36:clsB K C13=true)(a37:nsIn K mainGlobals "fast_after" = some (some (.ref f37)))(l37:K.lookup f37=some ⟨oc37,od37,.func (fnOf "fast_after" "fast_after" (Zg ZK) (QQ ZK) (Qf ZK) (.ref dt37) kV37 dc37 pm37 an37 cd37 ct37),sl37⟩)(y37:K.lookup dt37=some ⟨de37,dd37,.seq #[.int 5000 dk37] dn37,ds37⟩)(d37:codeIn K cd37 "fast_after" = true)(k37:keepIn K (.ref f37)=true)(nz_all:nsIn K mainGlobals "all" = some none)(nz_any:nsIn K mainGlobals "any" = some none)(nz_bool:nsIn K mainGlobals "bool" = some none)(nz_enumerate:nsIn K mainGlobals "enumerate" = some none)(nz_int:nsIn K mainGlobals "int" = some none)(nz_isinstance:nsIn K mainGlobals "isinstance" = some none)(nz_len:nsIn K mainGlobals "len" = some none)(nz_list:nsIn K mainGlobals "list" = some none)(nz_min:nsIn K mainGlobals "min" = some none)(nz_range:nsIn K mainGlobals "range" = some none)(nz_reversed:nsIn K mainGlobals "reversed" = some none)(nz_sorted:nsIn K mainGlobals "sorted" = some none)(nz_str:nsIn K mainGlobals "str" = some none)(nz_tuple:nsIn K mainGlobals "tuple" = some none)(nz_zip:nsIn K mainGlobals "zip" = some none)(ng_BLANK:nsIn K mainGlobals "BLANK" = some (some (.int 0 og_BLANK)))(ng_LEFT:nsIn K mainGlobals "LEFT" = some (some (.str "l" og_LEFT)))(ng_RIGHT:nsIn K mainGlobals "RIGHT" = some (some (.str "r" og_RIGHT)))(nt_TooLong:catB K (caOf [C0,C1,0,0,0,C5,C6,0,0,0,0,C11,0,C13]) C6 [6] [0,1,5]=true)(ne_TooLong:excIn K C6 bmV "ValueError.__new__" = true)(na_left:fldB K (caOf [C0,C1,0,0,0,C5,C6,0,0,0,0,C11,0,C13]) [13] "left" = true)(na_moved:fldB K (caOf [C0,C1,0,0,0,C5,C6,0,0,0,0,C11,0,C13]) [13] "moved" = true)(na_own:fldB K (caOf [C0,C1,0,0,0,C5,C6,0,0,0,0,C11,0,C13]) [13] "own" = true)(na_right:fldB K (caOf [C0,C1,0,0,0,C5,C6,0,0,0,0,C11,0,C13]) [13] "right" = true)(na_state:fldB K (caOf [C0,C1,0,0,0,C5,C6,0,0,0,0,C11,0,C13]) [13] "state" = true)(na_table:fldB K (caOf [C0,C1,0,0,0,C5,C6,0,0,0,0,C11,0,C13]) [11,13] "table" = true):Zk K mg (caOf [C0,C1,0,0,0,C5,C6,0,0,0,0,C11,0,C13]) :=
  ⟨UH X G nz_all,
   UH X G nz_any,
   UH X G nz_bool,
   UH X G nz_enumerate,
   UH X G nz_int,
   UH X G nz_isinstance,
   UH X G nz_len,
   UH X G nz_list,
   UH X G nz_min,
   UH X G nz_range,
   UH X G nz_reversed,
   UH X G nz_sorted,
   UH X G nz_str,
   UH X G nz_tuple,
   UH X G nz_zip,
   ⟨_,TX X G ng_BLANK⟩,
   ⟨_,TX X G ng_LEFT⟩,
   ⟨_,TX X G ng_RIGHT⟩,
   ⟨TX X G c6,QnD nt_TooLong⟩,
   ⟨TX X G c6,ne_TooLong⟩,
   Qde na_left,
   Qde na_moved,
   Qde na_own,
   Qde na_right,
   Qde na_state,
   Qde na_table,
   a1.u X G,
   a2.u X G,
   a3.u X G,
   a4.u X G,
   a5.u X G,
   ⟨f32,_,Qda (st:=Q2) l32 d32 k32,⟨m32,a32,i32,q32⟩,TX X G c11⟩,
   a6.u X G,
   a7.u X G,
   a8.u X G,
   a9.u X G,
   a10.u X G,
   a11.u X G,
   a12.u X G,
   a13.u X G,
   a14.u X G,
   a15.u X G,
   a16.u X G,
   a17.u X G,
   ⟨f33,_,Qda (st:=Q6) l33 d33 k33,⟨m33,a33,i33,q33⟩,TX X G c13⟩,
   ⟨f34,_,Qda (st:=QT) l34 d34 k34,⟨a34,i34,k34⟩,Qgo w34⟩,
   ⟨f35,_,Qda (st:=Q7) l35 d35 k35,⟨a35,i35,k35⟩,Qgo w35⟩,
   ⟨f36,_,Qda (st:=Zf) l36 d36 k36,⟨a36,i36,k36⟩,Qgo w36⟩,
   a18.u X G,
   a19.u X G,
   ⟨f37,_,Ql6 (st:=ZK) l37 d37 k37 y37,TX X G a37⟩,
   a20.u X G,
   a21.u X G,
   a22.u X G,
   a23.u X G,
   a24.u X G,
   a25.u X G,
   a26.u X G,
   a27.u X G,
   a28.u X G,
   a29.u X G,
   a30.u X G,
   a31.u X G⟩
theorem walk{l:PySem.W.OpenLaw}{p:Program}{loose:List Str}{XP:(Str->Option Value)->Heap->Prop}{YP:World->Heap->Prop}{d:DefRec}{K:Params->Frag}(C:List Nat)(hn:l.most=some 63)(hdf:d.params.defaults=[])(hd:d.name = "law")(hY:∀(w:World) (h:Heap),YP w h->(K w.params).In h)(F:∀(w:World) (mg:Str->Option Value) (h:Heap),(K w.params).In h->h.Ns mainGlobals mg->Zk (K w.params) mg (caOf C))(M:∀ns:List Int,ns.length<=63->∃g',Qkd [.fl (ns.map D.int)] []=.ok (.bl true) g'):PySem.W.WalkO p loose XP YP l.row.toRowW d [] (λf vs=>PySem.call f vs):=by
 refine L2.walk_of (n:=63) (k:=10) (x:="_law_script") (CX:=λw=>CXW l.prog w (caOf C)) (sp:=λw=>spM (K w.params) (caOf C) 1 Qkd) hn (by decide) hdf ⟨rfl,by decide,by decide⟩ hY (λw mg fa h KX G hmg=>?_) (λw H a ns hl hO hS=>QnE hO hS (M ns hl)) (λw H s e s' z=>?_)
 ·have Z:=F w mg h KX G
  obtain⟨f,fd,Fu,hm⟩:=Z.u36
  rw[hd]at hmg
  have e:=hmg.symm.trans hm
  cases e
  refine⟨fd,λs u=>?_,λbase _ _=>Qor Z Fu⟩
  obtain⟨oc,od,kV,doc,pm,an,cdv,ct,osl,rfl,lk,hcd⟩:=Fu.ex
  exact .of_eq rfl
 ·obtain⟨_,_,_,_,_,_,_,_,_,_,z⟩:=z
  exact z
end V
namespace V
open PySem PySem.W PySem.W.X PySem.Spec PyProof.Rows
theorem walkX_of{as:List Addr}{K:Params->Frag}{n t:Nat}{q:Program}{loose:List Str}{XP:(Str->Option Value)->Heap->Prop}{r:RowW}{d:DefRec}{kwd:List (Str×PySem.Expr)}{run:Value->List Value->Sem Value}(e:∀P,as=(K P).map (·.1))(h:WalkO q loose XP (InK K) r d kwd run):WalkX q loose XP (obsZ as) (valZ K n t) r d kwd run :=
 λw s₀ s₁ mg mb G y a o pm cd doc dV kV h1 h2 h3 h4 h5 h6 args vals as' L p1 p2 p3 p4 p5 =>
  h w s₀ s₁ mg mb G (InK.keeps w _ _ (z_facts e y).2.1 L.keeps) a o pm cd doc dV kV h1 h2 h3 h4 h5 h6 args vals as' p1 p2 p3 p4 p5
end V
noncomputable def PySem.W.Fast.tw676897438217692453 : PySem.Program := PySem.Challenge.pw_tapeproof_k91_whole_fast
theorem PySem.W.Fast.te676897438217692453 : PySem.Challenge.pw_tapeproof_k91_whole_fast = PySem.W.Fast.tw676897438217692453 := rfl
def PySem.W.Fast.tw2090367897826330733 : Unit := ()
def PySem.W.Fast.tw10528407951322392127 : Unit := ()
def PySem.W.Fast.tw9100609208118345855 : Unit := ()
def PySem.W.Fast.tw13246057941620579596 : Unit := ()
def PySem.W.Fast.tw3035021971798714453 : Unit := ()
def PySem.W.Fast.tw4238476717567113257 : Unit := ()
def PySem.W.Fast.tw4123482507671311170 : Unit := ()
def PySem.W.Fast.tw5496756154334465009 : Unit := ()
def PySem.W.Fast.tw1407937066686313405 : Unit := ()
def PySem.W.Fast.tw2981922878600894556 : Unit := ()
def PySem.W.Fast.tw17616905161291162727 : Unit := ()
def PySem.W.Fast.tw6853677709433782149 : Unit := ()
def PySem.W.Fast.tw3853236379336279635 : Unit := ()
def PySem.W.Fast.tw9497994068279831435 : Unit := ()
def PySem.W.Fast.tw15264524371160166087 : Unit := ()
def PySem.W.Fast.tw9582453242120269994 : Unit := ()
def PySem.W.Fast.tw6477050546346723132 : Unit := ()
def PySem.W.Fast.tw2175231715013066714 : Unit := ()
def PySem.W.Fast.tw13480096541851967214 : Unit := ()
def PySem.W.Fast.tw2353614576631739478 : Unit := ()
def PySem.W.Fast.tw15243608125600078195 : Unit := ()
def PySem.W.Fast.tw5726932475771986035 : Unit := ()
def PySem.W.Fast.tw14241992130671453195 : Unit := ()
def PySem.W.Fast.tw2674586534992272366 : Unit := ()
def PySem.W.Fast.tw5110000305970298645 : Unit := ()
def PySem.W.Fast.tw2508885380284875418 : Unit := ()
def PySem.W.Fast.tw15167598602010211984 : Unit := ()
def PySem.W.Fast.tw2034518859523994041 : Unit := ()
def PySem.W.Fast.tw2620284247652577361 : Unit := ()
def PySem.W.Fast.tw12349411468784750799 : Unit := ()
def PySem.W.Fast.tw12705478641161386337 : Unit := ()
def PySem.W.Fast.tw14972275359726532374 : Unit := ()
def PySem.W.Fast.tw15614778883610748221 : Unit := ()
def PySem.W.Fast.tw15711593060535958953 : Unit := ()
def PySem.W.Fast.tw13655548528291956022 : Unit := ()
def PySem.W.Fast.tw2168955855695951193 : Unit := ()
def PySem.W.Fast.tw5885216983526635070 : Unit := ()
def PySem.W.Fast.tw31590936293697625 : Unit := ()
def PySem.W.Fast.tw12460950600377413737 : Unit := ()
def PySem.W.Fast.tw6661102620073619641 : Unit := ()
def PySem.W.Fast.tw10291630403694383318 : Unit := ()
def PySem.W.Fast.tw10750603236158603341 : Unit := ()
def PySem.W.Fast.tw17076998977558720849 : Unit := ()
def PySem.W.Fast.tw9723259591457120446 : Unit := ()
def PySem.W.Fast.tw2399792074655792700 : Unit := ()
def PySem.W.Fast.tw6425004066829915006 : Unit := ()
def PySem.W.Fast.tw10869439227685147759 : Unit := ()
def PySem.W.Fast.tw864395985513243579 : Unit := ()
def PySem.W.Fast.tw11463469171830839898 : Unit := ()
def PySem.W.Fast.tw9468005315098431096 : Unit := ()
def PySem.W.Fast.tw7214599106803458580 : Unit := ()
def PySem.W.Fast.tw3316933713861488194 : Unit := ()
def PySem.W.Fast.tw5240168148370404534 : Unit := ()
def PySem.W.Fast.tw9197483590921115644 : Unit := ()
def PySem.W.Fast.tw8782627003704860210 : Unit := ()
open PySem PySem.W PyProof.Rows
set_option maxRecDepth 100000 in
set_option maxHeartbeats 0 in
theorem PySem.Challenge.cw_tapeproof_k91_whole_fast_holds : PySem.Challenge.rw_tapeproof_k91_whole_fast.Holds := by
  w_on; o_law; z_head; (case hw=>w_witness2)
  k_fill
  refine V.walkX_of (fun P=>?E) (V.walk (l:=PySem.Challenge.rw_tapeproof_k91_whole_fast) [24,37,0,0,0,49,61,0,0,0,0,111,0,233] rfl rfl rfl (fun w h Y=>Y) ?F L3.law_true)
  case E=>kernel_rfl
  case F =>
    intro w mg h KX G
    refine' V.z_mk KX G ?_ ?_ ?_ ?_ ?_ ?_ ?_ ?_ ?_ ?_ ?_ ?_ ?_ ?_ ?_ ?_ ?_ ?_ ?_ ?_ ?_ ?_ ?_ ?_ ?_ ?_ ?_ ?_ ?_ ?_ ?_ ?_ ?_ ?_ ?_ ?_ ?_ ?_ ?_ ?_ ?_ ?_ ?_ ?_ ?_ ?_ ?_ ?_ ?_ ?_ ?_ ?_ ?_ ?_ ?_ ?_ ?_ ?_ ?_ ?_ ?_ ?_ ?_ ?_ ?_ ?_ ?_ ?_ ?_ ?_ ?_ ?_ ?_ ?_ ?_ ?_ ?_ ?_ ?_ ?_ ?_ ?_ ?_ ?_ ?_ ?_ ?_ ?_ ?_ ?_ ?_ ?_ ?_ ?_ ?_ ?_ ?_ ?_ ?_ ?_
    rotate_right 100
    iterate 6 (focus k_is)
    iterate 31 (focus (refine' V.fa_mk ?_ ?_ ?_ ?_; rotate_right 4; iterate 4 focus k_is))
    iterate 19 (focus k_is)
    iterate 1 (focus kernel_rfl)
    iterate 5 (focus k_is)
    iterate 1 (focus kernel_rfl)
    iterate 5 (focus k_is)
    iterate 1 (focus kernel_rfl)
    iterate 23 (focus k_is)
    iterate 1 (focus kernel_rfl)
    iterate 1 (focus k_exc)
    iterate 6 (focus kernel_rfl)
