import PyProof.Rows.All
import Wide.All
import OpenK.AllK
import Wide.FinOn
import Lean
import PyProof.EqAt
import PyProof.EqKinds
import PyProof.TupleCall
import PySem.Challenge.RW_tapeproof_k24_fast_after
local macro_rules | `(tactic| omega) => `(tactic| lia)
set_option Elab.async false
set_option linter.all false
set_option maxRecDepth 100000
abbrev Ua:=@PySem.wpAny_bind
abbrev Ub:=@PySem.Heap.get?_push_of_some
abbrev Uc:=@Nat.le_refl
abbrev Ud:=@if_pos
abbrev Ue:=@if_neg
abbrev Uf:=@List.size_toArray
abbrev Ug:=@Bool.false_ne_true
abbrev Uh:=@List.getElem?_set_ne
abbrev Ui:=@PyProof.Rows.wpS_bind
abbrev Uj:=@PySem.wpAny_pure
abbrev Uk:=@PySem.Heap.lt_size
abbrev Ul:=@PyProof.Rows.wpS_pure
abbrev Um:=@Array.length_toList
abbrev Uo:=@PySem.Heap.get?_push_size
abbrev Up:=@List.getElem?_eq_some_iff
abbrev Uq:=@PySem.W.mg_of
abbrev Ur:=@Nat.lt_of_lt_of_le
abbrev Us:=@List.length_append
abbrev Ut:=@Nat.le_trans
abbrev Uu:=@List.getElem?_append_right
abbrev Uv:=@List.mem_cons_self
abbrev Uw:=@List.length_map
abbrev Ux:=@List.mem_cons_of_mem
abbrev Uy:=@List.getElem?_append_left
abbrev Uz:=@List.mem_singleton
abbrev UA:=@List.getElem?_map
abbrev UB:=@decide_eq_false
abbrev UC:=@decide_eq_true
abbrev UD:=@List.mem_cons
abbrev UE:=@PySem.W.mg_none_of
abbrev UF:=@Nat.ne_of_lt
abbrev UG:=@List.append_assoc
abbrev UH:=@List.map_cons
abbrev UI:=@of_decide_eq_true
abbrev UJ:=@List.append_nil
abbrev UK:=@List.mem_append_right
abbrev UL:=@List.getElem_mem
abbrev UM:=@List.find?_cons
abbrev UN:=@Int.le_trans
abbrev UO:=@Array.toList_append
abbrev UP:=@List.getElem?_eq_getElem
abbrev UQ:=@List.length_cons
abbrev UR:=@Bool.and_eq_true
abbrev US:=@Array.getElem_mem
abbrev UT:=@PySem.wpAny_field
abbrev UU:=@List.take_succ_eq_append_getElem
abbrev UV:=@PyProof.Rows.callWith_type1
abbrev UW:=@PyProof.Rows.slot_tuple_getitem
abbrev UX:=@List.replicate_succ
abbrev UY:=@PySem.W.kia_one
abbrev UZ:=@List.getElem?_eq_none_iff
abbrev U0:=@List.pairwise_append
abbrev U1:=@PySem.Heap.get?_update_other
abbrev U2:=@Nat.zero_le
abbrev U3:=@Nat.le_of_lt
abbrev U4:=@PyProof.Rows.wpS_forRange
abbrev U5:=@List.length_take
abbrev U6:=@List.length_replicate
abbrev U7:=@PySem.wpAny_newObj_type
abbrev U8:=@Int.le_refl
abbrev U9:=@Array.mem_toList_iff
abbrev Ta:=@List.mem_append
abbrev Tc:=@Nat.lt_irrefl
abbrev Td:=@List.getElem?_set_self
abbrev Te:=@Nat.le_of_add_right_le
abbrev Tf:=@PySem.wpAny_mono
abbrev Tg:=@beq_eq_false_iff_ne
abbrev Th:=@List.getElem_of_mem
abbrev Ti:=@Int.toNat_of_nonneg
abbrev Tj:=@List.take_append_drop
abbrev Tk:=@Int.le_of_lt
abbrev Tm:=@PySem.wpAny_callSpecial?_slot
abbrev Tn:=@List.getElem?_cons_zero
abbrev To:=@Array.getElem_toList
abbrev Tp:=@List.all_eq_true
abbrev Tq:=@Array.getElem?_eq_some_iff
abbrev Tr:=@Nat.lt_of_succ_lt
abbrev Ts:=@Nat.add_le_add_left
abbrev Tt:=@List.mem_range
abbrev Tu:=@PySem.Heap.size_push
abbrev Tv:=@Nat.zero_add
abbrev Tw:=@List.getElem?_toArray
abbrev Tx:=@List.getElem?_eq_none
abbrev Tz:=@PyProof.Rows.wpS_mono
abbrev TB:=@List.pairwise_cons
abbrev TC:=@Int.emod_lt_of_pos
abbrev TD:=@Nat.lt_succ_self
abbrev TF:=@List.length_drop
abbrev TH:=@PySem.wpAny_seqItems
abbrev TJ:=@List.getElem?_cons_succ
abbrev TK:=@PySem.wpAny_truthy_bool
abbrev TL:=@PySem.W.kia_tup
abbrev TM:=@Int.emod_nonneg
abbrev TN:=@List.filterMap_cons
abbrev TQ:=@PySem.mem_of_lookup
abbrev TR:=@beq_iff_eq
abbrev TU:=@PySem.wpAny_holding
abbrev TV:=@PySem.wpAny_call_entry
abbrev TW:=@List.any_cons
abbrev TX:=@List.filter_cons
abbrev TY:=@PySem.F.slot_tuple_iterator_next
abbrev TZ:=@PySem.wpAny_setField_rec
abbrev T0:=@of_decide_eq_false
abbrev T4:=@Array.getElem?_toList
abbrev T5:=@List.extract_eq_take_drop
abbrev T6:=@PySem.wpAny_passesOwn
abbrev T7:=@Bool.eq_iff_iff
abbrev T8:=@List.length_set
abbrev T9:=@List.reverse_cons
abbrev Ra:=@List.flatten_cons
abbrev Rb:=@congrArg
abbrev Rc:=@List.length_reverse
abbrev Re:=@List.getElem?_replicate
abbrev Rf:=@Option.map_eq_some_iff
abbrev Rg:=@PySem.wpAny_Call_Name_kw
abbrev Rh:=@Bool.false_eq_true
abbrev Ri:=@PySem.wpAny_rule
abbrev Rj:=@PySem.Heap.get?_update_self
abbrev Rk:=@PySem.W.kitx_list
abbrev Rl:=@Array.toList_push
abbrev Rm:=@Nat.pred_lt_of_lt
abbrev Rn:=@Array.perm_iff_toList_perm
abbrev Ro:=@List.mem_append_left
abbrev Rq:=@Array.toList_extract
abbrev Rr:=@Array.toList_reverse
abbrev Rs:=@Nat.le_add_right
abbrev Rt:=@List.drop_eq_getElem_cons
abbrev Ru:=@List.take_length
abbrev Rv:=@List.reverse_append
abbrev Rw:=@List.getElem?_take_of_lt
abbrev Rx:=@PySem.F.args_tuple_add_2
abbrev Ry:=@List.nil_append
abbrev Rz:=@Array.append_assoc
abbrev RA:=@PySem.Obj.data_mapFields
abbrev RB:=@PySem.W.callWith_K
abbrev RC:=@PySem.F.entry_tuple_add
abbrev RD:=@PySem.F.plainAttrs_list
abbrev RE:=@Nat.add_sub_cancel_left
abbrev RG:=@Int.not_lt
abbrev RH:=@PySem.F.slot_tuple_add
abbrev RI:=@List.Perm.append_right
abbrev RJ:=@PySem.wpAny_pyIter_list
abbrev RK:=@Nat.le_pred_of_lt
abbrev RL:=@PySem.wpAny_setField
abbrev RM:=@PyProof.Rows.K_mirror_equal
abbrev RN:=@Nat.le_of_eq
abbrev RO:=@PySem.wpAny_typeOf
abbrev RP:=@List.mem_map
abbrev RQ:=@List.Perm.append_left
abbrev RS:=@List.perm_append_comm
abbrev RT:=@Nat.le_of_not_lt
abbrev RU:=@beq_self_eq_true
abbrev RV:=@Nat.succ_le_succ
abbrev RW:=@List.mem_of_getElem?
abbrev RX:=@List.all_cons
abbrev RY:=@PySem.wpAny_updateSeq_pair
abbrev RZ:=@PySem.Around.under_plainId
abbrev R0:=@Nat.le_succ
abbrev Wa:=@PySem.F.args_tuple_iterator_next_1
abbrev Wb:=@PySem.wpAny_execs_nil
abbrev Wc:=@List.nodup_cons
abbrev Wd:=@List.forIn_cons
abbrev We:=@PySem.F.slot_zip_next
abbrev Wf:=@Array.size_push
abbrev Wg:=@PySem.wpAny_specialOf
abbrev Wh:=@List.map_append
abbrev Wi:=@PySem.W.plainGet_of
abbrev Wj:=@if_true
abbrev Wk:=@Bool.or_eq_true_iff
abbrev Wl:=@Nat.add_sub_cancel'
abbrev Wm:=@PySem.F.entry_tuple_iterator_next
abbrev Wn:=@Nat.ne_of_gt
abbrev Wo:=@PySem.codeAny_mono
abbrev Wp:=@List.set_set
abbrev Wq:=@PySem.Calls.Name_function_global
abbrev Wr:=@PySem.F.excBase_ValueError
abbrev Ws:=@Array.toList_setIfInBounds
abbrev Wt:=@List.mem_filterMap
abbrev Wu:=@PySem.W.kitx_tuple
abbrev Wv:=@PySem.Calls.spliced_cons
abbrev Ww:=@PySem.SeqAt.EqAt.int_int
abbrev Wx:=@Nat.lt_of_le_of_ne
abbrev Wy:=@Nat.pos_of_ne_zero
abbrev Wz:=@Nat.lt_of_le_of_lt
abbrev WA:=@List.forIn_nil
abbrev WB:=@List.drop_drop
abbrev WC:=@List.take_zero
abbrev WD:=@PySem.call_meets
abbrev WE:=@Decidable.byContradiction
abbrev WF:=@PyProof.Rows.wpS_get
abbrev WG:=@List.pairwise_iff_getElem
abbrev WH:=@PyProof.Rows.wpS_modify
abbrev WI:=@Array.getElem?_eq_getElem
abbrev WJ:=@List.mem_or_eq_of_mem_set
abbrev WK:=@if_false
abbrev WL:=@PySem.W.kitx_dict
abbrev WM:=@PySem.Calls.spliced_nil
abbrev WN:=@Int.toNat_natCast
abbrev WO:=@Array.size_append
abbrev WP:=@List.pairwise_map
abbrev WQ:=@Option.isSome_iff_exists
abbrev WR:=@PySem.sizeLine_eq
abbrev WS:=@PySem.wpAny_onRaise
abbrev WT:=@PySem.plainId_quiet
abbrev WU:=@List.eraseIdx_cons_succ
abbrev WV:=@Nat.succ_pred_eq_of_pos
abbrev WW:=@PySem.F.plainAttrs_dict
abbrev WX:=@PySem.noFill_tuple_add
abbrev WY:=@PySem.wpAny_isInstance
abbrev WZ:=@PySem.Heap.size_update
abbrev W0:=@PySem.W.cellsFrom_some
abbrev W5:=@List.take_of_length_le
abbrev W6:=@List.drop_eq_nil_of_le
abbrev W7:=@List.reverse_singleton
abbrev W8:=@Array.getElem?_eq_none
abbrev W9:=@PyProof.Rows.wpS_lift
abbrev Ba:=@List.mem_filter
abbrev Bb:=@List.of_mem_zip
abbrev Bc:=@PySem.codeAny_builtin
abbrev Bd:=@Int.natCast_add
abbrev Be:=@List.length_singleton
abbrev Bg:=@PySem.W.methodCall_KW
abbrev Bh:=@List.dropLast_eq_take
abbrev Bi:=@Nat.add_lt_of_lt_sub'
abbrev Bj:=@Nat.le_sub_of_add_le'
abbrev Bk:=@List.set_append_right
abbrev Bm:=@List.getElem?_reverse
abbrev Bn:=@List.length_filter_le
abbrev Bo:=@PySem.F.slot_dict_pop
abbrev Bp:=@PySem.F.slot_dict_get
abbrev Bt:=@Bool.and_eq_true_iff
abbrev Bu:=@Nat.sub_lt_sub_right
abbrev Bv:=@List.reverse_reverse
abbrev Bx:=@PySem.wpAny_letGo
open PySem.W (InitBack Looks any_some bind_fn callWith_K callWith_K0 cellsFrom_some clsIn codeIn codeRec_of emptyDict eq_bytes excIn findIn findObj_own fnOf get_value handedIn hasDictIn hideAll hideAll_get hideAll_none hideAll_size instObj isFn isNs_of_in kdl_call kdl_dict keepIn ki_setAt ki_setBack kia_one kia_tup kitAny kitOne kitx_bool kitx_dict kitx_float kitx_int kitx_list kitx_none kitx_own kitx_str kitx_tuple lookIn looks_clsIn looks_findIn looks_subIn looks_typeIn make_core makesIn makes_of methodCall_KW methodObj method_fn mg_none_of mg_of mroIn ne_bytes nsIn nsMap_none_of_in of_hideAll osa_open plainGet plainGet_of plainOver set_plain specialIn subIn tail_of_in takerIn takesIn typeIn)
namespace L2
open PySem PySem.Spec PyProof.Rows
noncomputable abbrev Key:=Sum Int Str
noncomputable def QeA:Key->Value->Bool
 |.inl k,v=>Value.isInt k v
 |.inr x,v=>Value.isStrOf x v
noncomputable def keyH(w:World):Key->Int
 |.inl k=>hashInt k
 |.inr x=>hashStr w x
theorem QY:∀{k:Key}{v:Value},QeA k v=true->(∃i t,k=Sum.inl i/\v=Value.int i t)\/(∃x t,k=Sum.inr x/\v=Value.str x t)
 |.inl i,v,h=>by
  obtain⟨t,e⟩:=Value.isInt_shape (k:=i) (v:=v) h
  exact .inl ⟨i,t,rfl,e⟩
 |.inr x,v,h=>by
  obtain⟨t,e⟩:=Value.isStrOf_shape (x:=x) (v:=v) h
  exact .inr ⟨x,t,rfl,e⟩
theorem QgX(i:Int)(t:Tok):QeA (.inl i) (.int i t)=true:=by simp[QeA,Value.isInt]
theorem QgY(x:Str)(t:Tok):QeA (.inr x) (.str x t)=true:=by simp[QeA,Value.isStrOf]
theorem QlY(a b:Int):decide ((Sum.inl a:Key)=Sum.inl b)=(a == b):=by
 by_cases e:a=b
 ·subst e;simp
 ·have h:¬(Sum.inl a:Key)=Sum.inl b:=λq=>e (Sum.inl.inj q)
  rw[UB h]
  exact(Tg.mpr e).symm
theorem QlZ(a b:Str):decide ((Sum.inr a:Key)=Sum.inr b)=decide (a=b):=by
 by_cases e:a=b
 ·subst e;simp
 ·have h:¬(Sum.inr a:Key)=Sum.inr b:=λq=>e (Sum.inr.inj q)
  rw[UB h,UB e]
theorem Ql0(a:Int)(b:Str):decide ((Sum.inl a:Key)=Sum.inr b)=false:=UB (λq=>nomatch q)
theorem Ql1(a:Str)(b:Int):decide ((Sum.inr a:Key)=Sum.inl b)=false:=UB (λq=>nomatch q)
noncomputable def Yt(prog:Program)(w:World):PySem.KeyKind prog w Key where
 is:=QeA
 hash:=keyH w
 inj:=λv a b ha hb=>by
  rcases QY ha with⟨i,t,rfl,rfl⟩|⟨x,t,rfl,rfl⟩
  ·rcases QY hb with⟨j,u,rfl,e⟩|⟨y,u,rfl,e⟩
   ·injection e with e1 _;rw[e1]
   ·exact nomatch e
  ·rcases QY hb with⟨j,u,rfl,e⟩|⟨y,u,rfl,e⟩
   ·exact nomatch e
   ·injection e with e1 _;rw[e1]
 byValue:=λk v h=>by
  rcases QY h with⟨i,t,rfl,rfl⟩|⟨x,t,rfl,rfl⟩ <;> rfl
 pyHash:=λhv h=>by
  rcases QY hv with⟨i,t,rfl,rfl⟩|⟨x,t,rfl,rfl⟩
  ·exact wpAny_pyHash_int h
  ·exact wpAny_pyHash_str h
 eqBool:=λhu hv h=>by
  rcases QY hu with⟨i,t,rfl,rfl⟩|⟨x,t,rfl,rfl⟩
  ·rcases QY hv with⟨j,u,rfl,rfl⟩|⟨y,u,rfl,rfl⟩
   ·rw[QlY]at h;exact wpAny_eqBool_int h
   ·rw[Ql0]at h;exact SeqAt.EqAt.int_str i t y u _ _ _ _ h
  ·rcases QY hv with⟨j,u,rfl,rfl⟩|⟨y,u,rfl,rfl⟩
   ·rw[Ql1]at h;exact SeqAt.EqAt.str_int x t j u _ _ _ _ h
   ·rw[QlZ]at h;exact wpAny_eqBool_str h
 «strs»:=λk x t v h=>by
  rcases QY h with⟨i,u,rfl,e⟩|⟨y,u,rfl,e⟩
  ·exact nomatch e
  ·injection e with e1 _
   subst e1
   cases v <;> rfl
theorem QeB(prog:Program)(w:World)(i:Int)(t:Tok):(Yt prog w).is (.inl i) (.int i t)=true:=QgX i t
theorem QeC(prog:Program)(w:World)(x:Str)(t:Tok):(Yt prog w).is (.inr x) (.str x t)=true:=QgY x t
end L2
namespace L2
open PySem PySem.Spec PyProof.Rows
inductive V where
 |non|bl (b:Bool)|int (i:Int)|str (x:Str)|byt (b:Array UInt8)|flt (b:UInt64)|ref (a:Addr)|ty (n:String)
 deriving DecidableEq
noncomputable def RelV:V->Value->Prop
 |.non,u=>u=Value.none
 |.bl b,u=>u=Value.bool b
 |.int i,u=>∃t,u=Value.int i t
 |.str x,u=>∃t,u=Value.str x t
 |.byt b,u=>∃t,u=Value.bytes b t
 |.flt b,u=>∃t,u=Value.float b t
 |.ref a,u=>u=Value.ref a
 |.ty n,u=>u=Value.type n
noncomputable abbrev Vals:List V->List Value->Prop:=Paired RelV
theorem Vals.length{xs:List V}{us:List Value}(r:Vals xs us):xs.length=us.length:=Paired.length r
theorem Vals.get:∀{xs:List V}{us:List Value}{i:Nat}{x:V},Vals xs us->xs[i]?=some x->∃u,us[i]?=some u/\RelV x u
 |_,_,_,_,.nil,e=>by simp at e
 |_,_,0,_,.cons r _,e=>by simp at e;subst e;exact⟨_,rfl,r⟩
 |_,_,i+1,x,.cons _ t,e=>by
  obtain⟨u,h1,h2⟩:=Vals.get (i:=i) (x:=x) t (by simpa using e)
  exact⟨u,by simpa using h1,h2⟩
theorem Vals.set{x:V}{u:Value}(r:RelV x u):∀{xs:List V}{us:List Value}(i:Nat),Vals xs us->Vals (xs.set i x) (us.set i u)
 |_,_,_,.nil=>.nil
 |_,_,0,.cons _ t=>.cons r t
 |_,_,i+1,.cons q t=>.cons q (Vals.set r i t)
theorem Vals.append:∀{xs ys:List V}{us ws:List Value},Vals xs us->Vals ys ws->Vals (xs++ys) (us++ws)
 |_,_,_,_,.nil,s=>s
 |_,_,_,_,.cons r t,s=>.cons r (Vals.append t s)
theorem Vals.take:∀{xs:List V}{us:List Value}(n:Nat),Vals xs us->Vals (xs.take n) (us.take n)
 |_,_,0,_=>.nil
 |_,_,_+1,.nil=>.nil
 |_,_,n+1,.cons r t=>.cons r (Vals.take n t)
theorem Vals.drop:∀{xs:List V}{us:List Value}(n:Nat),Vals xs us->Vals (xs.drop n) (us.drop n)
 |_,_,0,r=>r
 |_,_,_+1,.nil=>.nil
 |_,_,n+1,.cons _ t=>Vals.drop n t
theorem Vals.none_of:∀{xs:List V}{us:List Value}{i:Nat},Vals xs us->xs[i]?=none->us[i]?=none:=λ{xs us i} r e=>by
 have h1:=r.length
 have h2:xs.length<=i:=UZ.mp e
 exact UZ.mpr (by omega)
noncomputable def RelO:Option V->Option Value->Prop
 |some v,some u=>RelV v u
 |none,none=>True
 |_,_=>False
noncomputable def KV{κ:Type}:List (κ×V)->List (κ×Value)->Prop:=Paired λ(p:κ×V)(q:κ×Value)=>p.1=q.1/\RelV p.2 q.2
noncomputable def kV:Key->V
 |.inl i=>.int i
 |.inr x=>.str x
inductive HO where
 /-- a list -/
 |lst (xs:List V)
 /-- a tuple (never changes) -/
 |tup (xs:List V)
 /-- a dict whose keys are ints and texts;one whose keys are tuples of ints and texts (the empty one is both) -/
 |dK (kvs:List (Key×V))|dT (kvs:List (List Key×V))
 /-- a set of ints: its members,its size -/
 |set (S:Int->Bool) (n:Nat)
 /-- an instance of the class at C,its dict at dx,its attributes -/
 |ins (C dx:Addr) (fs:List (Str×V))
 /-- the dict of the instance at x -/
 |own (x:Addr)
 /-- the dict of an exception -/
 |xd (fs:List (Str×V))
 /-- a bound method,f of x -/
 |met (f x:Addr)
 /-- a range object lo,lo+1,.. below hi -/
 |rng (lo hi:Int)
 /-- a thing that is known to the object (the script;a dict while a loop walks it): read,never written while it is so -/
 |frz (o:Obj) (u:HO)
 /-- a code object's table -/
 |tbl (ps:Array Value)
 /-- any other thing,by what is true of its one object (a def of one's own: SetO a S n:=HO.ext λh=>..) -/
 |ext (φ:Heap->Prop)
noncomputable abbrev Hp:=Addr->Option HO
noncomputable def upd(H:Hp)(a:Addr)(o:HO):Hp:=λb=>if b=a then some o else H b
theorem Qp{H:Hp}{a:Addr}{o:HO}:upd H a o a=some o:=by unfold upd;rw[Ud rfl]
theorem Qw{H:Hp}{a b:Addr}{o:HO}(h:b≠a):upd H a o b=H b:=by unfold upd;rw[Ue h]
theorem QkA{H:Hp}{a b:Addr}{o u:HO}(h:H a=some o)(h':H b=some u)(d:o≠u):a≠b:=by
 intro e;subst e;rw[h]at h';exact d (Option.some.inj h')
theorem QT{H:Hp}{a b:Addr}{o:HO}(h:H a=some o)(h':H b=none):a≠b:=by
 intro e;subst e;rw[h]at h';cases h'
section
variable(P:Program)(w:World)
noncomputable def ObjOk(H:Hp)(h:Heap)(a:Addr):HO->Prop
 |.lst xs=>xs.length<=sizeLine/\∃(its:List Value)(n:Nat),Vals xs its/\h.get? a=some {cls:=.type "list",data:=.seq its.toArray n}
 |.tup xs=>xs.length<=sizeLine/\∃its:List Value,Vals xs its/\IsTup h a its.toArray
 |.dK kvs=>kvs.length<=sizeLine/\(a == sysModules)=false/\∃vs,KV kvs vs/\h.DictOf (Yt P w) a vs
 |.dT kvs=>kvs.length<=sizeLine/\(a == sysModules)=false/\∃xs:List (List Key×Addr×Value),
   Paired (λ(p:List Key×V)(q:List Key×Addr×Value)=>p.1=q.1/\H q.2.1=some (.tup (p.1.map kV))/\RelV p.2 q.2.2) kvs xs /\
   ∃o es ep,h.get? a=some o/\o.ExactDict/\o.data=.dict es ep/\es.toList=xs.map (entryOfKey (tupleKind (Yt P w)))/\(xs.map (·.1)).Nodup
 |.set S n=>h.SetOf (intKind P w) a S n
 |.ins C dx fs=>H dx=some (.own a)/\fs.length<=1000/\dx≠a/\h.get? a=some (instObj C dx) /\
   ∃mA,h.Ns1 dx mA/\(∀f,RelO (fs.lookup f) (mA f))/\PySem.Within mA (fs.map (·.1))
 |.own _=>∃o,h.get? a=some o
 |.xd fs=>∃mA,h.Ns1 a mA/\∀f,RelO (fs.lookup f) (mA f)
 |.rng lo hi=>∃t u v,h.get? a=some {cls:=.type "range",data:=.fields #[.int lo t,.int hi u,.int 1 v]}
 |.frz o u=>h.get? a=some o/\ObjOk H h a u
 |.tbl ps=>h.get? a=some {cls:=.none,data:=.fields ps}
 |.met f x=>h.get? a=some (methodObj (.ref f) (.ref x))
 |.ext φ=>φ h/\(∃o,h.get? a=some o)/\∀h1 h2:Heap,φ h1->(∀o,h1.get? a=some o->h2.get? a=some o)->φ h2
noncomputable def HOk(H:Hp)(h:Heap):Prop:=∀a o,H a=some o->ObjOk P w H h a o
end
section
variable{P:Program}{w:World}{H H':Hp}{h h':Heap}{a:Addr}{o:HO}
theorem ObjOk.lt(x:ObjOk P w H h a o):a<h.objs.size:=by
 cases o with
 |lst xs=>obtain⟨_,_,_,_,e⟩:=x;exact Uk e
 |tup xs=>obtain⟨_,_,_,p⟩:=x;exact p.lt
 |dK kvs=>obtain⟨_,_,_,_,o,_,_,e,_⟩:=x;exact Uk e
 |dT kvs=>obtain⟨_,_,_,_,o,_,_,e,_⟩:=x;exact Uk e
 |set S n=>obtain⟨o,_,_,_,e,_⟩:=x;exact Uk e
 |ins C dx fs=>obtain⟨_,_,_,e,_⟩:=x;exact Uk e
 |own y=>obtain⟨_,e⟩:=x;exact Uk e
 |xd fs=>obtain⟨_,⟨_,_,_,e,_⟩,_⟩:=x;exact Uk e
 |rng lo hi=>obtain⟨_,_,_,e⟩:=x;exact Uk e
 |frz ob u=>obtain⟨e,_⟩:=x;exact Uk e
 |tbl ps=>exact Uk (show h.get? a=some _ from x)
 |met f y=>exact Uk (show h.get? a=some _ from x)
 |ext φ=>obtain⟨_,⟨_,e⟩,_⟩:=x;exact Uk e
theorem Paired.mapP{α β:Type}{F G:α->β->Prop}:∀{l₁:List α}{l₂:List β},Paired F l₁ l₂->(∀a b,F a b->G a b)->Paired G l₁ l₂
 |_,_,.nil,_=>.nil
 |_,_,.cons r t,f=>.cons (f _ _ r) (Paired.mapP t f)
theorem Paired.imp'{α β:Type}{F G:α->β->Prop}(f:∀a b,F a b->G a b){l₁:List α}{l₂:List β}(r:Paired F l₁ l₂):Paired G l₁ l₂:=Paired.mapP r f
theorem ObjOk.stay(x:ObjOk P w H h a o)(k:∀b u,(b=a\/H b=some (.own a))->h.get? b=some u->h'.get? b=some u)(ho:∀b,H b=some (.own a)->H' b=some (.own a))(ht:∀b xs,H b=some (.tup xs)->H' b=some (.tup xs)):ObjOk P w H' h' a o:=by
 induction o with
 |lst xs=>obtain⟨z,its,n,r,e⟩:=x;exact⟨z,its,n,r,k _ _ (.inl rfl) e⟩
 |tup xs=>obtain⟨z,its,r,ob,e,c⟩:=x;exact⟨z,its,r,ob,k _ _ (.inl rfl) e,c⟩
 |dK kvs=>obtain⟨z,y,vs,r,ob,es,ep,e,c⟩:=x;exact⟨z,y,vs,r,ob,es,ep,k _ _ (.inl rfl) e,c⟩
 |dT kvs =>
  obtain⟨z,y,xs,r,ob,es,ep,e,c⟩:=x
  exact⟨z,y,xs,Paired.mapP r λp q z=>⟨z.1,ht _ _ z.2.1,z.2.2⟩,ob,es,ep,k _ _ (.inl rfl) e,c⟩
 |set S n=>obtain⟨ob,es,ep,t,e,c⟩:=x;exact⟨ob,es,ep,t,k _ _ (.inl rfl) e,c⟩
 |ins C dx fs =>
  obtain⟨d,z,ne,e,mA,⟨od,es,ep,e2,c⟩,r⟩:=x
  exact⟨ho _ d,z,ne,k _ _ (.inl rfl) e,mA,⟨od,es,ep,k _ _ (.inr d) e2,c⟩,r⟩
 |own y=>obtain⟨ob,e⟩:=x;exact⟨ob,k _ _ (.inl rfl) e⟩
 |xd fs=>obtain⟨mA,⟨od,es,ep,e,c⟩,r⟩:=x;exact⟨mA,⟨od,es,ep,k _ _ (.inl rfl) e,c⟩,r⟩
 |rng lo hi=>obtain⟨t,u,v,e⟩:=x;exact⟨t,u,v,k _ _ (.inl rfl) e⟩
 |frz ob u ih=>obtain⟨e,q⟩:=x;exact⟨k _ _ (.inl rfl) e,ih q⟩
 |tbl ps =>
  have e:h.get? a=some {cls:=.none,data:=.fields ps}:=x
  show h'.get? a=some {cls:=.none,data:=.fields ps}
  exact k a _ (.inl rfl) e
 |met f y =>
  have e:h.get? a=some (methodObj (.ref f) (.ref y)):=x
  show h'.get? a=some (methodObj (.ref f) (.ref y))
  exact k a _ (.inl rfl) e
 |ext φ=>obtain⟨p,⟨o,e⟩,st⟩:=x;exact⟨st _ _ p λo q=>k _ _ (.inl rfl) q,⟨o,k _ _ (.inl rfl) e⟩,st⟩
theorem HOk.lt(x:HOk P w H h)(e:H a=some o):a<h.objs.size:=(x a o e).lt
theorem HOk.fresh(x:HOk P w H h)(e:h.objs.size<=a):H a=none:=by
 cases q:H a with
 |none=>rfl
 |some u=>exact absurd (Ur (x.lt q) e) (Tc _)
theorem HOk.kept(x:HOk P w H h)(k:∀b u,h.get? b=some u->h'.get? b=some u):HOk P w H h':=λa o e =>
 (x a o e).stay (λb u _ q=>k b u q) (λ_ q=>q) λ_ _ q=>q
theorem HOk.laid(x:HOk P w H h)(k:∀b u,h.get? b=some u->h'.get? b=some u)(hp:h.objs.size<=a)(new:ObjOk P w (upd H a o) h' a o):HOk P w (upd H a o) h':=λb u e=>by
 have hn:=x.fresh hp
 by_cases hb:b=a
 ·subst hb;rw[Qp]at e;cases e;exact new
 ·rw[Qw hb]at e
  exact(x b u e).stay (λc v _ q=>k c v q) (λc q=>by rw[Qw (QT q hn)];exact q) λc xs q=>by rw[Qw (QT q hn)];exact q
end
noncomputable def Rd(H:Hp)(a:Addr)(u:HO):Prop:=H a=some u\/∃o,H a=some (.frz o u)
theorem Rd.of{H:Hp}{a:Addr}{u:HO}(h:H a=some u):Rd H a u:=.inl h
theorem Rd.ok{P:Program}{w:World}{H:Hp}{h:Heap}{a:Addr}{u:HO}(r:Rd H a u)(x:HOk P w H h):ObjOk P w H h a u:=by
 rcases r with r|⟨o,r⟩
 ·exact x a u r
 ·obtain⟨_,q⟩:=x a _ r
  exact q
noncomputable def Mut:Option HO->Prop
 |some (.lst _)=>True
 |some (.dK _)=>True
 |some (.dT _)=>True
 |some (.set _ _)=>True
 |some (.ins _ _ _)=>True
 |some (.ext _)=>True
 |_=>False
section
variable{P:Program}{w:World}{H:Hp}{h h':Heap}{x e:Addr}{o':HO}
theorem HOk.write(ok:HOk P w H h)(mu:Mut (H x))(he:e=x\/H e=some (.own x))(k:∀b u,b≠e->h.get? b=some u->h'.get? b=some u)(heo:∃u,h'.get? e=some u)(new:ObjOk P w (upd H x o') h' x o'):HOk P w (upd H x o') h':=λb u q=>by
 have nown:∀c y,H c=some (.own y)->c≠x:=λc y r z=>by subst z;rw[r]at mu;exact mu
 have ntup:∀c xs,H c=some (.tup xs)->c≠x:=λc xs r z=>by subst z;rw[r]at mu;exact mu
 by_cases hb:b=x
 ·subst hb;rw[Qp]at q;cases q;exact new
 ·rw[Qw hb]at q
  by_cases hbe:b=e
  ·have q':H b=some (.own x):=by
    rcases he with z|z
    ·exact absurd (hbe.trans z) hb
    ·rw[hbe];exact z
   rw[q]at q';cases q'
   obtain⟨v,hv⟩:=heo
   exact⟨v,by rw[hbe];exact hv⟩
  ·refine(ok b u q).stay (λc v hc r=>k c v ?_ r) (λc r=>by rw[Qw (nown c b r)];exact r) λc xs r=>by rw[Qw (ntup c xs r)];exact r
   rcases hc with rfl|hc
   ·exact hbe
   ·rintro rfl
    rcases he with z|z
    ·exact nown c b hc z
    ·rw[hc]at z;cases z;exact hb rfl
end
structure Un(fs ex:List Addr)(H H':Hp)(h h':Heap):Prop where
 keep:∀b o,h.get? b=some o->H b=none->b∉fs->b∉ex->h'.get? b=some o
 slot:∀b o,h.get? b=some o->H b=none->b∈fs->b∉ex->∃sl,h'.get? b=some {o with slots:=sl}
 free:∀b o,h.get? b=some o->H b=none->b∉ex->H' b=none
 there:∀b o,h.get? b=some o->b∉ex->∃o',h'.get? b=some o'
 tups:∀b xs,H b=some (.tup xs)->H' b=some (.tup xs)
 frzs:∀b o u,H b=some (.frz o u)->H' b=some (.frz o u)
 tbls:∀b ps,H b=some (.tbl ps)->∃more,H' b=some (.tbl (ps++more))
section
variable{fs fs' ex ex':List Addr}{H H1 H2:Hp}{h h1 h2 h':Heap}{a x e:Addr}{o:HO}
theorem Un.any(u:Un fs ex H H1 h h1){b:Addr}{ob:Obj}(q:h.get? b=some ob)(n:H b=none)(hx:b∉ex):∃sl,h1.get? b=some {ob with slots:=sl}:=by
 by_cases hb:b∈fs
 ·exact u.slot b ob q n hb hx
 ·exact⟨ob.slots,u.keep b ob q n hb hx⟩
theorem Un.trans(a:Un fs ex H H1 h h1)(b:Un fs ex H1 H2 h1 h2):Un fs ex H H2 h h2 where
 keep:=λc ob q n hc hx=>b.keep c ob (a.keep c ob q n hc hx) (a.free c ob q n hx) hc hx
 slot:=λc ob q n hc hx=>by
  obtain⟨sl,e1⟩:=a.slot c ob q n hc hx
  obtain⟨sl',e2⟩:=b.slot c _ e1 (a.free c ob q n hx) hc hx
  exact⟨sl',e2⟩
 free:=λc ob q n hx=>by
  obtain⟨o',e1⟩:=a.there c ob q hx
  exact b.free c o' e1 (a.free c ob q n hx) hx
 there:=λc ob q hx=>by
  obtain⟨o',e1⟩:=a.there c ob q hx
  exact b.there c o' e1 hx
 tups:=λc xs q=>b.tups c xs (a.tups c xs q)
 frzs:=λc ob xs q=>b.frzs c ob xs (a.frzs c ob xs q)
 tbls:=λc ps q=>by
  obtain⟨m1,e1⟩:=a.tbls c ps q
  obtain⟨m2,e2⟩:=b.tbls c _ e1
  exact⟨m1++m2,by rw[e2,Rz]⟩
theorem Un.kept(k:∀b u,h.get? b=some u->h'.get? b=some u):Un fs ex H H h h' :=
 ⟨λb ob q _ _ _=>k b ob q,λb ob q _ _ _=>⟨ob.slots,k b ob q⟩,λ_ _ _ n _=>n,λb ob q _=>⟨ob,k b ob q⟩,λ_ _ q=>q,λ_ _ _ q=>q,λ_ ps q=>⟨#[],by rw[q];simp⟩⟩
theorem Un.refl:Un fs ex H H h h:=Un.kept λ_ _ q=>q
theorem Un.laid(k:∀b u,h.get? b=some u->h'.get? b=some u)(hp:h.objs.size<=a)(hn:H a=none):Un fs ex H (upd H a o) h h' where
 keep:=λb u q _ _ _=>k b u q
 slot:=λb u q _ _ _=>⟨u.slots,k b u q⟩
 free:=λb u q n _=>by rw[Qw (UF (Ur (Uk q) hp))];exact n
 there:=λb u q _=>⟨u,k b u q⟩
 tups:=λb xs q=>by rw[Qw (QT q hn)];exact q
 frzs:=λb u xs q=>by rw[Qw (QT q hn)];exact q
 tbls:=λb ps q=>⟨#[],by rw[Qw (QT q hn),q];simp⟩
theorem Un.write(mu:Mut (H x))(he:e=x\/H e=some (.own x))(k:∀b u,b≠e->h.get? b=some u->h'.get? b=some u)(heo:∃u,h'.get? e=some u):Un fs ex H (upd H x o) h h':=by
 have hx:∀b,H b=none->b≠x:=λb n z=>by subst z;rw[n]at mu;exact mu
 have hb:∀b,H b=none->b≠e:=λb n z=>by
  subst z
  rcases he with r|r
  ·exact hx b n r
  ·rw[n]at r;cases r
 have hm:∀b u,H b=some u->¬Mut (some u)->b≠x:=λb u q nm z=>by subst z;rw[q]at mu;exact nm mu
 refine⟨λb u q n _ _=>k b u (hb b n) q,λb u q n _ _=>⟨u.slots,k b u (hb b n) q⟩,λb u q n _=>by rw[Qw (hx b n)];exact n,λb u q _=>?_,
  λb xs q=>by rw[Qw (hm b _ q λz=>z)];exact q,λb u xs q=>by rw[Qw (hm b _ q λz=>z)];exact q,λb ps q=>⟨#[],by rw[Qw (hm b _ q λz=>z),q];simp⟩⟩
 by_cases hbe:b=e
 ·subst hbe;exact heo
 ·exact⟨u,k b u hbe q⟩
theorem Un.mono(u:Un fs ex H H1 h h1)(hs:∀b∈fs,b∈fs')(hx:∀b∈ex,b∈ex'):Un fs' ex' H H1 h h1 :=
 ⟨λb ob q n hb he=>u.keep b ob q n (λz=>hb (hs b z)) λz=>he (hx b z),λ_ _ q n _ he=>u.any q n λz=>he (hx _ z),λb ob q n he=>u.free b ob q n λz=>he (hx b z),λb ob q he=>u.there b ob q λz=>he (hx b z),u.tups,u.frzs,u.tbls⟩
end
noncomputable def trk(h:Heap)(H:Hp):List Addr:=(List.range h.objs.size).filter λa=>(H a).isSome
noncomputable def hidT(h:Heap)(H:Hp):Heap:=hideAll h (trk h H)
theorem QgZ(h:Heap)(H:Hp):(hidT h H).objs.size=h.objs.size:=hideAll_size _ _
theorem QiR{h:Heap}{H:Hp}{b:Addr}{o:Obj}(e:h.get? b=some o)(n:H b=none):(hidT h H).get? b=some o :=
 hideAll_get _ e λhm=>by
  have q:(H b).isSome=true:=(Ba.mp hm).2
  rw[n]at q;simp at q
theorem QkB{h:Heap}{H:Hp}{b:Addr}{o:Obj}(e:(hidT h H).get? b=some o):h.get? b=some o/\H b=none:=by
 have e':h.get? b=some o:=of_hideAll (trk h H) e
 refine⟨e',?_⟩
 cases q:H b with
 |none=>rfl
 |some x =>
  have hm:b∈trk h H:=Ba.mpr ⟨Tt.mpr (Uk e'),by simp[q]⟩
  have z:(hidT h H).get? b=none:=hideAll_none (trk h H) hm
  rw[z]at e;cases e
noncomputable def QkC(g h:Heap)(L:Addr):List (Addr×Obj):=(List.range h.objs.size).filterMap λa=>if a=L\/(g.get? a).isSome=true then none else (h.get? a).map λo=>(a,o)
noncomputable def rest(g h:Heap)(L d:Addr):List (Addr×Obj):=(QkC g h L).filter λp=>decide (p.1≠d)
end L2
namespace L2
open PySem PySem.Spec PyProof.Rows
structure Mod(K:PySem.W.Frag)(mg:Str->Option Value)(base:Heap):Prop where
 kin:K.In base
 glob:base.Ns mainGlobals mg
 blt:∃mb,base.Ns builtinsNs mb/\∀x:Str,x ≠ "__name__" -> mb x=bootBuiltins x
 nolimit:base.NoLimit
/-- the context: a def's body (or a comprehension's block) running. base: fixed through the whole law;s₀,H₀: the entry;outer: the frames whose slots others may change (a def's callers);stack: all frames that run;
   ex: iterators that were made ahead of the entry and are walked here (a comprehension's);fn: the names whose cells were made at the entry (a def: all;a comprehension's block: its own);calm: not within an except suite;pn: pins that every state bears;xe: what is wanted of an exception that leaves the code -/
structure Cx where
 prog:Program
 w:World
 K:PySem.W.Frag
 mg:Str->Option Value
 base:Heap
 A:Around
 N:List Str
 s₀:Shared
 H₀:Hp
 env:Env
 outer:List Env
 stack:List Env
 ex:List Addr
 fn:Str->Bool
 calm:Bool
 pn:List (Addr×Obj)
 xe:Value->Shared->Prop
noncomputable def frs(l:List Env):List Addr:=l.filterMap (·.frame)
noncomputable abbrev Cx.fs(X:Cx):List Addr:=frs X.outer
noncomputable def Vis(sc:Scope)(x:Str):Prop:=sc.names.lookup x=some .local\/sc.names.lookup x=some .cell\/sc.names.lookup x=some .free
noncomputable def Loc(sc:Scope)(x:Str):Prop:=sc.names.lookup x=some .local\/sc.names.lookup x=some .cell
noncomputable def Look(env:Env)(h:Heap)(m:Str->Option Value)(x:Str)(u:Value):Prop :=
 (env.kindOf x=some .local/\m x=some u)\/((env.kindOf x=some .cell\/env.kindOf x=some .free)/\∃c,env.cells.lookup x=some c/\h.IsCell c (some u))
structure Cx.Ok(X:Cx):Prop where
 mod:Mod X.K X.mg X.base
 kind:X.env.scope.kind=.function
 glob:X.env.globals=mainGlobals
 blt:X.env.builtins=builtinsNs
 above:X.s₀.heap.objs.size<=X.env.locals
 inj:∀x y c,X.env.cells.lookup x=some c->X.env.cells.lookup y=some c->x=y
 has:∀x,(X.env.kindOf x=some .cell\/X.env.kindOf x=some .free)->∃c,X.env.cells.lookup x=some c
 cab:∀x c,X.fn x=true->X.env.cells.lookup x=some c->X.s₀.heap.objs.size<=c
 hd:X.calm=true->X.A.handled=none
 frames:X.A.frames=some X.stack
 stk:X.stack=X.outer\/(X.stack=X.env::X.outer/\X.env.frame=some X.env.locals)
 exf:∀b∈X.ex,b≠X.env.locals/\∀x c,X.env.cells.lookup x=some c->c≠b
 bs:∀b o,X.base.get? b=some o->X.s₀.heap.get? b=some o/\X.H₀ b=none
 bsz:X.base.objs.size<=X.s₀.heap.objs.size
 noex:∀b o,X.base.get? b=some o->b∉X.ex
 exfs:∀b∈X.ex,b∉X.fs
 funs:X.s₀.heap.FunFrames X.base X.outer
 frf:∀b∈X.fs,X.H₀ b=none
structure Inv(X:Cx)(pins:List (Addr×Obj))(σ:List (Option V))(H:Hp)(s:Shared):Prop where
 ok:X.Ok
 os:s.os=X.s₀.os
 bare:AllBare s.gens
 base:Un X.fs X.ex X.H₀ H X.s₀.heap s.heap
 loc:∃m,s.heap.Ns X.env.locals m/\∀(i:Nat)(x:Str)(v:V),X.N[i]?=some x->σ[i]?=some (some v)->Vis X.env.scope x->∃u,RelV v u/\Look X.env s.heap m x u
 cell:∀x c,X.env.cells.lookup x=some c->∃v,s.heap.IsCell c v
 free:H X.env.locals=none
 freeC:∀x c,X.env.cells.lookup x=some c->H c=none
 pin:∀p∈X.pn++pins,s.heap.get? p.1=some p.2/\H p.1=none/\p.1≠X.env.locals/\p.1∉X.fs/\∀v,p.2.data≠.cell v
 hok:HOk X.prog X.w H s.heap
 len:σ.length=X.N.length
section
variable{X:Cx}{pins:List (Addr×Obj)}{σ:List (Option V)}{H H':Hp}{s:Shared}{h':Heap}
theorem Cx.Ok.nofr(ok:X.Ok){b:Addr}{o:Obj}(e:X.base.get? b=some o):b∉X.fs:=λhb=>by
 have:=(ok.funs.mem hb).1
 rw[e]at this;cases this
theorem Inv.bs(I:Inv X pins σ H s):∀b o,X.base.get? b=some o->s.heap.get? b=some o/\H b=none:=λb o e =>
 ⟨I.base.keep b o (I.ok.bs b o e).1 (I.ok.bs b o e).2 (I.ok.nofr e) (I.ok.noex b o e),I.base.free b o (I.ok.bs b o e).1 (I.ok.bs b o e).2 (I.ok.noex b o e)⟩
theorem Inv.bk(I:Inv X pins σ H s):∀b o,X.base.get? b=some o->s.heap.get? b=some o:=λb o e=>(I.bs b o e).1
theorem Inv.mod(I:Inv X pins σ H s):Mod X.K X.mg X.base:=I.ok.mod
theorem Inv.kIn(I:Inv X pins σ H s):X.K.In s.heap:=I.ok.mod.kin.keeps I.bk
theorem Inv.nolimit(I:Inv X pins σ H s):s.heap.NoLimit:=I.ok.mod.nolimit.keeps I.bk
theorem Inv.fr(I:Inv X pins σ H s):∃m,Fr X.base X.env.locals s.heap m :=
 let ⟨m,hn,_⟩:=I.loc
 ⟨m,hn,I.bk,Ut I.ok.bsz I.ok.above⟩
theorem Inv.lt(I:Inv X pins σ H s):X.env.locals<s.heap.objs.size:=let ⟨_,hn,_⟩:=I.loc;hn.lt
theorem Inv.sz(I:Inv X pins σ H s):X.s₀.heap.objs.size<=s.heap.objs.size:=Ut I.ok.above (U3 I.lt)
theorem Inv.nofs(I:Inv X pins σ H s){a:Addr}(h:s.heap.objs.size<=a):a∉X.fs:=λhb=>by
 obtain⟨_,o,ho,_⟩:=I.ok.funs.mem hb
 exact absurd (Ur (Uk ho) (Ut I.sz h)) (Tc _)
theorem Inv.cne(I:Inv X pins σ H s):∀x c,X.env.cells.lookup x=some c->c≠X.env.locals:=λx c e z=>by
 obtain⟨v,o,ho,hd⟩:=I.cell x c e
 obtain⟨m,⟨o',es,ep,ho',hd',_⟩,_⟩:=I.loc
 rw[z,ho']at ho;cases ho;rw[hd']at hd;cases hd
theorem Inv.funs(I:Inv X pins σ H s):s.heap.FunFrames X.base X.outer:=by
 have all:∀(l:List Env),(∀b∈frs l,b∈X.fs)->X.s₀.heap.FunFrames X.base l->s.heap.FunFrames X.base l:=by
  intro l
  induction l with
  |nil=>intro _ _;trivial
  |cons env r ih =>
   intro hs hl
   obtain⟨hk,⟨L,o,hf,hn,ho,hd⟩,hr⟩:=hl
   have hL:L∈X.fs:=hs L (by unfold frs;rw[TN,hf];exact Uv)
   obtain⟨sl,e⟩:=I.base.slot L o ho (I.ok.frf L hL) hL λz=>I.ok.exfs L z hL
   exact⟨hk,⟨L,_,hf,hn,e,hd⟩,ih (λb hb=>hs b (by unfold frs;rw[TN,hf];exact Ux _ hb)) hr⟩
 exact all X.outer (λ_ hb=>hb) I.ok.funs
theorem Inv.stack(I:Inv X pins σ H s):s.heap.FunFrames X.base X.stack:=by
 rcases I.ok.stk with e|⟨e,hf⟩
 ·rw[e];exact I.funs
 ·rw[e]
  obtain⟨m,hn,_⟩:=I.loc
  refine .cons (by rw[I.ok.kind];decide) hf hn ?_ I.funs
  exact Heap.get?_none_of_le (Ut I.ok.bsz I.ok.above)
theorem Inv.stkSub(I:Inv X pins σ H s):∀b∈frs X.stack,b∈X.env.locals::X.fs:=λb hb=>by
 rcases I.ok.stk with e|⟨e,hf⟩
 ·rw[e]at hb;exact Ux _ hb
 ·rw[e]at hb
  unfold frs at hb
  rw[TN,hf]at hb
  exact hb
theorem Inv.stkFree(I:Inv X pins σ H s):∀b∈frs X.stack,H b=none:=λb hb=>by
 rcases UD.mp (I.stkSub b hb) with e|hb
 ·rw[e];exact I.free
 ·obtain⟨_,o,ho,_⟩:=I.ok.funs.mem hb
  exact I.base.free b o ho (I.ok.frf b hb) λz=>I.ok.exfs b z hb
theorem Inv.step{g':Array GenState}{t':Nat}{d':Drawn}{ch:List Addr}(I:Inv X pins σ H s)(hch:∀b∈ch,(b∈X.ex\/X.s₀.heap.objs.size<=b)/\b≠X.env.locals/\(∀x c,X.env.cells.lookup x=some c->c≠b)/\∀p∈X.pn++pins,p.1≠b)(keep:∀b o,b≠X.env.locals->b∉X.fs->b∉ch->s.heap.get? b=some o->H b=none->h'.get? b=some o)(slot:∀b o,b≠X.env.locals->b∈X.fs->b∉ch->s.heap.get? b=some o->H b=none->∃sl,h'.get? b=some {o with slots:=sl})(free:∀b o,b∉ch->s.heap.get? b=some o->H b=none->H' b=none)(there:∀b o,b∉ch->s.heap.get? b=some o->∃o',h'.get? b=some o')(tups:∀b xs,H b=some (.tup xs)->H' b=some (.tup xs))(frzs:∀b o u,H b=some (.frz o u)->H' b=some (.frz o u))(tbls:∀b ps,H b=some (.tbl ps)->∃more,H' b=some (.tbl (ps++more)))(ns:∀m,s.heap.Ns X.env.locals m->h'.Ns X.env.locals m)(hok:HOk X.prog X.w H' h')(hg:AllBare g'):
  Inv X pins σ H' {s with heap:=h',gens:=g',drawn:=d',toks:=t'}:=by
 have neL:∀b o,X.s₀.heap.get? b=some o->b≠X.env.locals:=λb o e=>UF (Ur (Uk e) I.ok.above)
 have neC:∀b o,X.s₀.heap.get? b=some o->b∉X.ex->b∉ch:=λb o e hx hb=>by
  rcases(hch b hb).1 with z|z
  ·exact hx z
  ·exact absurd (Ur (Uk e) z) (Tc _)
 have cellK:∀x c,X.env.cells.lookup x=some c->∀v,s.heap.IsCell c v->h'.IsCell c v:=λx c e v ⟨o,ho,hd⟩=>by
  have nch:c∉ch:=λz=>(hch c z).2.2.1 x c e rfl
  by_cases hc:c∈X.fs
  ·obtain⟨sl,q⟩:=slot c o (I.cne x c e) hc nch ho (I.freeC x c e)
   exact⟨_,q,hd⟩
  ·exact⟨o,keep c o (I.cne x c e) hc nch ho (I.freeC x c e),hd⟩
 refine⟨I.ok,I.os,hg,⟨λb o e n hb hx=>?_,λb o e n hb hx=>?_,λb o e n hx=>?_,λb o e hx=>?_,λb xs e=>tups b xs (I.base.tups b xs e),λb o xs e=>frzs b o xs (I.base.frzs b o xs e),λb ps e=>?_⟩,?_,λx c e=>?_,?_,λx c e=>?_,λp hp=>?_,hok,I.len⟩
 ·exact keep b o (neL b o e) hb (neC b o e hx) (I.base.keep b o e n hb hx) (I.base.free b o e n hx)
 ·obtain⟨sl,e1⟩:=I.base.slot b o e n hb hx
  obtain⟨sl',e2⟩:=slot b _ (neL b o e) hb (neC b o e hx) e1 (I.base.free b o e n hx)
  exact⟨sl',e2⟩
 ·obtain⟨o',e1⟩:=I.base.there b o e hx
  exact free b o' (neC b o e hx) e1 (I.base.free b o e n hx)
 ·obtain⟨o',e1⟩:=I.base.there b o e hx
  exact there b o' (neC b o e hx) e1
 ·obtain⟨m1,e1⟩:=I.base.tbls b ps e
  obtain⟨m2,e2⟩:=tbls b _ e1
  exact⟨m1++m2,by rw[e2,Rz]⟩
 ·obtain⟨m,hn,hl⟩:=I.loc
  refine⟨m,ns m hn,λi x v e1 e2 e3=>?_⟩
  obtain⟨u,r,l⟩:=hl i x v e1 e2 e3
  refine⟨u,r,?_⟩
  rcases l with l|⟨k,c,e,z⟩
  ·exact .inl l
  ·exact .inr ⟨k,c,e,cellK x c e _ z⟩
 ·obtain⟨v,z⟩:=I.cell x c e
  exact⟨v,cellK x c e v z⟩
 ·obtain⟨m,⟨o,_,_,ho,_⟩,_⟩:=I.loc
  exact free _ o (λz=>(hch _ z).2.1 rfl) ho I.free
 ·obtain⟨v,o,ho,hd⟩:=I.cell x c e
  exact free c o (λz=>(hch c z).2.2.1 x c e rfl) ho (I.freeC x c e)
 ·obtain⟨e,n,ne,nf,d⟩:=I.pin p hp
  have nch:p.1∉ch:=λz=>(hch p.1 z).2.2.2 p hp rfl
  exact⟨keep p.1 p.2 ne nf nch e n,free p.1 p.2 nch e n,ne,nf,d⟩
theorem Inv.un{t':Nat}(I:Inv X pins σ H s)(u:Un X.fs [] H H' s.heap h')(hok:HOk X.prog X.w H' h'):Inv X pins σ H' {s with heap:=h',toks:=t'}:=by
 obtain⟨m,⟨o,es,ep,ho,r⟩,_⟩:=id I.loc
 obtain⟨sl,hL⟩:=u.any ho I.free (by simp)
 exact I.step (g':=s.gens) (d':=s.drawn) (ch:=[]) (λ_ z=>nomatch z) (λb o _ hb _ e n=>u.keep b o e n hb (by simp)) (λb o _ hb _ e n=>u.slot b o e n hb (by simp)) (λb o _ e n=>u.free b o e n (by simp)) (λb o _ e=>u.there b o e (by simp)) u.tups u.frzs u.tbls (λm' hm=>by
  obtain⟨o',es',ep',ho',r'⟩:=hm
  rw[ho]at ho';cases ho'
  exact⟨_,es',ep',hL,r'⟩) hok I.bare
theorem Inv.call{g':Array GenState}{t':Nat}{d':Drawn}{ch:List Addr}(I:Inv X pins σ H s)(u:Un (frs X.stack) ch H H' s.heap h')(hok:HOk X.prog X.w H' h')(hg:AllBare g')(hch:∀b∈ch,(b∈X.ex\/X.s₀.heap.objs.size<=b)/\b≠X.env.locals/\(∀x c,X.env.cells.lookup x=some c->c≠b)/\∀p∈X.pn++pins,p.1≠b):
  Inv X pins σ H' {s with heap:=h',gens:=g',drawn:=d',toks:=t'}:=by
 obtain⟨m,⟨o,es,ep,ho,r⟩,_⟩:=id I.loc
 obtain⟨sl,hL⟩:=u.any ho I.free λz=>(hch _ z).2.1 rfl
 exact I.step (ch:=ch) hch (λb o hL hb hc e n=>u.keep b o e n (λz=>(UD.mp (I.stkSub b z)).elim hL hb) hc) (λb o _ _ hc e n=>u.any e n hc) (λb o hc e n=>u.free b o e n hc) (λb o hc e=>u.there b o e hc) u.tups u.frzs u.tbls (λm' hm=>by
  obtain⟨o',es',ep',ho',r'⟩:=hm
  rw[ho]at ho';cases ho'
  exact⟨_,es',ep',hL,r'⟩) hok hg
theorem Inv.turned{t':Nat}{it:Addr}(I:Inv X pins σ H s)(k:∀b o,b≠it->s.heap.get? b=some o->h'.get? b=some o)(hn:H it=none)(hL:it≠X.env.locals)(h1:it∈X.ex\/X.s₀.heap.objs.size<=it)(h2:∀x c,X.env.cells.lookup x=some c->c≠it)(h3:∀p∈X.pn++pins,p.1≠it):Inv X pins σ H {s with heap:=h',toks:=t'}:=by
 have nit:∀b u,H b=some u->b≠it:=λb u e z=>by rw[z,hn]at e;cases e
 refine I.step (g':=s.gens) (d':=s.drawn) (ch:=[it]) (λb hb=>?_) (λb o _ _ hc e _=>k b o (λz=>hc (by simp[z])) e) (λb o _ _ hc e _=>⟨o.slots,k b o (λz=>hc (by simp[z])) e⟩) (λ_ _ _ _ n=>n)
  (λb o hc e=>⟨o,k b o (λz=>hc (by simp[z])) e⟩) (λ_ _ e=>e) (λ_ _ _ e=>e) (λb ps e=>⟨#[],by rw[e];simp⟩) (λm hm=>?_) (λb u e=>?_) I.bare
 ·have e:b=it:=by simpa using hb
  subst e
  exact⟨h1,hL,h2,h3⟩
 ·obtain⟨o,es,ep,ho,r⟩:=hm
  exact⟨o,es,ep,k _ o (Ne.symm hL) ho,r⟩
 ·refine(I.hok b u e).stay (λc v hc q=>k c v ?_ q) (λ_ q=>q) λ_ _ q=>q
  rcases hc with z|z
  ·rw[z];exact nit b u e
  ·exact nit c _ z
theorem Inv.tok(I:Inv X pins σ H s)(t:Nat):Inv X pins σ H {s with toks:=t}:=I.un (h':=s.heap) (t':=t) Un.refl I.hok
theorem Inv.kept{t':Nat}(I:Inv X pins σ H s)(k:∀b u,s.heap.get? b=some u->h'.get? b=some u):Inv X pins σ H {s with heap:=h',toks:=t'}:=I.un (Un.kept k) (I.hok.kept k)
theorem Inv.laid{a:Addr}{o:HO}{t':Nat}(I:Inv X pins σ H s)(k:∀b u,s.heap.get? b=some u->h'.get? b=some u)(hp:s.heap.objs.size<=a)(new:ObjOk X.prog X.w (upd H a o) h' a o):
  Inv X pins σ (upd H a o) {s with heap:=h',toks:=t'}:=I.un (Un.laid k hp (I.hok.fresh hp)) (I.hok.laid k hp new)
theorem Inv.write{x e:Addr}{o:HO}{t':Nat}(I:Inv X pins σ H s)(mu:Mut (H x))(he:e=x\/H e=some (.own x))(k:∀b u,b≠e->s.heap.get? b=some u->h'.get? b=some u)(heo:∃u,h'.get? e=some u)(new:ObjOk X.prog X.w (upd H x o) h' x o):Inv X pins σ (upd H x o) {s with heap:=h',toks:=t'}:=I.un (Un.write mu he k heo) (I.hok.write mu he k heo new)
theorem Inv.pins_of{pins':List (Addr×Obj)}(I:Inv X pins σ H s)(h:∀p∈pins',s.heap.get? p.1=some p.2/\H p.1=none/\p.1≠X.env.locals/\p.1∉X.fs/\∀v,p.2.data≠.cell v):Inv X pins' σ H s :=
 ⟨I.ok,I.os,I.bare,I.base,I.loc,I.cell,I.free,I.freeC,λp hp=>(Ta.mp hp).elim (λz=>I.pin p (Ro _ z)) (h p),I.hok,I.len⟩
theorem Qfm{N:List Str}(hN:N.Nodup){i j:Nat}{x:Str}(a:N[i]?=some x)(b:N[j]?=some x):i=j:=by
 obtain⟨h1,e1⟩:=Up.mp a
 obtain⟨h2,e2⟩:=Up.mp b
 exact(List.getElem_inj hN).mp (e1.trans e2.symm)
theorem Qg0{M:Model}{A:Around}{E:Value->Shared->Prop}{i:Nat}{x:Str}{v:V}{u:Value}{Q:Unit->Shared->Prop}(I:Inv X pins σ H s)(hN:X.N.Nodup)(hi:X.N[i]?=some x)(hx:Loc X.env.scope x)(r:RelV v u)(h:∀s',Inv X pins (σ.set i (some v)) H s'->(∃a,Heap.SameBut a s.heap s'.heap/\(a=X.env.locals\/X.env.cells.lookup x=some a))->Q () s')(hf:X.fn x=true\/X.env.scope.names.lookup x=some .local:=by first|exact .inl rfl|exact .inr rfl|assumption):wpAny M A (storeName X.env x u) Q E s:=by
 obtain⟨m,hn,hl⟩:=id I.loc
 have hcls:(X.env.scope.kind == .class || (X.env.scope.kind == .module && X.env.locals != X.env.globals))=false:=by rw[I.ok.kind];rfl
 have hiσ:i<σ.length:=by rw[I.len];exact(Up.mp hi).1
 have cne:=I.cne
 have tracked:∀{a:Addr}{h':Heap},(∃o,s.heap.get? a=some o/\H a=none)->Heap.SameBut a s.heap h'->HOk X.prog X.w H h':=λ{a h'} ha hs b ob e=>by
  obtain⟨_,_,hfree⟩:=ha
  refine(I.hok b ob e).stay (λc w' hc q=>(hs.2 c ?_).trans q) (λ_ q=>q) λ_ _ q=>q
  rintro rfl
  rcases hc with rfl|hc
  ·rw[hfree]at e;cases e
  ·rw[hfree]at hc;cases hc
 rcases hx with hk|hk
 ·refine wpAny_storeName_local hk hn (λh' hn' hs=>?_) hcls
  obtain⟨oL,_,_,hoL,_⟩:=id hn
  refine h _ ⟨I.ok,I.os,I.bare,⟨λb o e n hb hx=>?_,λb o e n hb hx=>?_,I.base.free,λb o e hx=>?_,I.base.tups,I.base.frzs,I.base.tbls⟩,⟨_,hn',λj y v' e1 e2 e3=>?_⟩,λy c e=>?_,I.free,I.freeC,λp hp=>?_,tracked ⟨oL,hoL,I.free⟩ hs,by simpa using I.len⟩ ⟨_,hs,.inl rfl⟩
  ·exact(hs.2 b (UF (Ur (Uk e) I.ok.above))).trans (I.base.keep b o e n hb hx)
  ·obtain⟨sl,e1⟩:=I.base.slot b o e n hb hx
   exact⟨sl,(hs.2 b (UF (Ur (Uk e) I.ok.above))).trans e1⟩
  ·obtain⟨o',e1⟩:=I.base.there b o e hx
   exact⟨o',(hs.2 b (UF (Ur (Uk e) I.ok.above))).trans e1⟩
  ·by_cases hj:j=i
   ·subst hj
    rw[hi]at e1;cases e1
    rw[Td hiσ]at e2
    cases e2
    exact⟨u,r,.inl ⟨hk,by simp⟩⟩
   ·rw[Uh (Ne.symm hj)]at e2
    obtain⟨u',r',q⟩:=hl j y v' e1 e2 e3
    refine⟨u',r',?_⟩
    rcases q with⟨k,e⟩|⟨k,c,e,z⟩
    ·refine .inl ⟨k,?_⟩
     have:y≠x:=λe=>hj (Qfm hN e1 (e ▸ hi))
     simp[this,e]
    ·exact .inr ⟨k,c,e,z.sameBut hs (cne y c e)⟩
  ·obtain⟨w',z⟩:=I.cell y c e
   exact⟨w',z.sameBut hs (cne y c e)⟩
  ·obtain⟨e,n,ne,nf,d⟩:=I.pin p hp
   exact⟨(hs.2 p.1 ne).trans e,n,ne,nf,d⟩
 ·have hfn:X.fn x=true:=by
   rcases hf with z|z
   ·exact z
   ·rw[z]at hk;cases hk
  obtain⟨c,hc⟩:=I.ok.has x (.inl hk)
  obtain⟨w',z⟩:=I.cell x c hc
  refine wpAny_storeName_cell I.ok.kind hk hc z (λh' hc' hs=>?_)
  obtain⟨oc,hoc,hocd⟩:=id z
  refine h {s with heap:=h'} ⟨I.ok,I.os,I.bare,⟨λb o e n hb hx=>?_,λb o e n hb hx=>?_,I.base.free,λb o e hx=>?_,I.base.tups,I.base.frzs,I.base.tbls⟩,⟨m,hn.sameBut hs (Ne.symm (cne x c hc)),λj y v' e1 e2 e3=>?_⟩,λy c' e=>?_,I.free,I.freeC,λp hp=>?_,tracked ⟨oc,hoc,I.freeC x c hc⟩ hs,by simpa using I.len⟩ ⟨c,hs,.inr hc⟩
  ·exact(hs.2 b (UF (Ur (Uk e) (I.ok.cab x c hfn hc)))).trans (I.base.keep b o e n hb hx)
  ·obtain⟨sl,e1⟩:=I.base.slot b o e n hb hx
   exact⟨sl,(hs.2 b (UF (Ur (Uk e) (I.ok.cab x c hfn hc)))).trans e1⟩
  ·obtain⟨o',e1⟩:=I.base.there b o e hx
   exact⟨o',(hs.2 b (UF (Ur (Uk e) (I.ok.cab x c hfn hc)))).trans e1⟩
  ·by_cases hj:j=i
   ·subst hj
    rw[hi]at e1;cases e1
    rw[Td hiσ]at e2
    cases e2
    exact⟨u,r,.inr ⟨.inl hk,c,hc,hc'⟩⟩
   ·rw[Uh (Ne.symm hj)]at e2
    obtain⟨u',r',q⟩:=hl j y v' e1 e2 e3
    refine⟨u',r',?_⟩
    rcases q with q|⟨k,c',e,z'⟩
    ·exact .inl q
    ·refine .inr ⟨k,c',e,z'.sameBut hs ?_⟩
     rintro rfl
     exact hj (Qfm hN e1 (I.ok.inj _ _ _ e hc ▸ hi))
  ·by_cases hcc:c'=c
   ·subst hcc;exact⟨_,hc'⟩
   ·obtain⟨w2,z2⟩:=I.cell y c' e
    exact⟨w2,z2.sameBut hs hcc⟩
  ·obtain⟨e,n,ne,nf,d⟩:=I.pin p hp
   refine⟨(hs.2 p.1 ?_).trans e,n,ne,nf,d⟩
   intro q
   rw[q,hoc]at e
   have q':oc=p.2:=Option.some.inj e
   exact d w' (by rw[<-q'];exact hocd)
theorem Qfn{M:Model}{A:Around}{E:Value->Shared->Prop}{i:Nat}{x:Str}{v:V}{u:Value}{Q:Unit->Shared->Prop}(I:Inv X pins σ H s)(hN:X.N.Nodup)(hi:X.N[i]?=some x)(hx:Loc X.env.scope x)(r:RelV v u)(h:∀s',Inv X pins (σ.set i (some v)) H s'->Q () s')(hf:X.fn x=true\/X.env.scope.names.lookup x=some .local:=by first|exact .inl rfl|exact .inr rfl|assumption):wpAny M A (storeName X.env x u) Q E s :=
 Qg0 I hN hi hx r (λs' I' _=>h s' I') hf
theorem Inv.call'{s':Shared}{ch:List Addr}(I:Inv X pins σ H s)(ho:s'.os=s.os)(u:Un (frs X.stack) ch H H' s.heap s'.heap)(hok:HOk X.prog X.w H' s'.heap)(hg:AllBare s'.gens)(hch:∀b∈ch,(b∈X.ex\/X.s₀.heap.objs.size<=b)/\b≠X.env.locals/\(∀x c,X.env.cells.lookup x=some c->c≠b)/\∀p∈X.pn++pins,p.1≠b):Inv X pins σ H' s':=by
 obtain⟨h',g',d',t',o'⟩:=s'
 have e:o'=s.os:=ho
 subst e
 exact I.call (g':=g') (t':=t') (d':=d') u hok hg hch
end
noncomputable abbrev XK:=Value->Option Addr->Hp->Prop
noncomputable abbrev St:=List (Option V)
noncomputable abbrev VK:=V->Hp->Prop
noncomputable abbrev TE:=St->Hp->VK->Prop
noncomputable abbrev TT:=St->Hp->(Bool->Hp->Prop)->Prop
noncomputable abbrev TA:=St->Hp->(List V->Hp->Prop)->Prop
structure Ends where
 nx:St->Hp->Prop
 rt:VK
 bk:St->Hp->Prop:=λ_ _=>False
 ct:St->Hp->Prop:=λ_ _=>False
noncomputable abbrev TS:=Ends->St->Hp->Prop
noncomputable def EP(X:Cx)(pins:List (Addr×Obj))(σ:St)(Q:VK)(u:Value)(s':Shared):Prop:=∃v H',Inv X pins σ H' s'/\RelV v u/\Q v H'
noncomputable def TP(X:Cx)(pins:List (Addr×Obj))(σ:St)(Q:Bool->Hp->Prop)(b:Bool)(s':Shared):Prop:=∃H',Inv X pins σ H' s'/\Q b H'
noncomputable def AP(X:Cx)(pins:List (Addr×Obj))(σ:St)(Q:List V->Hp->Prop)(us:List Value)(s':Shared):Prop:=∃vs H',Inv X pins σ H' s'/\Vals vs us/\Q vs H'
noncomputable def SP(X:Cx)(pins:List (Addr×Obj))(D:Ends)(f:Flow)(s':Shared):Prop :=
 match f with
 |.next=>∃σ' H',Inv X pins σ' H' s'/\D.nx σ' H'
 |.brk=>∃σ' H',Inv X pins σ' H' s'/\D.bk σ' H'
 |.cont=>∃σ' H',Inv X pins σ' H' s'/\D.ct σ' H'
 |.ret u=>∃v σ' H',Inv X pins σ' H' s'/\RelV v u/\D.rt v H'
noncomputable def PE(X:Cx)(e:Expr)(t:TE):Prop :=
 ∀(pins:List (Addr×Obj))(s:Shared)(σ:St)(H:Hp)(Q:VK),Inv X pins σ H s->t σ H Q->wpAny (model X.prog X.w) X.A (eval e X.env) (EP X pins σ Q) X.xe s
noncomputable def PT(X:Cx)(e:Expr)(t:TT):Prop :=
 ∀(pins:List (Addr×Obj))(s:Shared)(σ:St)(H:Hp)(Q:Bool->Hp->Prop),Inv X pins σ H s->t σ H Q->wpAny (model X.prog X.w) X.A (isTrue e X.env (eval e X.env)) (TP X pins σ Q) X.xe s
noncomputable def PW(X:Cx)(e:Expr)(t:TT):Prop :=
 ∀(whole:Sem Value)(pins:List (Addr×Obj))(s:Shared)(σ:St)(H:Hp)(Q:Bool->Hp->Prop),Inv X pins σ H s->t σ H Q->wpAny (model X.prog X.w) X.A (isTrue e X.env whole) (TP X pins σ Q) X.xe s
theorem PW.pt{X:Cx}{e:Expr}{t:TT}(h:PW X e t):PT X e t:=h _
noncomputable def PA(X:Cx)(es:List Expr)(t:TA):Prop :=
 ∀(pos:Pos)(pins:List (Addr×Obj))(s:Shared)(σ:St)(H:Hp)(Q:List V->Hp->Prop),Inv X pins σ H s->t σ H Q->wpAny (model X.prog X.w) X.A (spliced (backTo pos (starEach es X.env))) (AP X pins σ Q) X.xe s
noncomputable def PS(X:Cx)(st:Stmt)(t:TS):Prop :=
 ∀(pins:List (Addr×Obj))(s:Shared)(σ:St)(H:Hp)(D:Ends),Inv X pins σ H s->t D σ H->wpAny (model X.prog X.w) X.A (exec st X.env) (SP X pins D) X.xe s
noncomputable def PSs(X:Cx)(st:List Stmt)(t:TS):Prop :=
 ∀(pins:List (Addr×Obj))(s:Shared)(σ:St)(H:Hp)(D:Ends),Inv X pins σ H s->t D σ H->wpAny (model X.prog X.w) X.A (execs st X.env) (SP X pins D) X.xe s
theorem thn{α:Type}{t:Sem α}{Q Q':α->Shared->Prop}{M:Model}{A:Around}{E:Value->Shared->Prop}{s:Shared}(h:wpAny M A t Q E s)(hQ:∀a s,Q a s->Q' a s):wpAny M A t Q' E s:=Tf h hQ λ_ _ x=>x
end L2
namespace L2
open PySem PySem.Spec PyProof.Rows
section
variable{X:Cx}
theorem bin{a b:Expr}{ta tb:TE}(ha:PE X a ta)(hb:PE X b tb){pins:List (Addr×Obj)}{s:Shared}{σ:St}{H:Hp}{R:V->V->Hp->Prop}(I:Inv X pins σ H s)(h:ta σ H λx H1=>tb σ H1 λy H2=>R x y H2){α:Type}{Q:α->Shared->Prop}{f:Value->Value->Sem α}(hf:∀v u s2 x y H2,Inv X pins σ H2 s2->RelV x v->RelV y u->R x y H2->wpAny (model X.prog X.w) X.A (f v u) Q X.xe s2):
  wpAny (model X.prog X.w) X.A (eval a X.env) (λv s₁=>wpAny (model X.prog X.w) X.A (eval b X.env) (λu s₂=>wpAny (model X.prog X.w) X.A (f v u) Q X.xe s₂) X.xe s₁) X.xe s:=by
 refine thn (ha pins s σ H _ I h) λv s1 ⟨x,H1,I1,r1,q1⟩=>?_
 refine thn (hb pins s1 σ H1 _ I1 q1) λu s2 ⟨y,H2,I2,r2,q2⟩=>?_
 exact hf v u s2 x y H2 I2 r1 r2 q2
noncomputable def tVar(i:Nat):TE:=λσ H Q=>∃v,σ[i]?=some (some v)/\Q v H
noncomputable def tC(v:V):TE:=λ_ H Q=>Q v H
theorem Ql2{i:Nat}{x:Str}{pos:Pos}(hN:X.N[i]?=some x)(hv:Vis X.env.scope x)(hd:(x == ("__debug__" : Str))=false:=by decide)(hcd:(x == ("__classdict__" : Str))=false:=by decide):PE X (.Name x pos) (tVar i):=by
 intro pins s σ H Q I h
 obtain⟨v,e,h⟩:=h
 obtain⟨m,hn,hl⟩:=I.loc
 obtain⟨u,r,l⟩:=hl i x v hN e hv
 have fin:EP X pins σ Q u s:=⟨v,H,I,r,h⟩
 rcases l with⟨hk,hm⟩|⟨hk,c,hc,hcell⟩
 ·exact wpAny_Name (wpAny_loadName_local I.ok.kind hk hn hm fin) hd
 ·rcases hk with hk|hk
  ·exact wpAny_Name (wpAny_loadName_cell I.ok.kind hk hc hcell fin) hd
  ·exact wpAny_Name (wpAny_loadName_free I.ok.kind hk hc hcell fin hcd) hd
theorem Ql3{i j pos}:PE X (.Constant (.int i) j pos) (tC (.int i)):=λ_ _ _ H _ I h=>wpAny_Constant_int ⟨.int i,H,I.tok _,⟨_,rfl⟩,h⟩
theorem Qn3{b j pos}:PE X (.Constant (.bool b) j pos) (tC (.bl b)):=λ_ _ _ H _ I h=>Constant_bool ⟨.bl b,H,I,rfl,h⟩
theorem Ql4{j pos}:PE X (.Constant .none j pos) (tC .non):=λ_ _ _ H _ I h=>Constant_none ⟨.non,H,I,rfl,h⟩
theorem Ql5{x j pos}:PE X (.Constant (.str x) j pos) (tC (.str x)):=λ_ _ _ H _ I h=>Calls.Constant_str ⟨.str x,H,I.tok _,⟨_,rfl⟩,h⟩
noncomputable def Gl(X:Cx)(x:Str):Prop:=X.env.kindOf x=some .globalImplicit
theorem QaM{E:Value->Shared->Prop}{pins:List (Addr×Obj)}{s:Shared}{σ:St}{H:Hp}{x:Str}{u:Value}{pos:Pos}{Q:Value->Shared->Prop}(I:Inv X pins σ H s)(hg:Gl X x)(hm:X.mg x=some u)(h:Q u s)(hd:(x == ("__debug__" : Str))=false:=by decide):wpAny (model X.prog X.w) X.A (eval (.Name x pos) X.env) Q E s :=
 Wq I.ok.kind hg (Calls.loadGlobal_global (by rw[I.ok.glob];exact I.mod.glob.keeps I.bk) hm h) hd
theorem Qap{E:Value->Shared->Prop}{pins:List (Addr×Obj)}{s:Shared}{σ:St}{H:Hp}{x:Str}{u:Value}{pos:Pos}{Q:Value->Shared->Prop}(I:Inv X pins σ H s)(hg:Gl X x)(hm:X.mg x=none)(hv:bootBuiltins x=some u)(h:Q u s)(hn:x ≠ "__name__":=by decide)(hd:(x == ("__debug__" : Str))=false:=by decide):wpAny (model X.prog X.w) X.A (eval (.Name x pos) X.env) Q E s:=by
 obtain⟨mb,h1,h2⟩:=I.mod.blt
 exact Wq I.ok.kind hg (Calls.loadGlobal_builtin (by rw[I.ok.glob];exact I.mod.glob.keeps I.bk) hm (by rw[I.ok.blt];exact h1.keeps I.bk) ((h2 x hn).trans hv) h) hd
theorem QkD{x:Str}{v:V}{u:Value}{pos:Pos}(hg:Gl X x)(hm:X.mg x=some u)(r:RelV v u)(hd:(x == ("__debug__" : Str))=false:=by decide):PE X (.Name x pos) (tC v) :=
 λ_ _ _ H _ I h=>QaM I hg hm ⟨v,H,I,r,h⟩ hd
theorem QeD{x:Str}{v:V}{u:Value}{pos:Pos}(hg:Gl X x)(hm:X.mg x=none)(hv:bootBuiltins x=some u)(r:RelV v u)(hn:x ≠ "__name__":=by decide)(hd:(x == ("__debug__" : Str))=false:=by decide):PE X (.Name x pos) (tC v) :=
 λ_ _ _ H _ I h=>Qap I hg hm hv ⟨v,H,I,r,h⟩ hn hd
variable{a b:Expr}{ta tb:TE}{pos:Pos}
noncomputable def tB(t:TE):TT:=λσ H Q=>t σ H λx H1=>∃c,x=.bl c/\Q c H1
theorem Ql6{e:Expr}{t:TE}(h:PE X e t)(he:∀whole,isTrue e X.env whole=(do let v <-whole;standAt e.pos;holding [v] (truthy v)):=by intro _;rfl):PT X e (tB t):=by
 intro pins s σ H Q I hw
 refine isTrue_plain (thn (h pins s σ H _ I hw) λv s1 ⟨x,H1,I1,r1,q1⟩=>?_) (he _)
 obtain⟨d,rfl,q⟩:=q1
 cases r1
 exact TK ⟨H1,I1,q⟩
variable{tA tB':TT}{rest:List Expr}
noncomputable def tAnd(t u:TT):TT:=λσ H Q=>t σ H λc H1=>if c=true then u σ H1 Q else Q false H1
noncomputable def tOr(t u:TT):TT:=λσ H Q=>t σ H λc H1=>if c=true then Q true H1 else u σ H1 Q
noncomputable def tNot(t:TT):TT:=λσ H Q=>t σ H λc H1=>Q (!c) H1
theorem QkE(ha:PT X a tA):PW X (.BoolOp .And [a] pos) tA:=by
 intro wh pins s σ H Q I h
 refine isTrue_and (thn (ha pins s σ H Q I h) λc s1 e=>?_)
 cases c with
 |true=>exact isTrue_and_nil e
 |false=>exact e
theorem Ql7(ha:PT X a tA):PW X (.BoolOp .Or [a] pos) tA:=by
 intro wh pins s σ H Q I h
 refine isTrue_or (thn (ha pins s σ H Q I h) λc s1 e=>?_)
 cases c with
 |false=>exact isTrue_or_nil e
 |true=>exact e
theorem Ql8(ha:PT X a tA)(hb:PW X (.BoolOp .And (b::rest) pos) tB'):PW X (.BoolOp .And (a::b::rest) pos) (tAnd tA tB'):=by
 intro wh pins s σ H Q I h
 refine isTrue_and (thn (ha pins s σ H _ I h) λc s1 ⟨H1,I1,q1⟩=>?_)
 cases c with
 |true=>exact hb wh pins s1 σ H1 Q I1 q1
 |false=>exact⟨H1,I1,q1⟩
theorem Qn4(ha:PT X a tA)(hb:PW X (.BoolOp .Or (b::rest) pos) tB'):PW X (.BoolOp .Or (a::b::rest) pos) (tOr tA tB'):=by
 intro wh pins s σ H Q I h
 refine isTrue_or (thn (ha pins s σ H _ I h) λc s1 ⟨H1,I1,q1⟩=>?_)
 cases c with
 |true=>exact⟨H1,I1,q1⟩
 |false=>exact hb wh pins s1 σ H1 Q I1 q1
theorem Ql9(ha:PT X a tA):PT X (.UnaryOp .Not a pos) (tNot tA):=by
 intro pins s σ H Q I h
 exact isTrue_not (ha pins s σ H (λc H1=>Q (!c) H1) I h)
noncomputable def Qn5(ta tb:TE):TE:=λσ H Q=>ta σ H λx H1=>∃c,x=.bl c/\if c=true then tb σ H1 Q else Q (.bl false) H1
noncomputable def Qn6(ta:TE):TE:=λσ H Q=>ta σ H λx H1=>∃c,x=.bl c/\Q (.bl (!c)) H1
theorem Qma{op}{t:TE}(h:PE X a t):PE X (.BoolOp op [a] pos) t:=λpins s σ H Q I hw=>BoolOp_one (h pins s σ H Q I hw)
theorem Qmb(ha:PE X a ta)(hb:PE X (.BoolOp .And (b::rest) pos) tb):PE X (.BoolOp .And (a::b::rest) pos) (Qn5 ta tb):=by
 intro pins s σ H Q I h
 refine BoolOp_and (thn (ha pins s σ H _ I h) λv s1 ⟨x,H1,I1,r1,q1⟩=>?_)
 obtain⟨c,rfl,q1⟩:=q1
 cases r1
 refine TK ?_
 cases c with
 |true=>exact hb pins s1 σ H1 Q I1 q1
 |false=>exact⟨.bl false,H1,I1,rfl,q1⟩
theorem Qmc(ha:PE X a ta):PE X (.UnaryOp .Not a pos) (Qn6 ta):=by
 intro pins s σ H Q I h
 refine UnaryOp_ (thn (ha pins s σ H _ I h) λv s1 ⟨x,H1,I1,r1,q1⟩=>?_)
 obtain⟨c,rfl,q1⟩:=q1
 cases r1
 exact not_of (TK ⟨.bl (!c),H1,I1,rfl,q1⟩)
noncomputable def tIf(t:TT)(ta tb:TE):TE:=λσ H Q=>t σ H λc H1=>if c=true then ta σ H1 Q else tb σ H1 Q
theorem QiS{c:Expr}(hc:PT X c tA)(ha:PE X a ta)(hb:PE X b tb):PE X (.IfExp c a b pos) (tIf tA ta tb):=by
 intro pins s σ H Q I h
 refine wpAny_IfExp (thn (hc pins s σ H _ I h) λd s1 ⟨H1,I1,q1⟩=>?_)
 cases d with
 |true=>exact ha pins s1 σ H1 Q I1 q1
 |false=>exact hb pins s1 σ H1 Q I1 q1
end
end L2
namespace L2
open PySem PySem.Spec PyProof.Rows
noncomputable def SqL(K:PySem.W.Frag)(H:Hp)(a:Addr)(xs:List V):Prop :=
 Rd H a (.lst xs) \/
  ∃(o:Obj)(its:Array Value)(n:Nat),K.lookup a=some o/\o.cls=.type "list" /\ o.dict=none/\o.data=.seq its n/\its.size<=sizeLine/\Vals xs its.toList
noncomputable def SqT(K:PySem.W.Frag)(H:Hp)(a:Addr)(xs:List V):Prop :=
 Rd H a (.tup xs) \/
  ∃(o:Obj)(its:Array Value)(n:Nat),K.lookup a=some o/\o.cls=.type "tuple" /\ o.data=.seq its n/\its.size<=sizeLine/\Vals xs its.toList
noncomputable def absV:Value->Option V
 |.none=>some .non
 |.bool b=>some (.bl b)
 |.int i _=>some (.int i)
 |.str x _=>some (.str x)
 |.bytes b _=>some (.byt b)
 |.float b _=>some (.flt b)
 |.ref a=>some (.ref a)
 |.type n=>some (.ty n)
 |_=>none
theorem RelV.abs{x:V}{u:Value}(r:RelV x u):absV u=some x:=by
 cases x with
 |non=>cases r;rfl
 |bl _=>cases r;rfl
 |int _=>obtain⟨t,rfl⟩:=r;rfl
 |str _=>obtain⟨t,rfl⟩:=r;rfl
 |byt _=>obtain⟨t,rfl⟩:=r;rfl
 |flt _=>obtain⟨t,rfl⟩:=r;rfl
 |ref _=>cases r;rfl
 |ty _=>cases r;rfl
theorem RelV.inj{x y:V}{u:Value}(r:RelV x u)(q:RelV y u):x=y:=Option.some.inj (r.abs.symm.trans q.abs)
theorem Vals.inj:∀{xs ys:List V}{us:List Value},Vals xs us->Vals ys us->xs=ys
 |_,_,_,.nil,.nil=>rfl
 |_,_,_,.cons r t,.cons r' t'=>by rw[r.inj r',Vals.inj t t']
section
variable{X:Cx}{pins:List (Addr×Obj)}{σ:St}{H:Hp}{s:Shared}{a:Addr}{xs ys:List V}
theorem SqL.of{K:PySem.W.Frag}(h:H a=some (.lst xs)):SqL K H a xs:=.inl (.inl h)
theorem SqT.of{K:PySem.W.Frag}(h:H a=some (.tup xs)):SqT K H a xs:=.inl (.inl h)
theorem Inv.list(I:Inv X pins σ H s)(h:SqL X.K H a xs):∃its:List Value,Vals xs its/\PlainL s.heap a its.toArray/\xs.length<=sizeLine:=by
 rcases h with h|⟨o,its,n,hk,hc,hd,hs,hz,r⟩
 ·obtain⟨z,its,n,r,e⟩:=h.ok I.hok
  exact⟨its,r,⟨_,n,e,rfl,rfl,rfl⟩,z⟩
 ·refine⟨its.toList,r,⟨o,n,I.kIn a o hk,hc,hd,by simpa using hs⟩,?_⟩
  have e:=r.length
  simp only[Um]at e
  omega
theorem Inv.tuple(I:Inv X pins σ H s)(h:SqT X.K H a xs):∃its:List Value,Vals xs its/\IsTup s.heap a its.toArray/\xs.length<=sizeLine:=by
 rcases h with h|⟨o,its,n,hk,hc,hs,hz,r⟩
 ·obtain⟨z,its,r,p⟩:=h.ok I.hok
  exact⟨its,r,p,z⟩
 ·refine⟨its.toList,r,⟨o,I.kIn a o hk,hc,n,by simpa using hs⟩,?_⟩
  have e:=r.length
  simp only[Um]at e
  omega
theorem Inv.list_inj(I:Inv X pins σ H s)(h:SqL X.K H a xs)(h':SqL X.K H a ys):xs=ys:=by
 obtain⟨its,r,⟨o,n,e,_,_,d⟩,_⟩:=I.list h
 obtain⟨its',r',⟨o',n',e',_,_,d'⟩,_⟩:=I.list h'
 rw[e]at e';cases e'
 rw[d]at d'
 injection d' with d1 _
 have:its=its':=by simpa using Rb Array.toList d1
 subst this
 exact r.inj r'
theorem Inv.tuple_inj(I:Inv X pins σ H s)(h:SqT X.K H a xs)(h':SqT X.K H a ys):xs=ys:=by
 obtain⟨its,r,⟨o,e,_,n,d⟩,_⟩:=I.tuple h
 obtain⟨its',r',⟨o',e',_,n',d'⟩,_⟩:=I.tuple h'
 rw[e]at e';cases e'
 rw[d]at d'
 injection d' with d1 _
 have:its=its':=by simpa using Rb Array.toList d1
 subst this
 exact r.inj r'
end
noncomputable abbrev Cx.wish(X:Cx)(E:Value->Shared->Prop):Cx:={X with xe:=E}
noncomputable abbrev Cx.nox(X:Cx):Cx:=X.wish λ_ _=>False
theorem Cx.Ok.wish{X:Cx}(ok:X.Ok)(E:Value->Shared->Prop):(X.wish E).Ok :=
 ⟨ok.mod,ok.kind,ok.glob,ok.blt,ok.above,ok.inj,ok.has,ok.cab,ok.hd,ok.frames,ok.stk,ok.exf,ok.bs,ok.bsz,ok.noex,ok.exfs,ok.funs,ok.frf⟩
theorem Cx.Ok.unwish{X:Cx}{E:Value->Shared->Prop}(ok:(X.wish E).Ok):X.Ok :=
 ⟨ok.mod,ok.kind,ok.glob,ok.blt,ok.above,ok.inj,ok.has,ok.cab,ok.hd,ok.frames,ok.stk,ok.exf,ok.bs,ok.bsz,ok.noex,ok.exfs,ok.funs,ok.frf⟩
section
variable{X:Cx}{pins:List (Addr×Obj)}{σ:St}{H:Hp}{s:Shared}{E:Value->Shared->Prop}
theorem Inv.wish(I:Inv X pins σ H s)(E:Value->Shared->Prop):Inv (X.wish E) pins σ H s:=⟨I.ok.wish E,I.os,I.bare,I.base,I.loc,I.cell,I.free,I.freeC,I.pin,I.hok,I.len⟩
theorem Inv.unwish(I:Inv (X.wish E) pins σ H s):Inv X pins σ H s:=⟨I.ok.unwish,I.os,I.bare,I.base,I.loc,I.cell,I.free,I.freeC,I.pin,I.hok,I.len⟩
theorem SP.unwish{D:Ends}{f:Flow}{s':Shared}(h:SP (X.wish E) pins D f s'):SP X pins D f s':=by
 cases f with
 |next=>obtain⟨σ',H',I,q⟩:=h;exact⟨σ',H',I.unwish,q⟩
 |brk=>obtain⟨σ',H',I,q⟩:=h;exact⟨σ',H',I.unwish,q⟩
 |cont=>obtain⟨σ',H',I,q⟩:=h;exact⟨σ',H',I.unwish,q⟩
 |ret u=>obtain⟨v,σ',H',I,r,q⟩:=h;exact⟨v,σ',H',I.unwish,r,q⟩
theorem PE.nox{e:Expr}{t:TE}(h:PE X.nox e t):PE X e t:=λpins s σ H Q I hw =>
 Tf (h pins s σ H Q (I.wish _) hw) (λ_ _ ⟨v,H',I',r,q⟩=>⟨v,H',I'.unwish,r,q⟩) λ_ _ z=>False.elim z
theorem PT.nox{e:Expr}{t:TT}(h:PT X.nox e t):PT X e t:=λpins s σ H Q I hw =>
 Tf (h pins s σ H Q (I.wish _) hw) (λ_ _ ⟨H',I',q⟩=>⟨H',I'.unwish,q⟩) λ_ _ z=>False.elim z
theorem PSs.nox{st:List Stmt}{t:TS}(h:PSs X.nox st t):PSs X st t:=λpins s σ H D I hw =>
 Tf (h pins s σ H D (I.wish _) hw) (λ_ _ q=>q.unwish) λ_ _ z=>False.elim z
end
section
variable{X:Cx}{st:Stmt}{rest:List Stmt}{t u:TS}{e:Expr}{te:TE}{pos:Pos}
noncomputable def Qn7:TS:=λD σ H=>D.nx σ H
noncomputable def tSeq(t u:TS):TS:=λD σ H=>t {D with nx:=u D} σ H
theorem Qg1:PSs X [] Qn7:=λ_ _ σ H _ I h=>Wb ⟨σ,H,I,h⟩
theorem QiT(h1:PS X st t)(h2:PSs X rest u):PSs X (st::rest) (tSeq t u):=by
 intro pins s σ H D I h
 refine wpAny_execs_cons (thn (h1 pins s σ H {D with nx:=u D} I h) λf s1 q=>?_)
 cases f with
 |next =>
  obtain⟨σ',H',I',q⟩:=q
  exact h2 pins s1 σ' H' D I' q
 |ret v=>exact q
 |brk=>exact q
 |cont=>exact q
theorem QkF(h1:PS X st t):PSs X [st] t:=by
 intro pins s σ H D I h
 refine wpAny_execs_cons (thn (h1 pins s σ H D I h) λf s1 q=>?_)
 cases f with
 |next=>exact Wb q
 |ret v=>exact q
 |brk=>exact q
 |cont=>exact q
theorem Inv.quiet{pins:List (Addr×Obj)}{σ:St}{H:Hp}{s:Shared}(I:Inv X pins σ H s):interactive X.env=false:=by simp[interactive,I.ok.kind]
noncomputable def Qn8(te:TE):TS:=λD σ H=>te σ H λ_ H1=>D.nx σ H1
theorem QkG(he:PE X e te)(hs:swapsWith e none pos.line X.env=pure false:=by rfl):PS X (.Expr e pos) (Qn8 te):=by
 intro pins s σ H D I h
 exact wpAny_Expr_any (thn (he pins s σ H _ I h) λv s1 ⟨x,H1,I1,r1,q1⟩=>⟨σ,H1,I1,q1⟩) I.quiet hs
noncomputable def tRet(te:TE):TS:=λD σ H=>te σ H D.rt
theorem Qmd(he:PE X e te):PS X (.Return (some e) pos) (tRet te):=by
 intro pins s σ H D I h
 exact wpAny_Return_some (thn (he pins s σ H _ I h) λv s1 ⟨x,H1,I1,r1,q1⟩=>⟨x,σ,H1,I1,r1,q1⟩)
noncomputable def Qn9:TS:=λD _ H=>D.rt .non H
theorem QkH:PS X (.Return none pos) Qn9:=λ_ _ σ H _ I h=>wpAny_Return_none ⟨.non,σ,H,I,rfl,h⟩
noncomputable def tIfS(c:TT)(t u:TS):TS:=λD σ H=>c σ H λb H1=>if b=true then t D σ H1 else u D σ H1
theorem Qoa{c:Expr}{a b:List Stmt}{tc:TT}(hc:PT X c tc)(ha:PSs X a t)(hb:PSs X b u):PS X (.If c a b pos) (tIfS tc t u):=by
 intro pins s σ H D I h
 refine wpAny_If (thn (hc pins s σ H _ I h) λd s1 ⟨H1,I1,q1⟩=>?_)
 cases d with
 |true=>exact ha pins s1 σ H1 D I1 q1
 |false=>exact hb pins s1 σ H1 D I1 q1
noncomputable def Qme:TS:=λ_ _ _=>False
theorem QiU:PS X st Qme:=λ_ _ _ _ _ _ h=>h.elim
end
noncomputable abbrev TG:=V->St->Hp->(St->Hp->Prop)->Prop
noncomputable abbrev TGs:=List V->St->Hp->(St->Hp->Prop)->Prop
noncomputable def PG(X:Cx)(target:Expr)(t:TG):Prop :=
 ∀(pins:List (Addr×Obj))(s:Shared)(σ:St)(H:Hp)(v:V)(u:Value)(Q:St->Hp->Prop),Inv X pins σ H s->RelV v u->t v σ H Q ->
  wpAny (model X.prog X.w) X.A (assign target X.env u) (λ_ s'=>∃σ' H',Inv X pins σ' H' s'/\Q σ' H') X.xe s
noncomputable def PGs(X:Cx)(ts:List Expr)(t:TGs):Prop :=
 ∀(pins:List (Addr×Obj))(s:Shared)(σ:St)(H:Hp)(vs:List V)(us:List Value)(Q:St->Hp->Prop),Inv X pins σ H s->Vals vs us->t vs σ H Q ->
  wpAny (model X.prog X.w) X.A (assignInOrder ((assignEach ts X.env).map (·.2)) us) (λ_ s'=>∃σ' H',Inv X pins σ' H' s'/\Q σ' H') X.xe s
noncomputable abbrev TSet:=V->V->V->Hp->(Hp->Prop)->Prop
noncomputable def PSet(X:Cx)(t:TSet):Prop :=
 ∀(pins:List (Addr×Obj))(s:Shared)(σ:St)(H:Hp)(o i v:V)(ov iv u:Value)(Q:Hp->Prop),Inv X pins σ H s->RelV o ov->RelV i iv->RelV v u->t o i v H Q ->
  wpAny (model X.prog X.w) X.A (setItem ov iv u) (λ_ s'=>∃H',Inv X pins σ H' s'/\Q H') X.xe s
section
variable{X:Cx}{pos:Pos}
noncomputable def Qmf(i:Nat):TG:=λv σ H Q=>Q (σ.set i (some v)) H
theorem QkI{i:Nat}{x:Str}(hN:X.N.Nodup)(hi:X.N[i]?=some x)(hx:Loc X.env.scope x)(hf:X.fn x=true\/X.env.scope.names.lookup x=some .local:=by first|exact .inl rfl|exact .inr rfl|assumption):PG X (.Name x pos) (Qmf i):=by
 intro pins s σ H v u Q I r h
 exact wpAny_assign_Name (Qfn I hN hi hx r (λs' I'=>⟨_,H,I',h⟩) hf)
noncomputable def gNil:TGs:=λvs σ H Q=>vs=[]/\Q σ H
noncomputable def Qob(t:TG)(u:TGs):TGs:=λvs σ H Q=>∃v r,vs=v::r/\t v σ H λσ' H'=>u r σ' H' Q
theorem QkJ:PGs X [] gNil:=by
 intro pins s σ H vs us Q I r h
 obtain⟨e,h⟩:=h
 subst e
 cases r
 exact assignInOrder_nil ⟨σ,H,I,h⟩
theorem QiV{e:Expr}{es:List Expr}{t:TG}{u:TGs}(h1:PG X e t)(h2:PGs X es u)(hs:(assignEach (e::es) X.env).map (·.2)=assign e X.env::(assignEach es X.env).map (·.2):=by rfl):PGs X (e::es) (Qob t u):=by
 intro pins s σ H vs us Q I r h
 obtain⟨v,vr,e1,h⟩:=h
 subst e1
 cases r with
 |cons r rr =>
  rw[hs]
  refine assignInOrder_cons (thn (h1 pins s σ H _ _ _ I r h) λ_ s1 ⟨σ1,H1,I1,q1⟩=>?_)
  exact h2 pins s1 σ1 H1 _ _ Q I1 rr q1
noncomputable def gTup(K:PySem.W.Frag)(n:Nat)(t:TGs):TG:=λv σ H Q=>∃a xs,v=.ref a/\SqT K H a xs/\xs.length=n/\t xs σ H Q
theorem Qmg{es:List Expr}{k:Nat}{t:TGs}{n:Nat}(hc:X.calm=true)(h:PGs X es t)(hn:(assignEach es X.env).length=n:=by rfl)(hst:(assignEach es X.env).findIdx? (·.1)=none:=by rfl):PG X (.Tuple es k pos) (gTup X.K n t):=by
 intro pins s σ H v u Q I r hw
 obtain⟨a,xs,e1,hq,hl,hw⟩:=hw
 subst e1
 cases r
 obtain⟨its,rv,ht,hz⟩:=I.tuple hq
 refine assign_Tuple_tuple (I.ok.hd hc) ht (by simp[hn,<-hl,rv.length]) hst λh' hx=>?_
 have I1:Inv X pins σ H {s with heap:=h'}:=I.kept (t':=s.toks) λb o e=>hx b o (UF (Uk e)) e
 exact h pins _ σ H xs _ Q I1 (by simpa using rv) hw
noncomputable def gSub(to ti:TE)(t:TSet):TG:=λv σ H Q=>to σ H λo H1=>ti σ H1 λi H2=>t o i v H2 λH3=>Q σ H3
theorem Qj2{o i:Expr}{to ti:TE}{t:TSet}(ho:PE X o to)(hi:PE X i ti)(hs:PSet X t)(ha:∀v,assign (.Subscript o i pos) X.env v=(do
   let ov <-holding [v] (eval o X.env)
   let iv <-holding [v,ov] (eval i X.env)
   standAt pos
   holding [v,ov,iv] (setItem ov iv v)
   release [v,ov,iv] []):=by intro _;rfl):PG X (.Subscript o i pos) (gSub to ti t):=by
 intro pins s σ H v u Q I r h
 rw[ha]
 refine Ua (TU (thn (ho pins s σ H _ I h) λov s1 ⟨x,H1,I1,r1,q1⟩=>?_))
 refine Ua (TU (thn (hi pins s1 σ H1 _ I1 q1) λiv s2 ⟨y,H2,I2,r2,q2⟩=>?_))
 refine Ua (wpAny_standAt (Ua (TU (thn (hs pins s2 σ H2 x y v ov iv u _ I2 r1 r2 r q2) λ_ s3 ⟨H3,I3,q3⟩=>?_))))
 exact wpAny_release ⟨σ,H3,I3,q3⟩
noncomputable def tAsg(te:TE)(g:TG):TS:=λD σ H=>te σ H λx H1=>g x σ H1 D.nx
theorem Qg2{tg e:Expr}{te:TE}{g:TG}(he:PE X e te)(hg:PG X tg g)(hs:swapsWithSole [tg] e pos.line X.env=pure false:=by rfl)(hw:swappedStores [tg] e X.env=pure none:=by rfl)(h1:(assignEach [tg] X.env).map (·.2)=[assign tg X.env]:=by rfl):PS X (.Assign [tg] e pos) (tAsg te g):=by
 intro pins s σ H D I h
 refine wpAny_Assign_stores (thn (he pins s σ H _ I h) λv s1 ⟨x,H1,I1,r1,q1⟩=>?_) hs hw
 rw[h1]
 exact thn (hg pins s1 σ H1 x v _ I1 r1 q1) λ_ s2 q=>q
theorem Qmh{i:Nat}{x:Str}{e:Expr}{te:TE}{pos':Pos}(hN:X.N.Nodup)(hi:X.N[i]?=some x)(hx:Loc X.env.scope x)(he:PE X e te)(hs:swapsWith e (some (.Name x pos')) pos.line X.env=pure false:=by rfl)(hf:X.fn x=true\/X.env.scope.names.lookup x=some .local:=by first|exact .inl rfl|exact .inr rfl|assumption):
  PS X (.Assign [.Name x pos'] e pos) (tAsg te (Qmf i)):=by
 intro pins s σ H D I h
 refine wpAny_Assign_Name (thn (he pins s σ H _ I h) λv s1 ⟨y,H1,I1,r1,q1⟩=>?_) hs
 exact Qfn I1 hN hi hx r1 (λs2 I2=>⟨_,H1,I2,q1⟩) hf
end
section
variable{X:Cx}{pos:Pos}
noncomputable def Qmi(c:TT)(tb:TS):TS:=λD σ H=>∃W:Nat->St->Hp->Prop,(∃m,W m σ H)/\∀m σ H,W m σ H ->
 c σ H λb H1=>if b=true then ∃N:St->Hp->Prop,(∀σ' H',N σ' H'->∃m',m'<m/\W m' σ' H')/\tb {D with nx:=N,ct:=N,bk:=D.nx} σ H1 else D.nx σ H1
theorem QiW{c:Expr}{body:List Stmt}{tc:TT}{tb:TS}(hp:PassesOwn (model X.prog X.w) X.A X.env X.xe)(hc:PT X c tc)(hb:PSs X body tb):PS X (.While c body [] pos) (Qmi tc tb):=by
 intro pins s σ H D I h
 obtain⟨W,⟨m0,w0⟩,turn⟩:=h
 refine wpAny_While (codeAny_whileLoop (λn s'=>∃σ' H',Inv X pins σ' H' s'/\W n σ' H') ?_ m0 ⟨σ,H,I,w0⟩)
 rintro n s1 ⟨σ1,H1,I1,w1⟩
 refine T6 hp (thn (hc pins s1 σ1 H1 _ I1 (turn n σ1 H1 w1)) λb s2 ⟨H2,I2,q2⟩=>?_)
 cases b with
 |true =>
  obtain⟨N,hN,q2⟩:=q2
  rw[Ud rfl]
  refine T6 hp (thn (hb pins s2 σ1 H2 _ I2 q2) λf s3 q3=>?_)
  cases f with
  |next =>
   obtain⟨σ3,H3,I3,n3⟩:=q3
   obtain⟨m',hm,w3⟩:=hN σ3 H3 n3
   exact⟨m',hm,σ3,H3,I3,w3⟩
  |cont =>
   obtain⟨σ3,H3,I3,n3⟩:=q3
   obtain⟨m',hm,w3⟩:=hN σ3 H3 n3
   exact⟨m',hm,σ3,H3,I3,w3⟩
  |brk=>exact q3
  |ret v=>exact q3
 |false =>
  rw[Ue Ug]
  exact Wb ⟨σ1,H2,I2,q2⟩
end
structure It where
 go:Nat->Hp->Prop
 yld:Nat->Hp->V->Hp->Prop
 stop:Nat->Hp->Prop
noncomputable def FpOk(X:Cx)(pins:List (Addr×Obj))(H:Hp)(b:Addr):Prop :=
 H b=none/\b≠X.env.locals/\b∉X.fs/\(b∈X.ex\/X.s₀.heap.objs.size<=b)/\(∀x c,X.env.cells.lookup x=some c->c≠b)/\∀p∈X.pn++pins,p.1≠b
theorem Inv.fpOk{X:Cx}{pins:List (Addr×Obj)}{σ:St}{H H':Hp}{s:Shared}{b:Addr}(I:Inv X pins σ H s)(hb:s.heap.objs.size<=b)(hn:H' b=none):FpOk X pins H' b:=by
 refine⟨hn,Wn (Ur I.lt hb),I.nofs hb,.inr (Ut I.sz hb),λx c e z=>?_,λp hp z=>?_⟩
 ·obtain⟨v,q⟩:=I.cell x c e
  exact absurd (Ur q.lt (by rw[z];exact hb)) (Tc _)
 ·exact absurd (Ur (Uk (I.pin p hp).1) (by rw[z];exact hb)) (Tc _)
structure Turn(P:Program)(w:World)(K:PySem.W.Frag)(tg:Expr)(J:It)(fp:List Addr)(it:Addr)(tn:Nat->Heap->Prop):Prop where
 mem:it∈fp
 obj:∀i h,tn i h->∀b∈fp,∃o,h.get? b=some o/\∀v,o.data≠.cell v
 keep:∀i h h',tn i h->(∀b∈fp,∀o,h.get? b=some o->h'.get? b=some o)->tn i h'
 item:∀(X:Cx),X.prog=P->X.w=w->X.K=K->X.calm=true->∀(i:Nat)(pins:List (Addr×Obj))(s:Shared)(σ:St)(H:Hp)(E:Value->Shared->Prop),Inv X pins σ H s->(∀b∈fp,FpOk X pins H b)->tn i s.heap->J.go i H ->
  wpAny (model P w) X.A (pyNext (.ref it)) (λr s1=>∃u,r=some u /\
   wpAny (model P w) X.A (letOwnedTupleGo tg (.ref it) u) (λ_ s2=>∃x H',Inv X pins σ H' s2/\RelV x u/\J.yld i H x H'/\tn (i+1) s2.heap/\∀b∈fp,H' b=none) E s1) E s
 done:∀(X:Cx),X.prog=P->X.w=w->X.K=K->X.calm=true->∀(i:Nat)(pins:List (Addr×Obj))(s:Shared)(σ:St)(H:Hp)(E:Value->Shared->Prop),Inv X pins σ H s->(∀b∈fp,FpOk X pins H b)->tn i s.heap->J.stop i H ->
  wpAny (model P w) X.A (pyNext (.ref it)) (λr s1=>r=none/\Inv X pins σ H s1) E s
 self:∀(A:Around)(i:Nat)(s:Shared)(Q:Value->Shared->Prop)(E:Value->Shared->Prop),tn i s.heap->Q (.ref it) s->wpAny (model P w) A (pyIter (.ref it)) Q E s
noncomputable abbrev TI:=St->Hp->(It->Hp->Prop)->Prop
noncomputable def PIE(X:Cx)(pins:List (Addr×Obj))(σ:St)(tg:Expr)(R:It->Hp->Prop)(itv:Value)(s2:Shared):Prop :=
 ∃(it:Addr)(fp:List Addr)(tn:Nat->Heap->Prop)(J:It)(H':Hp),itv=.ref it/\Inv X pins σ H' s2/\Turn X.prog X.w X.K tg J fp it tn/\tn 0 s2.heap/\(∀b∈fp,FpOk X pins H' b)/\R J H'
noncomputable def PI(X:Cx)(tg iter:Expr)(wi:TI):Prop :=
 ∀(pins:List (Addr×Obj))(s:Shared)(σ:St)(H:Hp)(R:It->Hp->Prop),Inv X pins σ H s->wi σ H R ->
  wpAny (model X.prog X.w) X.A (eval iter X.env) (λv s1=>wpAny (model X.prog X.w) X.A (pyIter v) (PIE X pins σ tg R) X.xe s1) X.xe s
theorem QkK{M:Model}{A:Around}{E:Value->Shared->Prop}{s:Shared}{tg:Expr}{it:Addr}{u:Value}{o:Obj}{n:String}{vs:Array Value}{Q:Unit->Shared->Prop}(ho:s.heap.get? it=some o)(hc:o.cls=.type n)(hd:o.data=.fields vs)(hn:["enumerate", "zip", "dict_itemiterator", "dict_reverseitemiterator", "odict_iterator", "itertools.zip_longest", "itertools.pairwise"].contains n=false)(hQ:Q () s):wpAny M A (letOwnedTupleGo tg (.ref it) u) Q E s:=by
  unfold letOwnedTupleGo
  cases tg <;> first
    |exact Uj hQ
    | (cases u <;> first
        |exact Uj hQ
        | (refine Ua (wpAny_load ho ?_)
           rw[hc,hd]
           show wpAny M A (if (["enumerate", "zip", "dict_itemiterator", "dict_reverseitemiterator", "odict_iterator", "itertools.zip_longest", "itertools.pairwise"].contains n && vs[0]? == some (rawInt _))=true then _ else _) Q E s
           rw[Ue (by intro h;rw[hn,Bool.false_and]at h;cases h)]
           exact Uj hQ))
noncomputable def Itl(K:PySem.W.Frag)(a:Addr):It :=
 ⟨λi H=>∃xs x,SqL K H a xs/\xs[i]?=some x,λi H x H'=>H'=H/\∀xs,SqL K H a xs->xs[i]?=some x,λi H=>∃xs,SqL K H a xs/\xs.length<=i⟩
noncomputable def Itt(K:PySem.W.Frag)(a:Addr):It :=
 ⟨λi H=>∃xs x,SqT K H a xs/\xs[i]?=some x,λi H x H'=>H'=H/\∀xs,SqT K H a xs->xs[i]?=some x,λi H=>∃xs,SqT K H a xs/\xs.length<=i⟩
noncomputable def Itr(lo:Int)(n:Nat):It:=⟨λi _=>i<n,λi H x H'=>H'=H/\x=.int (lo+i),λi _=>n<=i⟩
theorem Qg3{P:Program}{w:World}{K:PySem.W.Frag}{tg:Expr}(a it:Addr):Turn P w K tg (Itl K a) [it] it (λi h=>h.IsListIter it a i) where
 mem:=by simp
 obj:=λi h st b hb=>by
  have e:b=it:=by simpa using hb
  subst e
  obtain⟨o,e,c,d⟩:=st
  exact⟨o,e,λv z=>by rw[d]at z;cases z⟩
 keep:=λi h h' st k=>st.at λo e=>k it (by simp) o e
 item:=by
  intro X hP hw hK hc i pins s σ H E I hf st hg
  subst hP hw hK
  obtain⟨xs,x,hq,hx⟩:=hg
  obtain⟨its,rv,p,hz⟩:=I.list hq
  obtain⟨u,hu,ru⟩:=rv.get hx
  obtain⟨f0,f1,f2,f3,f4,f5⟩:=hf it (by simp)
  refine wpAny_pyNext_list_item st p.isList (x:=u) (by simpa using hu) λh' st' sb=>?_
  have I1:Inv X pins σ H {s with heap:=h'}:=I.turned (t':=s.toks) (λb o hb e=>(sb.2 b hb).trans e) f0 f1 f3 f4 f5
  obtain⟨o,e,c,d⟩:=id st'
  exact⟨u,rfl,QkK (s:={s with heap:=h'}) e c d (by decide) ⟨x,H,I1,ru,⟨rfl,λys hy=>by rw[I.list_inj hy hq];exact hx⟩,st',λb hb=>(hf b hb).1⟩⟩
 done:=by
  intro X hP hw hK hc i pins s σ H E I hf st hg
  subst hP hw hK
  obtain⟨xs,hq,hx⟩:=hg
  obtain⟨its,rv,p,hz⟩:=I.list hq
  obtain⟨f0,f1,f2,f3,f4,f5⟩:=hf it (by simp)
  have hl:=rv.length
  exact wpAny_pyNext_list_end (I.ok.hd hc) st p.isList (by simp;omega) λh' eb=>⟨rfl,I.turned (t':=s.toks) (λb o hb e=>eb b o hb e) f0 f1 f3 f4 f5⟩
 self:=λ_ _ _ _ _ st h=>wpAny_pyIter_listiter st h
theorem Qgf{P:Program}{w:World}{K:PySem.W.Frag}{tg:Expr}(a it:Addr):Turn P w K tg (Itt K a) [it] it (λi h=>h.IsTupleIter it a i) where
 mem:=by simp
 obj:=λi h st b hb=>by
  have e:b=it:=by simpa using hb
  subst e
  obtain⟨o,e,c,d⟩:=st
  exact⟨o,e,λv z=>by rw[d]at z;cases z⟩
 keep:=λi h h' st k=>st.at λo e=>k it (by simp) o e
 item:=by
  intro X hP hw hK hc i pins s σ H E I hf st hg
  subst hP hw hK
  obtain⟨xs,x,hq,hx⟩:=hg
  obtain⟨its,rv,p,hz⟩:=I.tuple hq
  obtain⟨u,hu,ru⟩:=rv.get hx
  obtain⟨f0,f1,f2,f3,f4,f5⟩:=hf it (by simp)
  refine wpAny_pyNext_tuple_item st (show s.heap.IsTuple a its.toArray from p) (x:=u) (by simpa using hu) λh' st' sb=>?_
  have I1:Inv X pins σ H {s with heap:=h'}:=I.turned (t':=s.toks) (λb o hb e=>(sb.2 b hb).trans e) f0 f1 f3 f4 f5
  obtain⟨o,e,c,d⟩:=id st'
  exact⟨u,rfl,QkK (s:={s with heap:=h'}) e c d (by decide) ⟨x,H,I1,ru,⟨rfl,λys hy=>by rw[I.tuple_inj hy hq];exact hx⟩,st',λb hb=>(hf b hb).1⟩⟩
 done:=by
  intro X hP hw hK hc i pins s σ H E I hf st hg
  subst hP hw hK
  obtain⟨xs,hq,hx⟩:=hg
  obtain⟨its,rv,p,hz⟩:=I.tuple hq
  obtain⟨f0,f1,f2,f3,f4,f5⟩:=hf it (by simp)
  have hl:=rv.length
  exact wpAny_pyNext_tuple_end (I.ok.hd hc) st (show s.heap.IsTuple a its.toArray from p) (by simp;omega) λh' eb=>⟨rfl,I.turned (t':=s.toks) (λb o hb e=>eb b o hb e) f0 f1 f3 f4 f5⟩
 self:=λ_ _ _ _ _ st h=>wpAny_pyIter_tupleiter st h
theorem Qgg{P:Program}{w:World}{K:PySem.W.Frag}{tg:Expr}(it:Addr)(lo:Int)(n:Nat):Turn P w K tg (Itr lo n) [it] it (λi h=>IsRangeIter h it (lo+(i:Nat)*1) ((n:Int) - (i:Nat)) 1) where
 mem:=by simp
 obj:=λi h st b hb=>by
  have e:b=it:=by simpa using hb
  subst e
  exact⟨_,st,λv z=>by
   have z':Data.fields _=Data.cell v:=z
   cases z'⟩
 keep:=λi h h' st k=>k it (by simp) _ st
 item:=by
  intro X hP hw hK hc i pins s σ H E I hf st hg
  subst hP hw hK
  obtain⟨f0,f1,f2,f3,f4,f5⟩:=hf it (by simp)
  have W:=Walks.range (prog:=X.prog) (w:=X.w) (I.ok.hd hc) it lo 1 n
  refine W.item i s _ _ hg st λv h' tk hv st' kk=>?_
  obtain⟨t,rfl⟩:=hv
  have I1:Inv X pins σ H {s with heap:=h',toks:=tk}:=I.turned (λb o hb e=>kk b o (by simpa using hb) e) f0 f1 f3 f4 f5
  refine⟨_,rfl,QkK (s:={s with heap:=h',toks:=tk}) (n:="range_iterator") st' rfl rfl (by decide) ⟨.int (lo+i),H,I1,⟨t,?_⟩,⟨rfl,rfl⟩,st',λb hb=>(hf b hb).1⟩⟩
  rw[Int.mul_one]
 done:=by
  intro X hP hw hK hc i pins s σ H E I hf st hg
  subst hP hw hK
  obtain⟨f0,f1,f2,f3,f4,f5⟩:=hf it (by simp)
  exact wpAny_pyNext_range_end (I.ok.hd hc) st (by have:n<=i:=hg;omega) λh' eb=>⟨rfl,I.turned (t':=s.toks) (λb o hb e=>eb b o hb e) f0 f1 f3 f4 f5⟩
 self:=λ_ _ _ _ _ st h=>wpAny_pyIter_rangeiter st h
end L2
namespace L2
open PySem PySem.Spec PyProof.Rows
section
variable{X:Cx}{tg:Expr}
theorem QiX{pins:List (Addr×Obj)}{σ:St}{H:Hp}{s:Shared}{R:It->Hp->Prop}{E:Value->Shared->Prop}{lo hi:Int}{t u v:Tok}{tk:Nat}(I:Inv X pins σ H s)(h1:-(2^62)<=lo)(h2:lo<2^62)(h3:-(2^62)<=hi)(h4:hi<2^62)(q:R (Itr lo (hi-lo).toNat) H):wpAny (model X.prog X.w) X.A (pyIter (.ref s.heap.objs.size)) (PIE X pins σ tg R) E {s with heap:=s.heap.push {cls:=.type "range",data:=.fields #[.int lo t,.int hi u,.int 1 v]},toks:=tk}:=by
 refine wpAny_pyIter_range (IsRange.new ..) (small_one h1 h2 h3 h4) ?_
 have I1:Inv X pins σ H {s with heap:=s.heap.push {cls:=.type "range",data:=.fields #[.int lo t,.int hi u,.int 1 v]},toks:=tk}:=I.kept λb o e=>Ub _ e
 refine⟨(s.heap.push {cls:=.type "range",data:=.fields #[.int lo t,.int hi u,.int 1 v]}).objs.size,[(s.heap.push {cls:=.type "range",data:=.fields #[.int lo t,.int hi u,.int 1 v]}).objs.size],_,_,H,rfl,
  I1.kept (t':=tk) λb o e=>Ub _ e,Qgg _ lo (hi-lo).toNat,?_,λb hb=>?_,q⟩
 ·have e1:lo+((0:Nat):Int)*1=lo:=by simp
  have e2:(((hi-lo).toNat:Nat):Int) - ((0:Nat):Int)=Builtin.Range.rangeSize lo hi 1:=by rw[rangeSize_one];split <;> omega
  show IsRangeIter _ _ (lo+((0:Nat):Int)*1) ((((hi-lo).toNat:Nat):Int) - ((0:Nat):Int)) 1
  rw[e1,e2]
  exact Uo _ rfl
 ·have e:b=(s.heap.push {cls:=.type "range",data:=.fields #[.int lo t,.int hi u,.int 1 v]}).objs.size:=by simpa using hb
  subst e
  exact I1.fpOk (Uc _) (I1.hok.fresh (Uc _))
noncomputable def Qoc(ta:TA):TI:=λσ H R=>ta σ H λvs H1=>∃j:Int,vs=[.int j] /\ -(2^62)<=j/\j<2^62/\R (Itr 0 j.toNat) H1
theorem Qg4{a:Expr}{ta:TA}{p pos:Pos}(hg:Gl X "range")(hm:X.mg "range" = none)(ha:PA X [a] ta)(hs:starEach [a] X.env=[(false,eval a X.env)]:=by rfl):PI X tg (.Call (.Name "range" p) [a] [] pos) (Qoc ta):=by
 intro pins s σ H R I h
 refine Call_ (Qap I hg hm boot_range (UV (thn (ha pos pins s σ H _ I h) λus s1 ⟨vs,H1,I1,r1,q1⟩=>?_) hs rfl))
 obtain⟨j,e,q1,q2,q⟩:=q1
 subst e
 cases r1 with
 |cons r rr =>
  cases rr
  obtain⟨t,rfl⟩:=r
  exact call_range_1 (QiX I1 (by omega) (by omega) q1 q2 (by simpa using q))
noncomputable def tFor(wi:TI)(g:TG)(tb:TS):TS:=λD σ H=>wi σ H λJ H1=>∃W:Nat->Nat->St->Hp->Prop,(∃m,W 0 m σ H1)/\∀i m σ H,W i m σ H ->
 (J.stop i H/\D.nx σ H)\/(J.go i H/\∃N:St->Hp->Prop,(∀σ' H',N σ' H'->∃m',m'<m/\W (i+1) m' σ' H')/\∀x H',J.yld i H x H'->g x σ H' λσ2 H2=>tb {D with nx:=N,ct:=N,bk:=D.nx} σ2 H2)
noncomputable def QdJ(fp:List Addr)(h:Heap):List (Addr×Obj):=fp.filterMap λb=>(h.get? b).map λo=>(b,o)
theorem JW{fp:List Addr}{h:Heap}{b:Addr}{o:Obj}(hb:b∈fp)(e:h.get? b=some o):(b,o)∈QdJ fp h:=Wt.mpr ⟨b,hb,by rw[e];rfl⟩
theorem Qg5{fp:List Addr}{h:Heap}{p:Addr×Obj}(hp:p∈QdJ fp h):p.1∈fp/\h.get? p.1=some p.2:=by
 obtain⟨b,hb,e⟩:=Wt.mp hp
 cases q:h.get? b with
 |none=>rw[q]at e;cases e
 |some o =>
  rw[q]at e
  have e':(b,o)=p:=Option.some.inj e
  subst e'
  exact⟨hb,q⟩
theorem Inv.pinned{pins:List (Addr×Obj)}{σ:St}{H:Hp}{s:Shared}{fp:List Addr}(I:Inv X pins σ H s)(hf:∀b∈fp,FpOk X pins H b)(ho:∀b∈fp,∃o,s.heap.get? b=some o/\∀v,o.data≠.cell v):Inv X (pins++QdJ fp s.heap) σ H s :=
 I.pins_of λp hp=>(Ta.mp hp).elim (λz=>I.pin p (UK _ z)) λz=>by
  obtain⟨hb,e⟩:=Qg5 z
  obtain⟨f0,f1,f2,_⟩:=hf p.1 hb
  obtain⟨o,e',d⟩:=ho p.1 hb
  rw[e]at e';cases e'
  exact⟨e,f0,f1,f2,d⟩
theorem Inv.unpinned{pins pl:List (Addr×Obj)}{σ:St}{H:Hp}{s:Shared}(I:Inv X (pins++pl) σ H s):Inv X pins σ H s:=I.pins_of λp hp=>I.pin p (UK _ (Ro _ hp))
theorem Qmj{iter:Expr}{body:List Stmt}{wi:TI}{g:TG}{tb:TS}{pos:Pos}(hp:PassesOwn (model X.prog X.w) X.A X.env X.xe)(hc:X.calm=true)(hi:PI X tg iter wi)(hg:PG X tg g)(hb:PSs X body tb)(hs:∀x,foldedSetIterable iter X.env x=pure x:=by intro _;rfl):PS X (.For tg iter body [] pos) (tFor wi g tb):=by
 intro pins s σ H D I h
 refine wpAny_For (thn (hi pins s σ H _ I h) λv s1 h1=>thn h1 λitv s2 h2=>?_) hs
 obtain⟨it,fp,tn,J,H2,e,I2,T,st2,f2,W,⟨m0,w0⟩,turn⟩:=h2
 subst e
 -- what stays true of the iterator's objects through the loop
 have stat:∀{H':Hp},(∀b∈fp,H' b=none)->∀b∈fp,FpOk X pins H' b:=λhn b hb=>⟨hn b hb,(f2 b hb).2⟩
 refine codeAny_forLoop_any (λn s'=>∃i σ' H',Inv X pins σ' H' s'/\tn i s'.heap/\(∀b∈fp,H' b=none)/\W i n σ' H') ?_ m0 ⟨0,σ,H2,I2,st2,λb hb=>(f2 b hb).1,w0⟩
 rintro n s3 ⟨i,σ3,H3,I3,st3,fr3,w3⟩
 rcases turn i n σ3 H3 w3 with⟨stop,qn⟩|⟨go,N,hN,step⟩
 ·refine T6 hp (thn (T.done X rfl rfl rfl hc i pins s3 σ3 H3 X.xe I3 (stat fr3) st3 stop) λr s4 ⟨hr,I4⟩=>?_)
  subst hr
  exact Wb ⟨σ3,H3,I4,qn⟩
 ·refine T6 hp (thn (T.item X rfl rfl rfl hc i pins s3 σ3 H3 X.xe I3 (stat fr3) st3 go) λr s4 ⟨u,hr,h4⟩=>?_)
  subst hr
  refine T6 hp (thn h4 λ_ s5 ⟨x,H5,I5,r5,y5,st5,fr5⟩=>?_)
  have I5':=I5.pinned (stat fr5) (T.obj _ _ st5)
  refine T6 hp (thn (hg _ s5 σ3 H5 x u _ I5' r5 (step x H5 y5)) λ_ s6 ⟨σ6,H6,I6,q6⟩=>?_)
  refine T6 hp (thn (hb _ s6 σ6 H6 _ I6 q6) λf s7 q7=>?_)
  have again:∀{σ7:St}{H7:Hp},Inv X (pins++QdJ fp s5.heap) σ7 H7 s7->N σ7 H7->∃m,m<n/\∃i σ' H',Inv X pins σ' H' s7/\tn i s7.heap/\(∀b∈fp,H' b=none)/\W i m σ' H':=λ{σ7 H7} I7 n7=>by
   obtain⟨m',hm,w7⟩:=hN σ7 H7 n7
   refine⟨m',hm,i+1,σ7,H7,I7.unpinned,T.keep _ _ _ st5 λb hb o e=>(I7.pin (b,o) (UK _ (UK _ (JW hb e)))).1,λb hb=>?_,w7⟩
   obtain⟨o,e,d⟩:=T.obj _ _ st5 b hb
   exact(I7.pin (b,o) (UK _ (UK _ (JW hb e)))).2.1
  cases f with
  |next=>obtain⟨σ7,H7,I7,n7⟩:=q7;exact again I7 n7
  |cont=>obtain⟨σ7,H7,I7,n7⟩:=q7;exact again I7 n7
  |brk=>obtain⟨σ7,H7,I7,q7⟩:=q7;exact⟨σ7,H7,I7.unpinned,q7⟩
  |ret v=>obtain⟨x7,σ7,H7,I7,r7,q7⟩:=q7;exact⟨x7,σ7,H7,I7.unpinned,r7,q7⟩
end
end L2
namespace L2
open PySem PySem.Spec PyProof.Rows
noncomputable abbrev R2:=V->V->Hp->VK->Prop
noncomputable def OpR(X:Cx)(f:Value->Value->Sem Value)(r:R2):Prop :=
 ∀(pins:List (Addr×Obj))(s:Shared)(σ:St)(H:Hp)(x y:V)(v u:Value)(Q:VK),Inv X pins σ H s->RelV x v->RelV y u->r x y H Q ->
  wpAny (model X.prog X.w) X.A (f v u) (EP X pins σ Q) X.xe s
noncomputable def UnR(X:Cx)(f:Value->Sem Value)(r:V->Hp->VK->Prop):Prop :=
 ∀(pins:List (Addr×Obj))(s:Shared)(σ:St)(H:Hp)(x:V)(v:Value)(Q:VK),Inv X pins σ H s->RelV x v->r x H Q ->
  wpAny (model X.prog X.w) X.A (f v) (EP X pins σ Q) X.xe s
noncomputable def CallR(X:Cx)(f:Value)(r:List V->Hp->VK->Prop):Prop :=
 ∀(pins:List (Addr×Obj))(s:Shared)(σ:St)(H:Hp)(xs:List V)(us:List Value)(Q:VK),Inv X pins σ H s->Vals xs us->r xs H Q ->
  wpAny (model X.prog X.w) X.A (call f us) (EP X pins σ Q) X.xe s
noncomputable def tOp(r:R2)(ta tb:TE):TE:=λσ H Q=>ta σ H λx H1=>tb σ H1 λy H2=>r x y H2 Q
noncomputable def tUn(r:V->Hp->VK->Prop)(ta:TE):TE:=λσ H Q=>ta σ H λx H1=>r x H1 Q
noncomputable def rI(C:Int->Int->Prop)(g:Int->Int->V):R2:=λx y H Q=>∃i j,x=.int i/\y=.int j/\C i j/\Q (g i j) H
noncomputable def rI0(g:Int->Int->V):R2:=λx y H Q=>∃i j,x=.int i/\y=.int j/\Q (g i j) H
noncomputable def rU(g:Int->V):V->Hp->VK->Prop:=λx H Q=>∃i,x=.int i/\Q (g i) H
section
variable{X:Cx}{a b c:Expr}{ta tb tc:TE}{pos:Pos}
theorem binT(ha:PE X a ta)(hb:PE X b tb){pins:List (Addr×Obj)}{s:Shared}{σ:St}{H:Hp}{R:V->V->Hp->Prop}(I:Inv X pins σ H s)(h:ta σ H λx H1=>tb σ H1 λy H2=>R x y H2){Q:Value->Shared->Prop}{f:Value->Value->Sem Value}(hf:∀v u s2 x y H2,Inv X pins σ H2 s2->RelV x v->RelV y u->R x y H2->wpAny (model X.prog X.w) X.A (f v u) Q X.xe s2):
  wpAny (model X.prog X.w) X.A (eval a X.env) (λv s₁=>wpAny (model X.prog X.w) X.A (eval b X.env) (λu s₂=>wpAny (model X.prog X.w) X.A (f v u) Q X.xe s₂) X.xe s₁) X.xe s:=by
 refine thn (ha pins s σ H _ I h) λv s1 ⟨x,H1,I1,r1,q1⟩=>?_
 refine thn (hb pins s1 σ H1 _ I1 q1) λu s2 ⟨y,H2,I2,r2,q2⟩=>?_
 exact hf v u s2 x y H2 I2 r1 r2 q2
theorem Qod{op:Operator}{r:R2}(ho:OpR X (binaryOp op) r)(ha:PE X a ta)(hb:PE X b tb):PE X (.BinOp a op b pos) (tOp r ta tb):=by
 intro pins s σ H Q I h
 exact wpAny_BinOp (binT ha hb I h λv u s2 x y H2 I2 rx ry q=>ho pins s2 σ H2 x y v u Q I2 rx ry q)
theorem Qoe{op:UnaryOp}{r:V->Hp->VK->Prop}(ho:UnR X (unaryOp op) r)(ha:PE X a ta):PE X (.UnaryOp op a pos) (tUn r ta):=by
 intro pins s σ H Q I h
 exact UnaryOp_ (thn (ha pins s σ H _ I h) λv s1 ⟨x,H1,I1,r1,q1⟩=>ho pins s1 σ H1 x v Q I1 r1 q1)
theorem opI{f:Value->Value->Sem Value}{C:Int->Int->Prop}{g:Int->Int->Int}(rule:∀(i j:Int) (t u:Tok) (s:Shared) (Q:Value->Shared->Prop) (E:Value->Shared->Prop),C i j->Q (.int (g i j) s.toks) {s with toks:=s.toks+1}->wpAny (model X.prog X.w) X.A (f (.int i t) (.int j u)) Q E s):
  OpR X f (rI C λi j=>.int (g i j)):=by
 intro pins s σ H x y v u Q I rx ry h
 obtain⟨i,j,rfl,rfl,hc,q⟩:=h
 obtain⟨t,rfl⟩:=rx
 obtain⟨t',rfl⟩:=ry
 exact rule i j t t' s _ _ hc ⟨.int (g i j),H,I.tok _,⟨_,rfl⟩,q⟩
theorem opI0{f:Value->Value->Sem Value}{g:Int->Int->Int}(rule:∀(i j:Int) (t u:Tok) (s:Shared) (Q:Value->Shared->Prop) (E:Value->Shared->Prop),Q (.int (g i j) s.toks) {s with toks:=s.toks+1}->wpAny (model X.prog X.w) X.A (f (.int i t) (.int j u)) Q E s):
  OpR X f (rI0 λi j=>.int (g i j)):=by
 intro pins s σ H x y v u Q I rx ry h
 obtain⟨i,j,rfl,rfl,q⟩:=h
 obtain⟨t,rfl⟩:=rx
 obtain⟨t',rfl⟩:=ry
 exact rule i j t t' s _ _ ⟨.int (g i j),H,I.tok _,⟨_,rfl⟩,q⟩
theorem opB0{f:Value->Value->Sem Value}{g:Int->Int->Bool}(rule:∀(i j:Int) (t u:Tok) (s:Shared) (Q:Value->Shared->Prop) (E:Value->Shared->Prop),Q (.bool (g i j)) s->wpAny (model X.prog X.w) X.A (f (.int i t) (.int j u)) Q E s):
  OpR X f (rI0 λi j=>.bl (g i j)):=by
 intro pins s σ H x y v u Q I rx ry h
 obtain⟨i,j,rfl,rfl,q⟩:=h
 obtain⟨t,rfl⟩:=rx
 obtain⟨t',rfl⟩:=ry
 exact rule i j t t' s _ _ ⟨.bl (g i j),H,I,rfl,q⟩
noncomputable def CDiv(i j:Int):Prop:=0<j/\j<1073741824
noncomputable def CPow(i j:Int):Prop:=0<=j/\j<=1000000/\i.natAbs<2^64
noncomputable def CMul(i j:Int):Prop:=(-(2^64)<i/\i<2^64)\/(-(2^64)<j/\j<2^64)
theorem CMul.ok{i j:Int}(h:CMul i j):IntMulOk i j:=by
 rcases h with⟨h1,h2⟩|⟨h1,h2⟩
 ·exact .of_left (intBits_le_64 h1 h2)
 ·exact .of_right (intBits_le_64 h1 h2)
theorem op_add:OpR X (binaryOp .Add) (rI0 λi j=>.int (i+j)):=opI0 λ_ _ _ _ _ _ _ q=>add_int q
theorem Qmk:OpR X (binaryOp .Sub) (rI0 λi j=>.int (i-j)):=opI0 λ_ _ _ _ _ _ _ q=>sub_int q
theorem op_mul:OpR X (binaryOp .Mult) (rI CMul λi j=>.int (i*j)):=opI λ_ _ _ _ _ _ _ hc q=>mul_int q hc.ok
theorem QkL:OpR X (binaryOp .FloorDiv) (rI CDiv λi j=>.int (i/j)):=opI λi j _ _ _ _ _ hc q=>by
 have h1:(0:Int)<j:=hc.1
 have h2:j<1073741824:=hc.2
 exact floordiv_int (by omega) (by rw[Int.fdiv_eq_ediv_of_nonneg i (by omega)];exact q) (.inl (PyProof.noPylong_small (by omega)))
theorem Qml:OpR X (binaryOp .Mod) (rI (λ_ j=>0<j) λi j=>.int (i%j)):=opI λi j _ _ _ _ _ hc q=>by
 have h1:(0:Int)<j:=hc
 exact mod_int' (by omega) (by rw[Int.fmod_eq_emod_of_nonneg i (by omega)];exact q)
theorem Qmm:OpR X (binaryOp .Pow) (rI CPow λi j=>.int (i^j.toNat)):=opI λ_ _ _ _ _ _ _ hc q=>pow_int_small hc.1 hc.2.1 hc.2.2 q
theorem unI{f:Value->Sem Value}{g:Int->Int}(rule:∀(i:Int) (t:Tok) (s:Shared) (Q:Value->Shared->Prop) (E:Value->Shared->Prop),Q (.int (g i) s.toks) {s with toks:=s.toks+1}->wpAny (model X.prog X.w) X.A (f (.int i t)) Q E s):
  UnR X f (rU λi=>.int (g i)):=by
 intro pins s σ H x v Q I rx h
 obtain⟨i,rfl,q⟩:=h
 obtain⟨t,rfl⟩:=rx
 exact rule i t s _ _ ⟨.int (g i),H,I.tok _,⟨_,rfl⟩,q⟩
theorem Qmn:UnR X (unaryOp .USub) (rU λi=>.int (-i)):=unI λ_ _ _ _ _ q=>neg_int q
end
noncomputable def scal:V->V->Bool
 |.non,.non=>true | .non,.int _=>true | .int _,.non=>true | .non,.bl _=>true | .bl _,.non=>true | .non,.str _=>true | .str _,.non=>true
 |.int _,.int _=>true | .bl _,.bl _=>true | .str _,.str _=>true | .byt _,.byt _=>true
 |.int _,.str _=>true | .str _,.int _=>true | .bl _,.str _=>true | .str _,.bl _=>true
 |_,_=>false
noncomputable def rEq:R2:=λx y H Q=>scal x y=true/\Q (.bl (decide (x=y))) H
noncomputable def rNe:R2:=λx y H Q=>scal x y=true/\Q (.bl (!decide (x=y))) H
theorem QcW{i j:Int}:decide (V.int i=V.int j)=(i == j):=by
 rw[T7]
 simp
theorem Qfo{i j:Bool}:decide (V.bl i=V.bl j)=(i == j):=by
 rw[T7]
 simp
theorem QcX{i j:Str}:decide (V.str i=V.str j)=(i == j):=by
 rw[T7]
 simp
theorem Qg6{i j:Array UInt8}:decide (V.byt i=V.byt j)=(i.toList == j.toList):=by
 rw[T7]
 cases i
 cases j
 simp
section
variable{X:Cx}{a b c:Expr}{ta tb tc:TE}{pos:Pos}
theorem QI{pins:List (Addr×Obj)}{σ:St}{H:Hp}{s:Shared}{Q:VK}{k k':Bool}(I:Inv X pins σ H s)(q:Q (.bl k) H)(e:k=k'):EP X pins σ Q (.bool k') s:=by
 subst e
 exact⟨.bl k,H,I,rfl,q⟩
theorem op_eq:OpR X (compareOp .Eq) rEq:=by
 intro pins s σ H x y v u Q I rx ry h
 obtain⟨hs,q⟩:=h
 cases x with
 |non =>
  cases rx
  cases y with
  |non=>cases ry;exact PySem.EqNone.eq_none_none (QI I q (by simp))
  |bl j=>cases ry;exact PySem.EqNone.eq_none_bool (QI I q (by simp))
  |int j=>obtain⟨t',rfl⟩:=ry;exact PySem.EqNone.eq_none_int (QI I q (by simp))
  |str j=>obtain⟨t',rfl⟩:=ry;exact PySem.EqNone.eq_none_str (QI I q (by simp))
  |_=>exact absurd (show false=true from hs) Ug
 |bl i =>
  cases rx
  cases y with
  |non=>cases ry;exact PySem.EqNone.eq_bool_none (QI I q (by simp))
  |bl j=>cases ry;exact eq_bool (QI I q Qfo)
  |str j=>obtain⟨t',rfl⟩:=ry;exact PySem.EqMixed.eq_bool_str (QI I q (by simp))
  |_=>exact absurd (show false=true from hs) Ug
 |int i =>
  obtain⟨t,rfl⟩:=rx
  cases y with
  |non=>cases ry;exact PySem.EqNone.eq_int_none (QI I q (by simp))
  |int j=>obtain⟨t',rfl⟩:=ry;exact eq_int (QI I q QcW)
  |str j=>obtain⟨t',rfl⟩:=ry;exact PySem.EqMixed.eq_int_str (QI I q (by simp))
  |_=>exact absurd (show false=true from hs) Ug
 |str i =>
  obtain⟨t,rfl⟩:=rx
  cases y with
  |non=>cases ry;exact PySem.EqNone.eq_str_none (QI I q (by simp))
  |bl j=>cases ry;exact PySem.EqMixed.eq_str_bool (QI I q (by simp))
  |int j=>obtain⟨t',rfl⟩:=ry;exact PySem.EqMixed.eq_str_int (QI I q (by simp))
  |str j=>obtain⟨t',rfl⟩:=ry;exact eq_str (QI I q QcX)
  |_=>exact absurd (show false=true from hs) Ug
 |byt i =>
  obtain⟨t,rfl⟩:=rx
  cases y with
  |byt j=>obtain⟨t',rfl⟩:=ry;exact eq_bytes (QI I q Qg6)
  |_=>exact absurd (show false=true from hs) Ug
 |_=>cases y <;> exact absurd (show false=true from hs) Ug
theorem op_ne:OpR X (compareOp .NotEq) rNe:=by
 intro pins s σ H x y v u Q I rx ry h
 obtain⟨hs,q⟩:=h
 cases x with
 |non =>
  cases rx
  cases y with
  |non=>cases ry;exact PySem.EqNone.ne_none_none (QI I q (by simp))
  |bl j=>cases ry;exact PySem.EqNone.ne_none_bool (QI I q (by simp))
  |int j=>obtain⟨t',rfl⟩:=ry;exact PySem.EqNone.ne_none_int (QI I q (by simp))
  |str j=>obtain⟨t',rfl⟩:=ry;exact PySem.EqNone.ne_none_str (QI I q (by simp))
  |_=>exact absurd (show false=true from hs) Ug
 |bl i =>
  cases rx
  cases y with
  |non=>cases ry;exact PySem.EqNone.ne_bool_none (QI I q (by simp))
  |bl j=>cases ry;exact ne_bool (QI I q (Rb not Qfo))
  |str j=>obtain⟨t',rfl⟩:=ry;exact PySem.EqMixed.ne_bool_str (QI I q (by simp))
  |_=>exact absurd (show false=true from hs) Ug
 |int i =>
  obtain⟨t,rfl⟩:=rx
  cases y with
  |non=>cases ry;exact PySem.EqNone.ne_int_none (QI I q (by simp))
  |int j=>obtain⟨t',rfl⟩:=ry;exact ne_int (QI I q (Rb not QcW))
  |str j=>obtain⟨t',rfl⟩:=ry;exact PySem.EqMixed.ne_int_str (QI I q (by simp))
  |_=>exact absurd (show false=true from hs) Ug
 |str i =>
  obtain⟨t,rfl⟩:=rx
  cases y with
  |non=>cases ry;exact PySem.EqNone.ne_str_none (QI I q (by simp))
  |bl j=>cases ry;exact PySem.EqMixed.ne_str_bool (QI I q (by simp))
  |int j=>obtain⟨t',rfl⟩:=ry;exact PySem.EqMixed.ne_str_int (QI I q (by simp))
  |str j=>obtain⟨t',rfl⟩:=ry;exact ne_str (QI I q (Rb not QcX))
  |_=>exact absurd (show false=true from hs) Ug
 |byt i =>
  obtain⟨t,rfl⟩:=rx
  cases y with
  |byt j=>obtain⟨t',rfl⟩:=ry;exact ne_bytes (QI I q (Rb not Qg6))
  |_=>exact absurd (show false=true from hs) Ug
 |_=>cases y <;> exact absurd (show false=true from hs) Ug
theorem Qmo:OpR X (compareOp .Lt) (rI0 λi j=>.bl (decide (i<j))):=opB0 λ_ _ _ _ _ _ _ q=>lt_int q
theorem Qmp:OpR X (compareOp .LtE) (rI0 λi j=>.bl (decide (i<=j))):=opB0 λ_ _ _ _ _ _ _ q=>le_int q
theorem Qmq:OpR X (compareOp .Gt) (rI0 λi j=>.bl (decide (j<i))):=opB0 λ_ _ _ _ _ _ _ q=>gt_int q
theorem Qmr:OpR X (compareOp .GtE) (rI0 λi j=>.bl (decide (j<=i))):=opB0 λ_ _ _ _ _ _ _ q=>ge_int q
theorem Qj3:OpR X (compareOp .Is) (λx y H Q=>y=.non/\Q (.bl (decide (x=.non))) H):=by
 intro pins s σ H x y v u Q I rx ry h
 obtain⟨rfl,q⟩:=h
 cases ry
 refine is_none_gen (QI I q ?_)
 cases x <;> first
  | (cases rx;rfl)
  | (obtain⟨t,rfl⟩:=rx;rfl)
theorem QkM:OpR X (compareOp .IsNot) (λx y H Q=>y=.non/\Q (.bl (!decide (x=.non))) H):=by
 intro pins s σ H x y v u Q I rx ry h
 obtain⟨rfl,q⟩:=h
 cases ry
 refine isnot_none_gen (QI I q ?_)
 cases x <;> first
  | (cases rx;rfl)
  | (obtain⟨t,rfl⟩:=rx;rfl)
theorem OpR.or{f:Value->Value->Sem Value}{r r':R2}(h:OpR X f r)(h':OpR X f r'):OpR X f (λx y H Q=>r x y H Q\/r' x y H Q):=by
 intro pins s σ H x y v u Q I rx ry q
 rcases q with q|q
 ·exact h pins s σ H x y v u Q I rx ry q
 ·exact h' pins s σ H x y v u Q I rx ry q
theorem Jy(b:Expr){op:CmpOp}(h:op≠.In:=by decide)(h2:op≠.NotIn:=by decide):behindInMarks op b=false:=by
 have e1:(op == CmpOp.In)=false:=by cases op <;> first|rfl|exact absurd rfl h
 have e2:(op == CmpOp.NotIn)=false:=by cases op <;> first|rfl|exact absurd rfl h2
 cases b <;> simp[behindInMarks,e1,e2]
theorem QkN{op:CmpOp}{r:R2}(ho:OpR X (compareOp op) r)(ha:PE X a ta)(hb:PE X b tb)(hm:behindInMarks op b=false):PE X (.Compare a [op] [b] pos) (tOp r ta tb):=by
 intro pins s σ H Q I h
 exact wpAny_Compare1 (binT ha hb I h λv u s2 x y H2 I2 rx ry q=>ho pins s2 σ H2 x y v u Q I2 rx ry q) hm
noncomputable def Qof(t:TE):TT:=λσ H Q=>t σ H λx H'=>∃k,x=.bl k/\Q k H'
theorem QkO{op:CmpOp}{r:R2}(ho:OpR X (compareOp op) r)(ha:PE X a ta)(hb:PE X b tb)(hm:behindInMarks op b=false):PT X (.Compare a [op] [b] pos) (Qof (tOp r ta tb)):=by
 intro pins s σ H Q I h
 refine wpAny_isTrue_Compare1 (thn (ha pins s σ H _ I h) λv s1 ⟨x,H1,I1,r1,q1⟩=>thn (hb pins s1 σ H1 _ I1 q1) λu s2 ⟨y,H2,I2,r2,q2⟩ =>
  thn (ho pins s2 σ H2 x y v u _ I2 r1 r2 q2) λc s3 ⟨z,H3,I3,r3,k,e,q3⟩=>?_) hm
 subst e
 cases r3
 exact TK ⟨H3,I3,q3⟩
noncomputable def Qj4(r r':R2)(ta tb tc:TE):TE:=λσ H Q=>ta σ H λx H1=>tb σ H1 λy H2=>r x y H2 λz H3=>∃k,z=.bl k /\
 (if k=true then tc σ H3 λw' H4=>r' y w' H4 Q else Q (.bl false) H3)
theorem QiY{op op':CmpOp}{r r':R2}(ho:OpR X (compareOp op) r)(ho':OpR X (compareOp op') r')(ha:PE X a ta)(hb:PE X b tb)(hc:PE X c tc)(hm:lastMarks [op,op'] [b,c]=false:=by with_unfolding_all rfl):PE X (.Compare a [op,op'] [b,c] pos) (Qj4 r r' ta tb tc):=by
 intro pins s σ H Q I h
 refine Compare_chain (thn (ha pins s σ H _ I h) λv s1 ⟨x,H1,I1,r1,q1⟩=>chain_link (thn (hb pins s1 σ H1 _ I1 q1) λu s2 ⟨y,H2,I2,r2,q2⟩ =>
  thn (ho pins s2 σ H2 x y v u _ I2 r1 r2 q2) λd s3 ⟨z,H3,I3,r3,k,e,q3⟩=>?_)) hm
 subst e
 cases r3
 refine TK ?_
 cases k with
 |false=>exact ite_ff ⟨.bl false,H3,I3,rfl,q3⟩
 |true=>exact ite_tt (chain_last (thn (hc pins s3 σ H3 _ I3 q3) λw' s4 ⟨z',H4,I4,r4,q4⟩=>ho' pins s4 σ H4 y z' u w' Q I4 r2 r4 q4))
theorem QcA:(sizeLine:Nat)<2^63:=by rw[WR];decide
theorem QiZ{x:V}{us:List Value}(r:Vals [x] us):∃u,us=[u]/\RelV x u:=by
 cases r with
 |cons r1 r2=>cases r2;exact⟨_,rfl,r1⟩
theorem Qms{x y:V}{us:List Value}(r:Vals [x,y] us):∃u w',us=[u,w']/\RelV x u/\RelV y w':=by
 cases r with
 |cons r1 r2 =>
  cases r2 with
  |cons r3 r4=>cases r4;exact⟨_,_,rfl,r1,r3⟩
theorem Qg7(hc:X.calm=true):CallR X (.builtin "max") (λxs H Q=>∃i j,xs=[.int i,.int j]/\Q (.int (if j > i then j else i)) H):=by
 intro pins s σ H xs us Q I r h
 obtain⟨i,j,rfl,q⟩:=h
 obtain⟨u,w',rfl,⟨t,rfl⟩,⟨t',rfl⟩⟩:=Qms r
 refine max_two_ints (I.ok.hd hc) λh' tk k=>⟨_,H,I.kept k,?_,q⟩
 by_cases hj:j > i
 ·rw[Ud hj,Ud hj];exact⟨_,rfl⟩
 ·rw[Ue hj,Ue hj];exact⟨_,rfl⟩
theorem Qg8(hc:X.calm=true):CallR X (.builtin "min") (λxs H Q=>∃i j,xs=[.int i,.int j]/\Q (.int (if j<i then j else i)) H):=by
 intro pins s σ H xs us Q I r h
 obtain⟨i,j,rfl,q⟩:=h
 obtain⟨u,w',rfl,⟨t,rfl⟩,⟨t',rfl⟩⟩:=Qms r
 refine min_two_ints (I.ok.hd hc) λh' tk k=>⟨_,H,I.kept k,?_,q⟩
 by_cases hj:j<i
 ·rw[Ud hj,Ud hj];exact⟨_,rfl⟩
 ·rw[Ue hj,Ue hj];exact⟨_,rfl⟩
end
end L2
namespace L2
open PySem PySem.Spec PyProof.Rows
structure ObjM(h:Heap)(x dx C:Addr)(mA:Str->Option Value):Prop where
 obj:h.get? x=some (instObj C dx)
 ns:h.Ns1 dx mA
 ne:dx≠x
theorem Qg9{h:Heap}{dx:Addr}{mA:Str->Option Value}(n:h.Ns1 dx mA):∃od,h.get? dx=some od/\∀name,lookIn name od=some (mA name):=by
 obtain⟨o,es,ep,ho,hd,hk,_,hm⟩:=n
 refine⟨o,ho,λname=>?_⟩
 have e:=hm name
 unfold nsFind findBy at e
 rw[<-Array.find?_toList]at e
 unfold lookIn
 rw[hd]
 dsimp only
 split
 ·rename_i y q
  rw[q]at e
  exact Rb some e
 ·rename_i q
  rw[q]at e
  have a:es.toList.any (·.refKey)=false:=by
   rw[List.any_eq_false]
   intro y hy
   obtain⟨z,t,hkey⟩:=hk y (U9.mp hy)
   simp[DictEntry.refKey,hkey]
  have a':¬es.toList.any (·.refKey)=true:=by rw[a];exact Ug
  rw[Ue a']
  exact Rb some e
theorem ObjM.look{h:Heap}{x dx C:Addr}{mA:Str->Option Value}(I:ObjM h x dx C mA):∃od,PySem.W.InstAt h x (instObj C dx) C (some od)/\∀name,lookIn name od=some (mA name) :=
 let ⟨od,ho,hl⟩:=Qg9 I.ns
 ⟨od,⟨I.obj,rfl,rfl,ho⟩,hl⟩
section
variable{prog:Program}{w:World}{A:Around}{E:Value->Shared->Prop}{s:Shared}{K:PySem.W.Frag}{x dx C f:Addr}{mA:Str->Option Value}{name:Str}{v:Value}
theorem QkP{expr:Bool}{Q:Value->Shared->Prop}(X:K.In s.heap)(I:ObjM s.heap x dx C mA)(hg:plainGet K C name=true)(hh:hasDictIn K C=true)(ha:findIn K (.ref C) name=some none)(hv:mA name=some v)(hv':handedIn v=true)(h:Q v {s with toks:=s.toks+1}):
  wpAny (model prog w) A (getAttr (.ref x) name expr) Q E s:=by
 obtain⟨od,J,hl⟩:=I.look
 exact get_value X J (Wi hg).1 (findObj_own hh ha rfl (by rw[hl,hv])) hv' h
theorem Qi0{pl:Sem Bool}{Q:Value×List Value->Shared->Prop}(X:K.In s.heap)(I:ObjM s.heap x dx C mA)(hg:plainGet K C name=true)(hf:findIn K (.ref C) name=some (some (.ref f)))(ht:isFn K (.ref f)=true)(hv:mA name=none)(h:Q (.ref f,[.ref x]) s):
  wpAny (model prog w) A (getMethod (.ref x) name pl) Q E s:=by
 obtain⟨od,J,hl⟩:=I.look
 exact method_fn X J (Wi hg).1 (Wi hg).2 hf (TR.mp ht) (by show(lookIn name od).map (·.isSome)=some false;rw[hl,hv];rfl) h
theorem QkQ{ns:List Str}{Q:Unit->Shared->Prop}(X:K.In s.heap)(I:ObjM s.heap x dx C mA)(hs:findIn K (.ref C) "__setattr__" = some (some (.builtin "object.__setattr__")))(hp:plainOver K C=true)(ht:takerIn K C name=some none)(hh:hasDictIn K C=true)(hw:PySem.Within mA ns)(hsz:ns.length<=sizeLine)(h:∀h',ObjM h' x dx C (λy=>if y=name then some v else mA y)->Heap.SameBut dx s.heap h'->Q () {s with heap:=h',toks:=s.toks+2}):
  wpAny (model prog w) A (setAttr (.ref x) name v) Q E s:=by
 obtain⟨od,J,hl⟩:=I.look
 refine set_plain X J hs (osa_open (s:={s with toks:=s.toks+1}) (r:=none) X J hp ht λb=>?_)
 obtain⟨cd,hc,hd'⟩:=any_some hh
 have hx:s.heap.get? x=some ⟨.ref C,some dx,.plain,#[]⟩:=I.obj
 refine Ua (Uj (Ua (Ua (wpAny_loadPart hx (Ua (Looks.here (s:={s with toks:=s.toks+1}) (looks_clsIn X hc) ?_))))))
 rw[hd']
 refine Uj (a:=some dx) (Ua (Uj (Ua ?_)))
 refine wpAny_nsSet1 (s:={s with toks:=s.toks+1}) I.ns λh' hn2 hs2=>?_
 obtain⟨oD,esD,epD,hoD,hdD,hcD⟩:=hn2.count (PySem.Within.cons name v hw)
 refine Ua (wpAny_lookBehind hoD (by rw[hdD];exact pastItsLine_dict (Ut hcD (by rw[UQ];omega))) ?_)
 exact Uj (h _ ⟨(hs2.2 _ (Ne.symm I.ne)).trans I.obj,hn2,I.ne⟩ hs2)
theorem Qi1{R:Result->Shared->Prop}{vs:List Value}{kw:List (Str×Value)}(X:K.In s.heap)(hm:makesIn K C=true)(hi:findIn K (.ref C) "__init__" = some (some (.ref f)))(hf:typeIn K (.ref f)=some (.type "function"))(h:codeAny (model prog w) (A.under (.builtin "type.__call__" ⟨.ref C::vs,kw⟩)) (.call (.ref f) ⟨.ref (s.heap.objs.size+1)::vs,kw⟩) (InitBack (s.heap.objs.size+1) R)
   {s with heap:=(s.heap.push emptyDict).push (instObj C s.heap.objs.size)}):
  codeAny (model prog w) A (.call (.ref C) ⟨vs,kw⟩) R s:=by
 obtain⟨hh,g,d,t,os⟩:=s
 exact make_core (makes_of X hm) (looks_findIn X hi) (λself=>bind_fn X self hf) (.inl rfl) h
end
noncomputable def putF(f:Str)(v:V):List (Str×V)->List (Str×V)
 |[]=>[(f,v)]
 | (g,x)::r=>if g=f then (g,v)::r else (g,x)::putF f v r
theorem Qbu(f g:Str)(v:V):∀fs:List (Str×V),(putF f v fs).lookup g=if g=f then some v else fs.lookup g
 |[]=>by
  show List.lookup g [(f,v)]=_
  by_cases h:g=f
  ·have hb:(g == f)=true:=TR.mpr h
   simp only[List.lookup,hb,Ud h]
  ·have hb:(g == f)=false:=Tg.mpr h
   simp only[List.lookup,hb,Ue h]
 | (k,x)::r=>by
  have ih:=Qbu f g v r
  rw[show putF f v ((k,x)::r)=(if k=f then (k,v)::r else (k,x)::putF f v r) from rfl]
  by_cases hk:k=f
  ·rw[Ud hk]
   by_cases h:g=k
   ·have hb:(g == k)=true:=TR.mpr h
    simp only[List.lookup,hb,Ud (h.trans hk)]
   ·have hb:(g == k)=false:=Tg.mpr h
    simp only[List.lookup,hb,Ue (λe:g=f=>h (e.trans hk.symm))]
  ·rw[Ue hk]
   by_cases h:g=k
   ·have hb:(g == k)=true:=TR.mpr h
    simp only[List.lookup,hb,Ue (λe:g=f=>hk (h.symm.trans e))]
   ·have hb:(g == k)=false:=Tg.mpr h
    simp only[List.lookup,hb]
    exact ih
theorem Qbv(f:Str)(v:V):∀fs:List (Str×V),f∈(putF f v fs).map (·.1)/\∀g,g∈fs.map (·.1)->g∈(putF f v fs).map (·.1)
 |[]=>⟨by simp[putF],λg h=>by simp at h⟩
 | (k,x)::r=>by
  obtain⟨i1,i2⟩:=Qbv f v r
  rw[show putF f v ((k,x)::r)=(if k=f then (k,v)::r else (k,x)::putF f v r) from rfl]
  by_cases hk:k=f
  ·rw[Ud hk]
   subst hk
   exact⟨by simp,λg h=>by simpa using h⟩
  ·rw[Ue hk]
   refine⟨?_,λg h=>?_⟩
   ·rw[UH]
    exact Ux _ i1
   ·rw[UH]at h ⊢
    rcases UD.mp h with e|e
    ·exact UD.mpr (.inl e)
    ·exact Ux _ (i2 g e)
theorem Qbw(f:Str)(v:V):∀fs:List (Str×V),(putF f v fs).length<=fs.length+1
 |[]=>by simp[putF]
 | (k,x)::r=>by
  have ih:=Qbw f v r
  rw[show putF f v ((k,x)::r)=(if k=f then (k,v)::r else (k,x)::putF f v r) from rfl]
  by_cases hk:k=f
  ·rw[Ud hk,UQ,UQ];omega
  ·rw[Ue hk,UQ,UQ];omega
theorem RelO.some_of{v:V}{o:Option Value}(r:RelO (some v) o):∃u,o=some u/\RelV v u:=by
 cases o with
 |none=>exact(show False from r).elim
 |some u=>exact⟨u,rfl,r⟩
theorem RelO.none_of{o:Option Value}(r:RelO none o):o=none:=by
 cases o with
 |none=>rfl
 |some u=>exact(show False from r).elim
theorem Qha{v:V}{u:Value}(r:RelV v u):handedIn u=true:=by
 cases v with
 |non=>cases (show u=Value.none from r);rfl
 |bl b=>cases (show u=Value.bool b from r);rfl
 |int i=>obtain⟨t,e⟩:=(show ∃t,u=Value.int i t from r);cases e;rfl
 |str x=>obtain⟨t,e⟩:=(show ∃t,u=Value.str x t from r);cases e;rfl
 |byt b=>obtain⟨t,e⟩:=(show ∃t,u=Value.bytes b t from r);cases e;rfl
 |flt b=>obtain⟨t,e⟩:=(show ∃t,u=Value.float b t from r);cases e;rfl
 |ref a=>cases (show u=Value.ref a from r);rfl
 |ty n=>cases (show u=Value.type n from r);rfl
section
variable{P:Program}{w:World}{H H':Hp}{h h':Heap}{a C dx:Addr}{fs fs':List (Str×V)}
theorem QcY(hok:HOk P w H h)(e:H a=some (.ins C dx fs)):∃mA,ObjM h a dx C mA/\(∀f,RelO (fs.lookup f) (mA f))/\PySem.Within mA (fs.map (·.1))/\fs.length<=1000/\H dx=some (.own a):=by
 obtain⟨d,z,ne,ob,mA,n,r,q⟩:=(show ObjOk P w H h a (.ins C dx fs) from hok a _ e)
 exact⟨mA,⟨ob,n,ne⟩,r,q,z,d⟩
end
structure Cls(K:PySem.W.Frag)(C:Addr):Prop where
 pg:plainGet K C Str.empty=true
 hd:hasDictIn K C=true
 po:plainOver K C=true
 sa:findIn K (.ref C) "__setattr__" = some (some (.builtin "object.__setattr__"))
theorem Cls.get{K:PySem.W.Frag}{C:Addr}(c:Cls K C)(f:Str):plainGet K C f=true:=c.pg
noncomputable def NoAttr(K:PySem.W.Frag)(C:Addr)(f:Str):Prop:=findIn K (.ref C) f=some none
theorem NoAttr.taker{K:PySem.W.Frag}{C:Addr}{f:Str}(n:NoAttr K C f):takerIn K C f=some none:=by
 unfold takerIn
 rw[show findIn K (.ref C) f=some none from n]
 rfl
structure Meth(K:PySem.W.Frag)(C:Addr)(m:Str)(f:Addr):Prop where
 at_:findIn K (.ref C) m=some (some (.ref f))
 fn:isFn K (.ref f)=true
 kp:keepIn K (.ref f)=true
section
variable{X:Cx}{pins:List (Addr×Obj)}{σ:St}{H:Hp}{s:Shared}{a C dx:Addr}{fs:List (Str×V)}{f:Str}{v:V}{A:Around}{E:Value->Shared->Prop}
theorem Qgh{b:Bool}{Q:Value->Shared->Prop}(I:Inv X pins σ H s)(e:H a=some (.ins C dx fs))(c:Cls X.K C)(n:NoAttr X.K C f)(l:fs.lookup f=some v)(h:∀u s',Inv X pins σ H s'->RelV v u->Q u s'):wpAny (model X.prog X.w) A (getAttr (.ref a) f b) Q E s:=by
 obtain⟨mA,O,r,_,_,_⟩:=QcY I.hok e
 obtain⟨u,hu,ru⟩:=RelO.some_of (v:=v) (o:=mA f) (by rw[<-l];exact r f)
 exact QkP I.kIn O (c.get f) c.hd n hu (Qha ru) (h u _ (I.tok _) ru)
theorem QcB{m:Str}{g:Addr}{pl:Sem Bool}{Q:Value×List Value->Shared->Prop}(I:Inv X pins σ H s)(e:H a=some (.ins C dx fs))(c:Cls X.K C)(k:Meth X.K C m g)(l:fs.lookup m=none)(h:Q (.ref g,[.ref a]) s):wpAny (model X.prog X.w) A (getMethod (.ref a) m pl) Q E s:=by
 obtain⟨mA,O,r,_,_,_⟩:=QcY I.hok e
 have hn:mA m=none:=RelO.none_of (by rw[<-l];exact r m)
 exact Qi0 I.kIn O (c.get m) k.at_ k.fn hn h
theorem Qgi{y:V}{u:Value}{Q:Unit->Shared->Prop}(I:Inv X pins σ H s)(e:H a=some (.ins C dx fs))(c:Cls X.K C)(n:NoAttr X.K C f)(hl:fs.length<1000)(ry:RelV y u)(h:∀s',Inv X pins σ (upd H a (.ins C dx (putF f y fs))) s'->Q () s'):wpAny (model X.prog X.w) A (setAttr (.ref a) f u) Q E s:=by
 obtain⟨mA,O,r,wi,_,ho⟩:=QcY I.hok e
 have hz:(fs.map (·.1)).length<=sizeLine:=by rw[Uw,WR];omega
 refine QkQ I.kIn O c.sa c.po n.taker c.hd wi hz λh' O' sb=>h _ ?_
 have hd:∃o,h'.get? dx=some o:=let ⟨o,_,_,e',_⟩:=O'.ns;⟨o,e'⟩
 refine I.write (x:=a) (e:=dx) (by rw[e];exact True.intro) (.inr ho) (λb q hb z=>(sb.2 b hb).trans z) hd ?_
 refine⟨by rw[Qw O.ne];exact ho,?_,O.ne,O'.obj,_,O'.ns,λg=>?_,λg hg=>?_⟩
 ·have:=Qbw f y fs;omega
 ·show RelO ((putF f y fs).lookup g) (if g=f then some u else mA g)
  rw[Qbu]
  by_cases q:g=f
  ·rw[Ud q,Ud q];exact ry
  ·rw[Ue q,Ue q];exact r g
 ·by_cases q:g=f
  ·rw[q];exact(Qbv f y fs).1
  ·refine(Qbv f y fs).2 g (wi g λz=>hg ?_)
   show(if g=f then some u else mA g)=none
   rw[Ue q];exact z
theorem Inv.made(I:Inv X pins σ H s):Inv X pins σ (upd (upd H s.heap.objs.size (.own (s.heap.objs.size+1))) (s.heap.objs.size+1) (.ins C s.heap.objs.size []))
  {s with heap:=(s.heap.push emptyDict).push (instObj C s.heap.objs.size)}:=by
 have e1:(s.heap.push emptyDict).get? s.heap.objs.size=some emptyDict:=Uo s.heap rfl
 have e2:((s.heap.push emptyDict).push (instObj C s.heap.objs.size)).get? (s.heap.objs.size+1)=some (instObj C s.heap.objs.size):=by
  have:=Uo (s.heap.push emptyDict) (o:=instObj C s.heap.objs.size) rfl
  rwa[Tu]at this
 have e3:(s.heap.push emptyDict).Ns s.heap.objs.size (λ_=>none):=⟨emptyDict,#[],_,e1,rfl,(λe he=>absurd he (by simp)),λ_=>rfl⟩
 have I1:=I.laid (a:=s.heap.objs.size) (o:=.own (s.heap.objs.size+1)) (h':=s.heap.push emptyDict) (t':=s.toks) (λb u q=>Ub _ q) (Uc _) ⟨_,e1⟩
 refine I1.laid (a:=s.heap.objs.size+1) (o:=.ins C s.heap.objs.size []) (t':=s.toks) (λb u q=>Ub _ q) (RN (Tu _ _)) ?_
 have ne:s.heap.objs.size≠s.heap.objs.size+1:=UF (TD _)
 refine⟨by rw[Qw ne,Qp],U2 _,ne,e2,λ_=>none,(Heap.Ns1.of_empty e3).at λo q=>Ub _ q,λ_=>True.intro,λy hy=>absurd rfl hy⟩
theorem QkR{prog:Program}{w:World}{env:Env}{e:Expr}{f:Str}{pos:Pos}{s:Shared}{Q:Value->Shared->Prop}(hb:attributeBase e f env (eval e env)=eval e env)(h:wpAny (model prog w) A (eval e env) (λo s₁=>wpAny (model prog w) A (getAttr o f true) Q E s₁) E s):wpAny (model prog w) A (eval (.Attribute e f pos) env) Q E s :=
 Attribute_any_ h (by rw[arm_eval_Attribute,hb])
end
noncomputable def tFld(K:PySem.W.Frag)(ta:TE)(f:Str):TE:=λσ H Q=>ta σ H λx H1=>∃a C dx fs v,x=.ref a/\H1 a=some (.ins C dx fs)/\Cls K C/\NoAttr K C f/\fs.lookup f=some v/\Q v H1
noncomputable def sFld(K:PySem.W.Frag)(ta tv:TE)(f:Str):TS:=λD σ H=>tv σ H λy H1=>ta σ H1 λx H2=>∃a C dx fs,x=.ref a/\H2 a=some (.ins C dx fs)/\Cls K C/\NoAttr K C f/\fs.length<1000 /\
 D.nx σ (upd H2 a (.ins C dx (putF f y fs)))
section
variable{X:Cx}{o e value:Expr}{f:Str}{pos pos' tpos:Pos}{ta tv:TE}
theorem Qmt(he:PE X e ta)(hb:attributeBase e f X.env (eval e X.env)=eval e X.env):PE X (.Attribute e f pos) (tFld X.K ta f):=by
 intro pins s σ H Q I h
 refine QkR hb (thn (he pins s σ H _ I h) λu s1 ⟨x,H1,I1,rx,a,C,dx,fs,v,ex,ea,c,n,l,q⟩=>?_)
 subst ex
 obtain rfl:u=Value.ref a:=rx
 exact Qgh I1 ea c n l λu' s2 I2 ru=>⟨v,H1,I2,ru,q⟩
theorem Qmu(ha:PE X o ta)(hv:PE X value tv)(hs:swapsWith value (some (.Attribute o f pos')) pos.line X.env=pure false):PS X (.Assign [.Attribute o f pos'] value pos) (sFld X.K ta tv f):=by
 intro pins s σ H D I h
 refine plainObj_wpAny_Assign_Attribute (thn (hv pins s σ H _ I h) λu s1 ⟨y,H1,I1,ry,q⟩=>thn (ha pins s1 σ H1 _ I1 q) λov s2 ⟨x,H2,I2,rx,a,C,dx,fs,ex,ea,c,n,l,q2⟩=>?_) hs
 subst ex
 obtain rfl:ov=Value.ref a:=rx
 exact Qgi I2 ea c n l ry λs3 I3=>⟨σ,_,I3,q2⟩
end
section
variable{X:Cx}{pins:List (Addr×Obj)}{σ:St}{H:Hp}{s:Shared}{A:Around}{E:Value->Shared->Prop}{Q:Value->Shared->Prop}{c:Value}{b:Bool}
inductive TyOf(K:PySem.W.Frag)(H:Hp):V->Value->Prop where
 |non:TyOf K H .non (.type "NoneType")
 |bl (x:Bool):TyOf K H (.bl x) (.type "bool")
 |int (i:Int):TyOf K H (.int i) (.type "int")
 |str (x:Str):TyOf K H (.str x) (.type "str")
 |flt (x:UInt64):TyOf K H (.flt x) (.type "float")
 |lst {a:Addr} {xs:List V} (e:H a=some (.lst xs)):TyOf K H (.ref a) (.type "list")
 |frz {a:Addr} {o:Obj} {xs:List V} (e:H a=some (.frz o (.lst xs))):TyOf K H (.ref a) (.type "list")
 |tup {a:Addr} {xs:List V} (e:H a=some (.tup xs)):TyOf K H (.ref a) (.type "tuple")
 |dK {a:Addr} {kvs:List (Key×V)} (e:H a=some (.dK kvs)):TyOf K H (.ref a) (.type "dict")
 |dT {a:Addr} {kvs:List (List Key×V)} (e:H a=some (.dT kvs)):TyOf K H (.ref a) (.type "dict")
 |ins {a C dx:Addr} {fs:List (Str×V)} (e:H a=some (.ins C dx fs)) (cl:Cls K C) (ha:findIn K (.ref C) "__class__" = some (some (.builtin "object.__class__")))
   (hn:specialIn K (.builtin "object.__class__") "__get__" = some (some (.builtin "getset_descriptor.__get__"))) (htk:takesIn K (.builtin "object.__class__")=some true)
   (hm:mroIn K C (.type "object")=some true):TyOf K H (.ref a) (.ref C)
theorem Ja{x:V}{u t:Value}(I:Inv X pins σ H s)(rx:RelV x u)(ty:TyOf X.K H x t)(e:kitOne X.K t c=some b)(h:∀tk,Q (.bool b) {s with toks:=tk}):
  wpAny (model X.prog X.w) A (call (.builtin "isinstance") [u,c]) Q E s:=by
 cases ty with
 |non=>cases (show u=Value.none from rx);exact UY kitx_none I.kIn True.intro e (λz=>nomatch z) h
 |bl y=>cases (show u=Value.bool y from rx);exact UY kitx_bool I.kIn True.intro e (λz=>nomatch z) h
 |int i=>obtain⟨t,q⟩:=(show ∃t,u=Value.int i t from rx);cases q;exact UY kitx_int I.kIn True.intro e (λz=>nomatch z) h
 |str y=>obtain⟨t,q⟩:=(show ∃t,u=Value.str y t from rx);cases q;exact UY kitx_str I.kIn True.intro e (λz=>nomatch z) h
 |flt y=>obtain⟨t,q⟩:=(show ∃t,u=Value.float y t from rx);cases q;exact UY kitx_float I.kIn True.intro e (λz=>nomatch z) h
 |@lst a xs ea =>
  cases (show u=Value.ref a from rx)
  obtain⟨_,_,n,_,h1⟩:=(show ObjOk X.prog X.w H s.heap a (.lst xs) from I.hok a _ ea)
  exact UY Rk I.kIn ⟨_,h1,rfl⟩ e (λz=>nomatch z) h
 |@frz a ob xs ea =>
  cases (show u=Value.ref a from rx)
  obtain⟨_,_,_,n,_,h1⟩:=(show ObjOk X.prog X.w H s.heap a (.frz ob (.lst xs)) from I.hok a _ ea)
  exact UY Rk I.kIn ⟨_,h1,rfl⟩ e (λz=>nomatch z) h
 |@tup a xs ea =>
  cases (show u=Value.ref a from rx)
  obtain⟨_,_,_,p⟩:=(show ObjOk X.prog X.w H s.heap a (.tup xs) from I.hok a _ ea)
  obtain⟨o,h1,h2,_⟩:=p
  exact UY Wu I.kIn ⟨o,h1,h2⟩ e (λz=>nomatch z) h
 |@dK a kvs ea =>
  cases (show u=Value.ref a from rx)
  obtain⟨_,_,vs,_,p⟩:=(show ObjOk X.prog X.w H s.heap a (.dK kvs) from I.hok a _ ea)
  obtain⟨o,es,ep,h1,h2,_⟩:=p
  exact UY WL I.kIn ⟨o,h1,h2.1⟩ e (λz=>nomatch z) h
 |@dT a kvs ea =>
  cases (show u=Value.ref a from rx)
  obtain⟨_,_,xs,_,o,es,ep,h1,h2,_⟩:=(show ObjOk X.prog X.w H s.heap a (.dT kvs) from I.hok a _ ea)
  exact UY WL I.kIn ⟨o,h1,h2.1⟩ e (λz=>nomatch z) h
 |@ins a C dx fs ea cl ha hn htk hm =>
  cases (show u=Value.ref a from rx)
  obtain⟨mA,O,_⟩:=QcY I.hok ea
  obtain⟨od,J,_⟩:=O.look
  exact UY (kitx_own (cl.get _) cl.hd ha hn htk hm) I.kIn J e (λz=>nomatch z) h
end
end L2
namespace L2
open PySem PySem.Spec PyProof.Rows
structure Room(k:Nat)(A:Around):Prop where
 hd:A.handled=none
 dp:A.depth+3*k+5<recursionLimit
 un:A.units+16*k+200<cLine
theorem Room.mono{j k:Nat}{A:Around}(r:Room k A)(h:j<=k):Room j A:=⟨r.hd,by have:=r.dp;omega,by have:=r.un;omega⟩
theorem Room.deeper{k:Nat}{A:Around}(r:Room (k+1) A)(env:Env):Room k (A.deeper env) :=
 ⟨r.hd,by have:=r.dp;show A.depth+1+3*k+5<_;omega,by have:=r.un;show A.units+3+16*k+200<_;omega⟩
theorem Room.in1{k:Nat}{A:Around}(r:Room (k+1) A):Room k A.in1 :=
 ⟨r.hd,by have:=r.dp;show A.depth+3*k+5<_;omega,by have:=r.un;show A.units+1+16*k+200<_;omega⟩
theorem Qgj{A:Around}{C:Addr}{us:List Value}{kw:List (Str×Value)}:(A.under (.builtin "type.__call__" ⟨.ref C::us,kw⟩)).depth=A.depth+1:=by
 first|rfl|simp[Around.under,Code.weight,Code.isCreation,Code.isGuard,Code.isCaller,Code.frames,Code.isFrame,guardIds]
theorem Qgk{A:Around}{C:Addr}{us:List Value}{kw:List (Str×Value)}:(A.under (.builtin "type.__call__" ⟨.ref C::us,kw⟩)).units=A.units+1:=by
 first|rfl|simp[Around.under,Code.cUnits,Code.frames,Code.isFrame]
theorem Room.make{k:Nat}{A:Around}(r:Room (k+1) A)(C:Addr)(us:List Value)(kw:List (Str×Value)):Room k (A.under (.builtin "type.__call__" ⟨.ref C::us,kw⟩)) :=
 ⟨r.hd,by have:=r.dp;rw[Qgj];omega,by have:=r.un;rw[Qgk];omega⟩
theorem Room.depth{k:Nat}{A:Around}(r:Room k A):A.depth<recursionLimit:=by have:=r.dp;omega
theorem Room.units{k:Nat}{A:Around}(r:Room k A):A.units+64<cLine:=by have:=r.un;omega
noncomputable def tNil:TA:=λ_ H Q=>Q [] H
noncomputable def Qog(ta:TE)(tr:TA):TA:=λσ H Q=>ta σ H λx H1=>tr σ H1 λxs H2=>Q (x::xs) H2
section
variable{X:Cx}{e:Expr}{es:List Expr}{te:TE}{t:TA}{pos:Pos}
theorem Qfp:PA X [] tNil:=λ_ _ _ _ H Q I h=>WM ⟨[],H,I,.nil,h⟩
theorem Qah(ha:PE X e te)(hr:PA X es t)(hs:starEach (e::es) X.env=(false,eval e X.env)::starEach es X.env:=by rfl):PA X (e::es) (Qog te t):=by
 intro pos pins s σ H Q I h
 rw[hs]
 show wpAny _ _ (spliced ((false,eval e X.env)::backTo pos (starEach es X.env))) _ _ s
 refine Wv (thn (ha pins s σ H _ I h) λu s1 ⟨x,H1,I1,r1,q1⟩=>?_)
 exact thn (hr pos pins s1 σ H1 _ I1 q1) λus s2 ⟨xs,H2,I2,r2,q2⟩=>⟨x::xs,H2,I2,.cons r1 r2,q2⟩
noncomputable def tTup(t:TA):TE:=λσ H Q=>t σ H λxs H1=>xs.length<=sizeLine/\∀p,H1 p=none->Q (.ref p) (upd H1 p (.tup xs))
noncomputable def tLst(t:TA):TE:=λσ H Q=>t σ H λxs H1=>xs.length<=sizeLine/\∀p,H1 p=none->Q (.ref p) (upd H1 p (.lst xs))
theorem Qj5{x1}(h:PA X es t):PE X (.Tuple es x1 pos) (tTup t):=by
 intro pins s σ H Q I hq
 refine wpAny_Tuple_spliced (thn (h pos pins s σ H _ I hq) λus s1 ⟨xs,H1,I1,r,z,q⟩=>⟨by rw[<-r.length];exact z,?_⟩)
 have hf:H1 s1.heap.objs.size=none:=I1.hok.fresh (Uc _)
 refine⟨.ref s1.heap.objs.size,upd H1 s1.heap.objs.size (.tup xs),I1.laid (t':=s1.toks) (λb u e=>Ub _ e) (Uc _) ?_,rfl,q _ hf⟩
 exact⟨z,us,r,⟨_,Uo _ rfl,rfl,_,rfl⟩⟩
theorem Qmv(h:PA X es t):PE X (.List es pos) (tLst t):=by
 intro pins s σ H Q I hq
 refine wpAny_List_spliced (thn (h pos pins s σ H _ I hq) λus s1 ⟨xs,H1,I1,r,z,q⟩=>⟨by rw[<-r.length];exact z,?_⟩)
 have hf:H1 s1.heap.objs.size=none:=I1.hok.fresh (Uc _)
 refine⟨.ref s1.heap.objs.size,upd H1 s1.heap.objs.size (.lst xs),I1.laid (t':=s1.toks) (λb u e=>Ub _ e) (Uc _) ?_,rfl,q _ hf⟩
 exact⟨z,us,0,r,Uo _ rfl⟩
end
noncomputable abbrev Sp:=List V->Hp->VK->XK->Prop
noncomputable abbrev CXT:=List Env->Hp->Shared->XK->Value->Shared->Prop
structure Env0(P:Program)(w:World)(K:PySem.W.Frag)(mg:Str->Option Value)(base:Heap)(A:Around)(outer:List Env)(s:Shared)(H:Hp):Prop where
 frames:A.frames=some outer
 mod:Mod K mg base
 bs:∀b o,base.get? b=some o->s.heap.get? b=some o/\H b=none
 bsz:base.objs.size<=s.heap.objs.size
 funs:s.heap.FunFrames base outer
 frf:∀b∈frs outer,H b=none
 hok:HOk P w H s.heap
 bare:AllBare s.gens
noncomputable def CE(outer:List Env)(P:Program)(w:World)(H:Hp)(s:Shared)(Q:VK)(u:Value)(s':Shared):Prop :=
 ∃v H',s'.os=s.os/\AllBare s'.gens/\Un (frs outer) [] H H' s.heap s'.heap/\HOk P w H' s'.heap/\RelV v u/\Q v H'
noncomputable def CR(CX:CXT)(outer:List Env)(P:Program)(w:World)(H:Hp)(s:Shared)(Q:VK)(E:XK)(r:Result)(s':Shared):Prop :=
 match r with
 |.ok (.ret u)=>CE outer P w H s Q u s'
 |.ok _=>False
 |.error e=>CX outer H s E e s'
structure FnOk(P:Program)(w:World)(K:PySem.W.Frag)(mg:Str->Option Value)(base:Heap)(CX:CXT)(k:Nat)(f:Addr)(fd:FuncData)(ps:List Str)(sp:Sp):Prop where
 len:∀vs H Q E,sp vs H Q E->vs.length=ps.length
 run:∀(A:Around)(outer:List Env)(s:Shared)(H:Hp)(args:Args)(us:List Value)(vs:List V)(Q:VK)(E:XK),Room k A->Env0 P w K mg base A outer s H->BindsTo s fd args (ps.zip us)->Vals vs us->sp vs H Q E ->
  codeAny (model P w) A (.call (.ref f) args) (CR CX outer P w H s Q E) s
theorem FnOk.mono{P:Program}{w:World}{K:PySem.W.Frag}{mg:Str->Option Value}{base:Heap}{CX:CXT}{j k:Nat}{f:Addr}{fd:FuncData}{ps:List Str}{sp:Sp}(F:FnOk P w K mg base CX j f fd ps sp)(h:j<=k):
  FnOk P w K mg base CX k f fd ps sp:=⟨F.len,λA outer s H args us vs Q E hr=>F.run A outer s H args us vs Q E (hr.mono h)⟩
theorem FnOk.imp{P:Program}{w:World}{K:PySem.W.Frag}{mg:Str->Option Value}{base:Heap}{CX:CXT}{k:Nat}{f:Addr}{fd:FuncData}{ps:List Str}{sp sp':Sp}(F:FnOk P w K mg base CX k f fd ps sp)(h:∀vs H Q E,sp' vs H Q E->sp vs H Q E):FnOk P w K mg base CX k f fd ps sp' :=
 ⟨λvs H Q E q=>F.len vs H Q E (h _ _ _ _ q),λA outer s H args us vs Q E hr he hb hv hs=>F.run A outer s H args us vs Q E hr he hb hv (h _ _ _ _ hs)⟩
theorem Env0.make{P:Program}{w:World}{K:PySem.W.Frag}{mg:Str->Option Value}{base:Heap}{A:Around}{outer:List Env}{s:Shared}{H:Hp}(e:Env0 P w K mg base A outer s H)(C:Addr)(us:List Value)(kw:List (Str×Value)):
  Env0 P w K mg base (A.under (.builtin "type.__call__" ⟨.ref C::us,kw⟩)) outer s H:=⟨by first|exact e.frames|(simpa[Around.under,Code.envs,Code.isFrame,pushEnvs]using e.frames),e.mod,e.bs,e.bsz,e.funs,e.frf,e.hok,e.bare⟩
theorem Env0.in1{P:Program}{w:World}{K:PySem.W.Frag}{mg:Str->Option Value}{base:Heap}{A:Around}{outer:List Env}{s:Shared}{H:Hp}(e:Env0 P w K mg base A outer s H):
  Env0 P w K mg base A.in1 outer s H:=⟨e.frames,e.mod,e.bs,e.bsz,e.funs,e.frf,e.hok,e.bare⟩
section
variable{X:Cx}{pins:List (Addr×Obj)}{σ:St}{H:Hp}{s s':Shared}
theorem Inv.env0(I:Inv X pins σ H s):Env0 X.prog X.w X.K X.mg X.base X.A X.stack s H :=
 ⟨I.ok.frames,I.ok.mod,I.bs,Ut I.ok.bsz I.sz,I.stack,I.stkFree,I.hok,I.bare⟩
theorem Inv.after{Q:VK}{u:Value}(I:Inv X pins σ H s)(h:CE X.stack X.prog X.w H s Q u s'):EP X pins σ Q u s':=by
 obtain⟨v,H',os,bare,un,hok,r,q⟩:=h
 obtain⟨hh,g,d,t,os'⟩:=s'
 obtain rfl:os'=s.os:=os
 exact⟨v,H',I.call (h':=hh) (g':=g) (d':=d) (t':=t) (ch:=[]) un hok bare (λb z=>absurd z (by simp)),r,q⟩
end
noncomputable def Binds(K:PySem.W.Frag)(fd:FuncData)(ps:List Str)(ds:List Value):Prop :=
 ∀(s:Shared)(us:List Value),K.In s.heap->(us++ds).length=ps.length->BindsTo s fd ⟨us,[]⟩ (ps.zip (us++ds))
theorem Binds.all{K:PySem.W.Frag}{fd:FuncData}{ps:List Str}(h:∀us:List Value,us.length=ps.length->bindArgs fd ⟨us,[]⟩=pure (ps.zip us)):Binds K fd ps []:=λs us _ hl=>by
 rw[UJ]at hl ⊢
 exact .of_eq (h us hl)
section
variable{X:Cx}{CX:CXT}{k:Nat}{f C:Addr}{fd:FuncData}{ps:List Str}{sp:Sp}{dvs:List V}{ds:List Value}{E:XK}{x m:Str}{p pos apos:Pos}{e o:Expr}{es:List Expr}{ta:TE}{t:TA}
structure Mk(K:PySem.W.Frag)(C f:Addr):Prop where
 makes:makesIn K C=true
 init:findIn K (.ref C) "__init__" = some (some (.ref f))
 fn:isFn K (.ref f)=true
 kp:keepIn K (.ref C)=true
end
section
variable{X:Cx}{CX:CXT}{k:Nat}{f C:Addr}{fd:FuncData}{ps ks:List Str}{sp:Sp}{E:XK}{x m:Str}{p pos apos kpos:Pos}{e o:Expr}{es:List Expr}{kws:List Keyword}{te ta:TE}{t tk:TA}{nm:Option Str}
variable{g:List Value->List Value->List Value}{gV:List V->List V->List V}
end
structure FnScope(N P:List Str)(sc:Scope):Prop where
 kind:sc.kind=.function
 co:sc.isCoroutine=false
 gen:sc.isGenerator=false
 nd:N.Nodup
 pre:N.take P.length=P
 par:∀x∈P,sc.names.lookup x=some .local\/sc.names.lookup x=some .cell
 nofree:∀y∈sc.names,y.2≠.free
theorem QdK{kindOf:Str->Option NameKind}{x:Str}:∀{binds:List (Str×Value)}{m:Str->Option Value},(∀v,(x,v)∉binds)->bindL kindOf binds m x=m x
 |[],_,_=>rfl
 | (n,v)::r,m,h=>by
  unfold bindL
  rw[QdK λw hw=>h w (Ux _ hw)]
  split
  ·have:x≠n:=by rintro rfl;exact h v Uv
   simp[this]
  ·rfl
theorem QdL{kindOf:Str->Option NameKind}{x:Str}:∀{binds:List (Str×Value)}{m:Str->Option Value},(∀v,(x,v)∉binds)->bindC kindOf binds m x=m x
 |[],_,_=>rfl
 | (n,v)::r,m,h=>by
  unfold bindC
  rw[QdL λw hw=>h w (Ux _ hw)]
  split
  ·rfl
  ·have:x≠n:=by rintro rfl;exact h v Uv
   simp[this]
theorem QdM{kindOf:Str->Option NameKind}{x:Str}{v:Value}:∀{P:List Str}{vs:List Value}{i:Nat}{m:Str->Option Value},P.Nodup->P[i]?=some x->vs[i]?=some v->kindOf x=some .local ->
  bindL kindOf (P.zip vs) m x=some v
 |[],_,_,_,_,h,_,_=>by simp at h
 |_::_,[],_,_,_,_,h,_=>by simp at h
 |p::P,w::vs,0,m,nd,h1,h2,hk=>by
  simp at h1 h2;subst h1;subst h2
  show bindL kindOf ((p,w)::P.zip vs) m p=_
  unfold bindL
  rw[QdK λv hv=>(Wc.mp nd).1 (Bb hv).1,Ud hk]
  simp
 |p::P,w::vs,i+1,m,nd,h1,h2,hk=>by
  show bindL kindOf ((p,w)::P.zip vs) m x=_
  unfold bindL
  exact QdM (i:=i) (Wc.mp nd).2 (by simpa using h1) (by simpa using h2) hk
theorem QdN{kindOf:Str->Option NameKind}{x:Str}{v:Value}:∀{P:List Str}{vs:List Value}{i:Nat}{m:Str->Option Value},P.Nodup->P[i]?=some x->vs[i]?=some v->kindOf x≠some .local ->
  bindC kindOf (P.zip vs) m x=some v
 |[],_,_,_,_,h,_,_=>by simp at h
 |_::_,[],_,_,_,_,h,_=>by simp at h
 |p::P,w::vs,0,m,nd,h1,h2,hk=>by
  simp at h1 h2;subst h1;subst h2
  show bindC kindOf ((p,w)::P.zip vs) m p=_
  unfold bindC
  rw[QdL λv hv=>(Wc.mp nd).1 (Bb hv).1,Ue hk]
  simp
 |p::P,w::vs,i+1,m,nd,h1,h2,hk=>by
  show bindC kindOf ((p,w)::P.zip vs) m x=_
  unfold bindC
  exact QdN (i:=i) (Wc.mp nd).2 (by simpa using h1) (by simpa using h2) hk
noncomputable def start(N:List Str)(vs:List V):St:=vs.map some++List.replicate (N.length-vs.length) none
noncomputable def cxOf(CX:CXT)(P:Program)(w:World)(K:PySem.W.Frag)(mg:Str->Option Value)(base:Heap)(N:List Str)(qual:Str)(scope:Scope)(f:Addr)(cd:Value)(A:Around)(outer:List Env)(s:Shared)(H:Hp)(E:XK):Cx where
 prog:=P
 w:=w
 K:=K
 mg:=mg
 base:=base
 A:=A.deeper (envOfC qual scope s.heap.objs.size f cd)
 N:=N
 s₀:=s
 H₀:=H
 env:=envOfC qual scope s.heap.objs.size f cd
 outer:=outer
 stack:=envOfC qual scope s.heap.objs.size f cd::outer
 ex:=[]
 calm:=true
 fn:=λ_=>true
 pn:=[]
 xe:=λe s'=>wpAny (model P w) (A.deeper (envOfC qual scope s.heap.objs.size f cd)) (leaving (envOfC qual scope s.heap.objs.size f cd) e) (λ_ s''=>CX outer H s E e s'') (λe' s''=>CX outer H s E e' s'') s'
theorem Qfq{sc:Scope}{n:Nat}{x:Str}(h:sc.names.lookup x=some .cell):∃c,(cellsFrom n sc.names []).lookup x=some c:=by
 have q:=W0 sc.names n [] (.inl h)
 exact WQ.mp q
theorem Qhb{CX:CXT}{P:Program}{w:World}{K:PySem.W.Frag}{mg:Str->Option Value}{base:Heap}{N ps:List Str}{qual:Str}{scope:Scope}{f:Addr}{cd:Value}{A:Around}{outer:List Env}{s s1:Shared}{H:Hp}{E:XK}{us:List Value}{vs:List V}(S:FnScope N ps scope)(hd:A.handled=none)(e0:Env0 P w K mg base A outer s H)(hl:vs.length=ps.length)(r:Vals vs us)(x:InCallC s s.heap.objs.size (bindL (envOfC qual scope s.heap.objs.size f cd).kindOf (ps.zip us) λ_=>none) (cellsFrom (s.heap.objs.size+1) scope.names []) (bindC (envOfC qual scope s.heap.objs.size f cd).kindOf (ps.zip us) λ_=>none) s1):
  Inv (cxOf CX P w K mg base N qual scope f cd A outer s H E) [] (start N vs) H s1:=by
 have hpl:ps.length<=N.length:=by have:=Rb List.length S.pre;rw[U5]at this;omega
 obtain⟨h1,tk,rfl,hk⟩:=x.done
 have noA:∀b:Addr,b∉(cxOf CX P w K mg base N qual scope f cd A outer s H E).ex:=λb z=>absurd (show b∈([]:List Addr) from z) (by simp)
 refine⟨⟨e0.mod,S.kind,rfl,rfl,Uc _,λy z c h1 h2=>?_,λy hy=>?_,λy c _ h=>?_,λ_=>hd,Around.frames_deeper e0.frames,.inr ⟨rfl,rfl⟩,λb z=>absurd z (noA b),e0.bs,e0.bsz,λb _ _=>noA b,λb z=>absurd z (noA b),e0.funs,e0.frf⟩,
  rfl,e0.bare,Un.kept hk,⟨_,x.toInCall.ns,λi y v h1 h2 h3=>?_⟩,λy c h=>⟨_,x.cell y c h⟩,e0.hok.fresh (Uc _),λy c h=>?_,λp hp=>absurd (show p∈([]:List (Addr×Obj)) from hp) (by simp),e0.hok.kept hk,?_⟩
 ·exact name_of_addr x.apart (TQ h1) (TQ h2)
 ·have hy:scope.names.lookup y=some .cell\/scope.names.lookup y=some .free:=hy
  rcases hy with hy|hy
  ·exact Qfq hy
  ·exact absurd rfl (S.nofree _ (TQ hy))
 ·exact U3 (x.above y c (TQ h))
 ·have hi:i<vs.length:=by
   unfold start at h2
   by_cases hi:i<vs.length
   ·exact hi
   ·rw[Uu (by simpa using hi)]at h2
    rw[Re]at h2
    split at h2 <;> cases h2
  have ha:vs[i]?=some v:=by
   unfold start at h2
   rw[Uy (by simpa using hi),UA]at h2
   cases e:vs[i]? with
   |none=>rw[e]at h2;cases h2
   |some a=>rw[e]at h2;cases h2;rfl
  obtain⟨u,hu,rv⟩:=r.get ha
  have hp:ps[i]?=some y:=by
   rw[<-S.pre,Rw (by omega)];exact h1
  have ndP:ps.Nodup:=by rw[<-S.pre];exact S.nd.sublist (List.take_sublist _ _)
  refine⟨u,rv,?_⟩
  rcases S.par y (RW hp) with k|k
  ·exact .inl ⟨k,QdM ndP hp hu k⟩
  ·obtain⟨c,e⟩:=Qfq (n:=s.heap.objs.size+1) k
   refine .inr ⟨.inl k,c,e,?_⟩
   have q:=x.cell y c e
   rw[QdN ndP hp hu (by show scope.names.lookup y≠_;rw[k];decide)]at q
   exact q
 ·exact e0.hok.fresh (U3 (x.above y c (TQ h)))
 ·unfold start
  show _=N.length
  rw[Us,Uw,U6]
  omega
theorem QkS{CX:CXT}{P:Program}{w:World}{K:PySem.W.Frag}{mg:Str->Option Value}{base:Heap}{k:Nat}{f:Addr}{name qual:Str}{params:Arguments}{body:List Stmt}{scope:Scope}{dV kV doc pm cdv ct oc:Value}{an od:Option Addr}{osl:Array (Option Value)}{N ps:List Str}{sp:Sp}(lk:K.lookup f=some ⟨oc,od,.func (fnOf name qual params body scope dV kV doc pm an cdv ct),osl⟩)(hcd:codeIn K cdv qual=true)(S:FnScope N ps scope)(len:∀vs H Q E,sp vs H Q E->vs.length=ps.length)(hbody:∀(A:Around) (outer:List Env) (s:Shared) (H:Hp) (vs:List V) (Q:VK) (E:XK),Room k (A.deeper (envOfC qual scope s.heap.objs.size f cdv))->sp vs H Q E ->
   ∃t,PSs (cxOf CX P w K mg base N qual scope f cdv A outer s H E) body t/\t {nx:=λ_ H'=>Q .non H',rt:=Q} (start N vs) H):
  FnOk P w K mg base CX (k+1) f (fnOf name qual params body scope dV kV doc pm an cdv ct) ps sp:=by
 refine⟨len,λA outer s H args us vs Q E hr e0 hb r hsp=>?_⟩
 have hl:=len _ _ _ _ hsp
 have KX:K.In s.heap:=e0.mod.kin.keeps λb o e=>(e0.bs b o e).1
 have lim:s.heap.NoLimit:=e0.mod.nolimit.keeps λb o e=>(e0.bs b o e).1
 have hkind:∀y∈ps.zip us,scope.names.lookup y.1=some .local\/(scope.names.lookup y.1=some .cell/\((cellsFrom (s.heap.objs.size+1) scope.names []).lookup y.1).isSome=true):=λ⟨n,v⟩ hy=>by
  rcases S.par n (Bb hy).1 with q|q
  ·exact .inl q
  ·exact .inr ⟨q,W0 _ _ _ (.inl q)⟩
 refine codeAny_call_function hr.depth (KX _ _ lk) rfl S.co S.gen rfl (codeRec_of KX hcd) (hb _ _ _ _ ?_)
 refine wpAny_newFunctionEnv_cells S.kind hkind λenv he s1 x=>?_
 subst he
 refine⟨lim.keeps x.toInCall.keep,codeAny_func ?_⟩
 obtain⟨t,ht,hq⟩:=hbody A outer s H vs Q E (hr.deeper _) hsp
 have I:Inv (cxOf CX P w K mg base N qual scope f cdv A outer s H E) [] (start N vs) H s1:=Qhb S hr.hd e0 hl r x
 refine Tf (ht [] s1 (start N vs) H _ I hq) (λfl s' hs=>?_) λe s' hs=>hs
 have fin:∀{σ':St}{H':Hp}{v:V}{u:Value},Inv (cxOf CX P w K mg base N qual scope f cdv A outer s H E) [] σ' H' s'->RelV v u->Q v H'->CE outer P w H s Q u s' :=
  λ{σ' H' v u} J rv q=>⟨v,H',J.os,J.bare,J.base,J.hok,rv,q⟩
 cases fl with
 |ret u =>
  obtain⟨v,σ',H',J,rv,q⟩:=hs
  exact fin J rv q
 |next =>
  obtain⟨σ',H',J,q⟩:=hs
  exact fin (v:=V.non) (u:=Value.none) J rfl q
 |brk =>
  obtain⟨_,_,_,q⟩:=hs
  exact False.elim q
 |cont =>
  obtain⟨_,_,_,q⟩:=hs
  exact False.elim q
end L2
namespace L2
open PySem PySem.Spec PyProof.Rows
section
variable{X:Cx}{x:Str}{p pos:Pos}{e:Expr}{es:List Expr}{t:TA}{id T:String}{r:List V->Hp->VK->Prop}
noncomputable def tCB(r:List V->Hp->VK->Prop)(t:TA):TE:=λσ H Q=>t σ H λvs H1=>r vs H1 Q
theorem Qbh(hc:CallR X (.builtin id) r)(hg:Gl X x)(hm:X.mg x=none)(hv:bootBuiltins x=some (.builtin id))(ha:PA X (e::es) t)(hn:x ≠ "__name__":=by decide)(hdb:(x == ("__debug__" : Str))=false:=by decide)(he:starEach (e::es) X.env=(false,eval e X.env)::starEach es X.env:=by rfl)(hpl:(backTo pos (starEach es X.env)).any (·.1)=false:=by rfl):PE X (.Call (.Name x p) (e::es) [] pos) (tCB r t):=by
 intro pins s σ H Q I h
 refine Rg (Qap I hg hm hv ?_ hn hdb)
 exact PyProof.Rows.callWith_builtin1 (thn (ha pos pins s σ H _ I h) λus s1 ⟨vs,H1,I1,r1,q1⟩=>hc pins s1 σ H1 vs us Q I1 r1 q1) he hpl
theorem Qhc(hc:CallR X (.type T) r)(hg:Gl X x)(hm:X.mg x=none)(hv:bootBuiltins x=some (.type T))(ha:PA X (e::es) t)(hn:x ≠ "__name__":=by decide)(hdb:(x == ("__debug__" : Str))=false:=by decide)(he:starEach (e::es) X.env=(false,eval e X.env)::starEach es X.env:=by rfl)(hpl:(backTo pos (starEach es X.env)).any (·.1)=false:=by rfl):PE X (.Call (.Name x p) (e::es) [] pos) (tCB r t):=by
 intro pins s σ H Q I h
 refine Rg (Qap I hg hm hv ?_ hn hdb)
 exact UV (thn (ha pos pins s σ H _ I h) λus s1 ⟨vs,H1,I1,r1,q1⟩=>hc pins s1 σ H1 vs us Q I1 r1 q1) he hpl
end
end L2
namespace HT
open PySem PyProof.Rows
section
open PySem.SeqAt
open PySem.AutoSeq1 (wpAny_loadPart')
open PySem.MeetsSeq PySem.MeetsSeq2 PySem.MeetsSeq3
end
section
variable{prog:Program}{w:World}{A:Around}{E:Value->Shared->Prop}{s:Shared}
theorem cat_tup{t b:Addr}{vs ws:List Value}{Q:Value->Shared->Prop}(ht:IsTup s.heap t vs.toArray)(hb:IsTup s.heap b ws.toArray)(hv:vs≠[])(h1:ws=[]->Q (.ref t) s)(h2:ws≠[]->Q (.ref s.heap.objs.size) {s with heap:=s.heap.push {cls:=.type "tuple",data:=.seq (vs++ws).toArray} })(hsz:vs.length+ws.length<=sizeLine):wpAny (model prog w) A (binaryOp .Add (.ref t) (.ref b)) Q E s:=by
 obtain⟨⟨cls,dd,data,sl⟩,ho,hc,n,hd⟩:=id ht
 obtain⟨⟨cls2,dd2,data2,sl2⟩,ho2,hc2,n2,hd2⟩:=id hb
 simp only at hc hd hc2 hd2
 subst hc hd hc2 hd2
 have e:vs.toArray++ws.toArray=(vs++ws).toArray:=by simp
 by_cases hw:ws=[]
 ·exact concat_meets ⟨_,ho,rfl⟩ ⟨_,ho2,rfl⟩ WX seq_tuple_add RH RC (Rx _ _)
   (tuple_addW1 t b vs.toArray ws.toArray n n2 dd dd2 sl sl2 (by simpa using hv) (by simp[hw])) ⟨ho,ho2,h1 hw⟩
 ·refine concat_meets ⟨_,ho,rfl⟩ ⟨_,ho2,rfl⟩ WX seq_tuple_add RH RC (Rx _ _)
   (tuple_addW2 t b vs.toArray ws.toArray n n2 dd dd2 sl sl2 (by simpa using hv) (by simpa using hw) (by rw[Uf,Uf];exact hsz)) ⟨ho,ho2,?_⟩
  rw[e]
  exact h2 hw
noncomputable def sIx(n d:Nat):Option Int->Nat
 |none=>d
 |some v=>if v<0 then (v+(n:Int)).toNat else min v.toNat n
theorem Qmw(n d:Nat)(hd:d<=n)(o:Option Int):sIx n d o<=n:=by
 cases o with
 |none=>exact hd
 |some v =>
  show(if v<0 then (v+(n:Int)).toNat else min v.toNat n)<=n
  by_cases hv:v<0
  ·rw[Ud hv];omega
  ·rw[Ue hv];exact Nat.min_le_right _ _
theorem Qhd(v:Int)(n d:Nat):(if v<0 then max (v+(n:Int)) 0 else min v (n:Int))=((sIx n d (some v):Nat):Int):=by
 show(if v<0 then max (v+(n:Int)) 0 else min v (n:Int))=(((if v<0 then (v+(n:Int)).toNat else min v.toNat n):Nat):Int)
 by_cases hv:v<0
 ·simp only[Ud hv];omega
 ·simp only[Ue hv];omega
theorem Qgl(lo hi:Option Int)(n:Nat):Builtin.Slice.sliceAdjust lo hi 1 (n:Int)=(((sIx n 0 lo:Nat):Int),((sIx n n hi:Nat):Int)):=by
 have h1:¬((1:Int)<0):=by omega
 unfold Builtin.Slice.sliceAdjust
 simp only[h1,WK]
 refine Prod.ext ?_ ?_
 ·cases lo with
  |none=>rfl
  |some v=>exact Qhd v n 0
 ·cases hi with
  |none=>rfl
  |some v=>exact Qhd v n n
theorem Qgm(i j:Nat):Builtin.Slice.slicePlaces (i:Int) (j:Int) 1=j-i:=by
 unfold Builtin.Slice.slicePlaces
 have h1:(1:Int) > 0:=by omega
 simp only[h1,Wj,Int.ediv_one]
 split <;> omega
theorem QcC{v:Value}{o:Option Int}{Q:Option Int->Shared->Prop}(p:IsPart v o)(h:Q o s):wpAny (model prog w) A (Builtin.Slice.slicePartIndex v) Q E s:=by
 cases p with
 |none=>exact slicePart_none h
 |int i t=>exact slicePart_int h
theorem sliceApplied_gen{sl:Addr}{vl vu:Value}{lo hi:Option Int}{n:Nat}{Q:Int×Int×Nat->Shared->Prop}(hs:s.heap.IsSliceOf sl vl vu .none)(pl:IsPart vl lo)(pu:IsPart vu hi)(h:Q (((sIx n 0 lo:Nat):Int),1,sIx n n hi-sIx n 0 lo) s):wpAny (model prog w) A (Builtin.Slice.sliceApplied (.ref sl) (pure (n:Int))) Q E s:=by
 obtain⟨os,hos,hcs,hds⟩:=id hs
 unfold Builtin.Slice.sliceApplied Builtin.Slice.sliceFields
 refine Ua (Ua (UT hos hds (x:=vl) rfl (Ua (UT hos hds (x:=vu) rfl (Ua (UT hos hds (x:=.none) rfl (Uj ?_)))))))
 refine Ua (slicePart_none ?_)
 show wpAny _ _ (if ((1:Int) == 0)=true then _ else _) _ _ s
 rw[Ue (by decide)]
 refine Ua (QcC pl (Ua (QcC pu (Ua (Uj ?_)))))
 show wpAny _ _ (match Builtin.Slice.sliceAdjust lo hi 1 (n:Int) with|(lo,hi)=>pure (lo,(1:Int),Builtin.Slice.slicePlaces lo hi 1)) _ _ s
 rw[Qgl lo hi n]
 show wpAny _ _ (pure (((sIx n 0 lo:Nat):Int),(1:Int),Builtin.Slice.slicePlaces ((sIx n 0 lo:Nat):Int) ((sIx n n hi:Nat):Int) 1)) _ _ s
 rw[Qgm]
 exact Uj h
theorem Qi2(xs:Array Value)(i k:Nat):((List.range k).filterMap λ(m:Nat)=>xs[((i:Int)+(m:Int)*1).toNat]?).toArray=((xs.toList.drop i).take k).toArray:=by
 have e:(λ(m:Nat)=>xs[((i:Int)+(m:Int)*1).toNat]?)=λm=>xs[i+m]?:=by
  funext m
  have:((i:Int)+(m:Int)*1).toNat=i+m:=by omega
  rw[this]
 rw[e]
 have:=pick_run xs i k
 rw[List.filterMap_map]at this
 have e2:((λx=>xs[x]?) ∘ λx=>i+x)=λm=>xs[i+m]?:=rfl
 rw[e2]at this
 rw[this]
theorem getItem_tuple_cut{t sl:Addr}{items:Array Value}{vl vu:Value}{lo hi:Option Int}{Q:Value->Shared->Prop}(ht:IsTup s.heap t items)(hs:s.heap.IsSliceOf sl vl vu .none)(pl:IsPart vl lo)(pu:IsPart vu hi)(hw:¬(sIx items.size 0 lo=0/\sIx items.size items.size hi=items.size))(h:Q (.ref s.heap.objs.size) {s with heap:=s.heap.push {cls:=.type "tuple",data:=.seq ((items.toList.drop (sIx items.size 0 lo)).take (sIx items.size items.size hi-sIx items.size 0 lo)).toArray} })(hsz:items.size<=sizeLine):wpAny (model prog w) A (getItem (.ref t) (.ref sl)) Q E s:=by
 have htake:sizeOk (.seq ((items.toList.drop (sIx items.size 0 lo)).take (sIx items.size items.size hi-sIx items.size 0 lo)).toArray):=by
  show((items.toList.drop (sIx items.size 0 lo)).take (sIx items.size items.size hi-sIx items.size 0 lo)).toArray.size<=sizeLine
  rw[Uf,U5,TF,Um]
  omega
 have hj:sIx items.size items.size hi<=items.size:=Qmw _ _ (Uc _) hi
 obtain⟨os,hos,hcs,hds⟩:=id hs
 have hTs:s.TypeIs (.ref sl) "slice":=⟨os,hos,hcs⟩
 unfold getItem
 try with_reducible refine TU ?_
 first|refine Ua (Uj ?_)|skip
 refine Ua (wpAny_sequenceKey ht.typeIs (by decide) ?_)
 refine Ua (Tm (name:=Str.ofString "__getitem__") ht.typeIs UW
  (TV UW ht.typeIs entry_tuple_getitem ?_ (args_tuple_getitem _ _)))
 show wpAny _ _ (Builtin.Tuple.tupleItemsOf (.ref t) >>= _) _ _ s
 refine Ua (tupleItemsOf_ ht ?_)
 refine Ua (RO hTs ?_)
 rw[Ud (by decide)]
 refine Ua (sliceApplied_gen hs pl pu ?_)
 have hno:¬((((sIx items.size 0 lo:Nat):Int) == 0 && (1:Int) == 1 && (sIx items.size items.size hi-sIx items.size 0 lo) == items.size)=true):=by
  intro q
  rw[UR,UR]at q
  have q1:((sIx items.size 0 lo:Nat):Int)=0:=eq_of_beq q.1.1
  have q2:sIx items.size items.size hi-sIx items.size 0 lo=items.size:=eq_of_beq q.2
  exact hw ⟨by omega,by omega⟩
 show wpAny _ _ (if (((sIx items.size 0 lo:Nat):Int) == 0 && (1:Int) == 1 && (sIx items.size items.size hi-sIx items.size 0 lo) == items.size)=true then _ else _) _ _ s
 rw[Ue hno,Qi2]
 first
  |exact Ua (m:=Builtin.Tuple.tupleExact _) (U7 (Uj ⟨_,rfl,Uj h⟩) htake)
  |exact Ua (m:=Builtin.Tuple.tupleExact _) (U7 (Ua (Uj (Uj ⟨_,rfl,Uj h⟩))) htake)
  |exact Ua (Ua (m:=Builtin.Tuple.tupleExact _) (U7 (Uj (Uj ⟨_,rfl,Uj h⟩)) htake))
  |exact Ua (Ua (m:=Builtin.Tuple.tupleExact _) (U7 (Uj ⟨_,rfl,Uj h⟩) htake))
end
end HT
namespace L2
open PySem PySem.Spec PyProof.Rows
noncomputable abbrev TO:=St->Hp->(Option Int->Hp->Prop)->Prop
noncomputable def PO(X:Cx)(e:Option Expr)(t:TO):Prop :=
 ∀(pins:List (Addr×Obj))(s:Shared)(σ:St)(H:Hp)(Q:Option Int->Hp->Prop),Inv X pins σ H s->t σ H Q ->
  wpAny (model X.prog X.w) X.A (evalPart e X.env) (λu s'=>∃o H',Inv X pins σ H' s'/\IsPart u o/\Q o H') X.xe s
noncomputable def QkT:TO:=λ_ H Q=>Q none H
noncomputable def Qoh(t:TE):TO:=λσ H Q=>t σ H λx H1=>∃i,x=.int i/\Q (some i) H1
theorem intsAre_of{ns:List Int}:∀{us:List Value},Vals (ns.map V.int) us->IntsAre us ns:=by
 induction ns with
 |nil=>intro us r;rw[List.map_nil]at r;cases r;exact .nil
 |cons n ns ih =>
  intro us r
  rw[UH]at r
  cases r with
  |cons r1 r2 =>
   obtain⟨t,e⟩:=r1
   subst e
   exact .cons n t (ih r2)
section
variable{X:Cx}{e:Expr}{te:TE}{lo hi:Option Expr}{tl th:TO}{pos p2:Pos}
theorem QkU:PO X none QkT:=by
 intro pins s σ H Q I h
 rw[evalPart_none]
 exact Uj ⟨none,H,I,.none,h⟩
theorem QkV(h:PE X e te):PO X (some e) (Qoh te):=by
 intro pins s σ H Q I hw
 rw[evalPart_some]
 refine thn (h pins s σ H _ I hw) λu s1 ⟨x,H1,I1,r1,q1⟩=>?_
 obtain⟨i,rfl,q⟩:=q1
 obtain⟨t,rfl⟩:=r1
 exact⟨some i,H1,I1,.int i t,q⟩
noncomputable def SlR(X:Cx)(r:V->Option Int->Option Int->Hp->VK->Prop):Prop :=
 ∀(pins:List (Addr×Obj))(s:Shared)(σ:St)(H:Hp)(x:V)(v vl vu:Value)(lo hi:Option Int)(sl:Addr)(Q:VK),Inv X pins σ H s->RelV x v->s.heap.IsSliceOf sl vl vu .none->IsPart vl lo->IsPart vu hi->r x lo hi H Q ->
  ∃T id,typeLookup (.type T) "__getitem__" = pure (some (.builtin id))/\s.TypeIs v T/\wpAny (model X.prog X.w) X.A (getItem v (.ref sl)) (EP X pins σ Q) X.xe s
theorem SlR.or{r r':V->Option Int->Option Int->Hp->VK->Prop}(h:SlR X r)(h':SlR X r'):SlR X (λx lo hi H Q=>r x lo hi H Q\/r' x lo hi H Q):=by
 intro pins s σ H x v vl vu lo hi sl Q I rx hs pl pu q
 rcases q with q|q
 ·exact h pins s σ H x v vl vu lo hi sl Q I rx hs pl pu q
 ·exact h' pins s σ H x v vl vu lo hi sl Q I rx hs pl pu q
noncomputable def tSl(r:V->Option Int->Option Int->Hp->VK->Prop)(te:TE)(tl th:TO):TE:=λσ H Q=>te σ H λx H1=>tl σ H1 λl H2=>th σ H2 λu H3=>r x l u H3 Q
theorem Qi3{r:V->Option Int->Option Int->Hp->VK->Prop}(hr:SlR X r)(he:PE X e te)(hl:PO X lo tl)(hu:PO X hi th):PE X (.Subscript e (.Slice lo hi none p2) pos) (tSl r te tl th):=by
 intro pins s σ H Q I h
 refine Subscript_ (thn (he pins s σ H _ I h) λv s1 ⟨x,H1,I1,r1,q1⟩=>?_)
 refine wpAny_Slice (thn (hl pins s1 σ H1 _ I1 q1) λvl s2 ⟨l,H2,I2,pl,q2⟩=>thn (hu pins s2 σ H2 _ I2 q2) λvu s3 ⟨u,H3,I3,pu,q3⟩=>?_)
 rw[evalPart_none]
 refine Uj ?_
 have I4:Inv X pins σ H3 {s3 with heap:=s3.heap.push {cls:=.type "slice",data:=.fields #[vl,vu,.none]} }:=I3.kept (t':=s3.toks) λb ob q=>Ub _ q
 obtain⟨T,id,hT,ht,hg⟩:=hr pins {s3 with heap:=s3.heap.push {cls:=.type "slice",data:=.fields #[vl,vu,.none]} } σ H3 x v vl vu l u s3.heap.objs.size Q I4 r1 (Heap.IsSliceOf.new ..) pl pu q3
 show wpAny (model X.prog X.w) X.A (subscriptTail e (.Slice lo hi none p2) v (.ref s3.heap.objs.size)) (EP X pins σ Q) X.xe {s3 with heap:=s3.heap.push {cls:=.type "slice",data:=.fields #[vl,vu,.none]} }
 exact tail_any (ops:=[.ref s3.heap.objs.size,v]) ht hT hg (by with_unfolding_all rfl)
noncomputable def cutV(xs:List V)(lo hi:Option Int):List V:=(xs.drop (HT.sIx xs.length 0 lo)).take (HT.sIx xs.length xs.length hi-HT.sIx xs.length 0 lo)
theorem Qbx(xs:List V)(lo hi:Option Int):(cutV xs lo hi).length<=xs.length:=by
 unfold cutV
 rw[U5,TF]
 omega
noncomputable def rSlT(K:PySem.W.Frag):V->Option Int->Option Int->Hp->VK->Prop:=λx lo hi H Q=>∃a xs,x=.ref a/\SqT K H a xs /\
 ¬(HT.sIx xs.length 0 lo=0/\HT.sIx xs.length xs.length hi=xs.length)/\∀p,H p=none->Q (.ref p) (upd H p (.tup (cutV xs lo hi)))
theorem sl_tup:SlR X (rSlT X.K):=by
 intro pins s σ H x v vl vu lo hi sl Q I rx hs pl pu h
 obtain⟨a,xs,rfl,hx,hw,q⟩:=h
 cases rx
 obtain⟨its,r,ht,hz⟩:=I.tuple hx
 have hlen:its.toArray.size=xs.length:=by rw[Uf];exact r.length.symm
 refine⟨"tuple",_,UW.lookup,ht.typeIs,?_⟩
 refine HT.getItem_tuple_cut ht hs pl pu (by rw[hlen];exact hw) ?_ (by rw[hlen];exact hz)
 rw[hlen]
 refine⟨.ref s.heap.objs.size,_,I.laid (t':=s.toks) (o:=.tup (cutV xs lo hi)) (λb ob q=>Ub _ q) (Uc _) ?_,rfl,q _ (I.hok.fresh (Uc _))⟩
 exact⟨Ut (Qbx xs lo hi) hz,_,(r.drop (HT.sIx xs.length 0 lo)).take (HT.sIx xs.length xs.length hi-HT.sIx xs.length 0 lo),IsTup.new _ _⟩
noncomputable def Qmx(K:PySem.W.Frag):R2:=λx y H Q=>∃a b xs ys,x=.ref a/\y=.ref b/\SqT K H a xs/\SqT K H b ys/\xs≠[]/\xs.length+ys.length<=sizeLine /\
 (ys=[]->Q (.ref a) H)/\(ys≠[]->∀p,H p=none->Q (.ref p) (upd H p (.tup (xs++ys))))
theorem Vals.nil_iff{xs:List V}{us:List Value}(r:Vals xs us):us=[]↔xs=[]:=by
 cases r with
 |nil=>simp
 |cons _ _=>simp
theorem QkW:OpR X (binaryOp .Add) (Qmx X.K):=by
 intro pins s σ H x y v u Q I rx ry h
 obtain⟨a,b,xs,ys,rfl,rfl,ha,hb,hx,hz,q1,q2⟩:=h
 cases rx
 cases ry
 obtain⟨its,r1,p1,_⟩:=I.tuple ha
 obtain⟨its2,r2,p2,_⟩:=I.tuple hb
 refine HT.cat_tup p1 p2 (λz=>hx (r1.nil_iff.mp z)) (λz=>⟨.ref a,H,I,rfl,q1 (r2.nil_iff.mp z)⟩) (λz=>?_) (by rw[<-r1.length,<-r2.length];exact hz)
 refine⟨.ref s.heap.objs.size,_,I.laid (t':=s.toks) (o:=.tup (xs++ys)) (λb ob q=>Ub _ q) (Uc _) ?_,rfl,q2 (λw=>z (r2.nil_iff.mpr w)) _ (I.hok.fresh (Uc _))⟩
 exact⟨by rw[Us];exact hz,_,r1.append r2,IsTup.new _ _⟩
end
end L2
namespace L2
open PySem PySem.Spec PyProof.Rows
noncomputable def ixN(n:Nat)(i:Int):Option Nat:=if 0<=i then (if i<n then some i.toNat else none) else if -(n:Int)<=i then some (i+n).toNat else none
noncomputable def atI{α:Type}(xs:List α)(i:Int):Option α:=(ixN xs.length i).bind λj=>xs[j]?
theorem Qhe{n:Nat}{i:Int}{j:Nat}(h:ixN n i=some j):seqIndex? i n=some j/\j<n /\ -(n:Int)<=i/\i<n:=by
 unfold ixN at h
 by_cases h0:0<=i
 ·rw[Ud h0]at h
  by_cases h1:i<n
  ·rw[Ud h1]at h
   have e:i.toNat=j:=Option.some.inj h
   exact⟨by rw[seqIndex_of h0 h1,e],by omega,by omega,h1⟩
  ·rw[Ue h1]at h;cases h
 ·rw[Ue h0]at h
  by_cases h1 : -(n:Int)<=i
  ·rw[Ud h1]at h
   have e:(i+n).toNat=j:=Option.some.inj h
   exact⟨by rw[seqIndex_neg (by omega) h1,e],by omega,h1,by omega⟩
  ·rw[Ue h1]at h;cases h
theorem QeE{α:Type}{xs:List α}{i:Int}{v:α}(h:atI xs i=some v):∃j,seqIndex? i xs.length=some j/\xs[j]?=some v/\j<xs.length /\ -(xs.length:Int)<=i/\i<xs.length:=by
 unfold atI at h
 cases e:ixN xs.length i with
 |none=>rw[e]at h;cases h
 |some j =>
  rw[e]at h
  obtain⟨h1,h2,h3,h4⟩:=Qhe e
  exact⟨j,h1,h,h2,h3,h4⟩
noncomputable def QcZ(b:Expr):Prop:=∀o i,subscripted b false o i=operate [o,i] (getItem o i)
noncomputable def IxR(X:Cx)(r:R2):Prop :=
 ∀(value slice:Expr)(pins:List (Addr×Obj))(s:Shared)(σ:St)(H:Hp)(x y:V)(v u:Value)(Q:VK),Inv X pins σ H s->RelV x v->RelV y u->r x y H Q ->
  subscripted slice false v u=operate [v,u] (getItem v u)->wpAny (model X.prog X.w) X.A (subscriptTail value slice v u) (EP X pins σ Q) X.xe s
noncomputable def MtR(X:Cx)(id:String)(r:V->List V->Hp->VK->Prop):Prop :=
 ∀(pins:List (Addr×Obj))(s:Shared)(σ:St)(H:Hp)(x:V)(xs:List V)(v:Value)(us:List Value)(Q:VK),Inv X pins σ H s->RelV x v->Vals xs us->r x xs H Q ->
  wpAny (model X.prog X.w) X.A (call (.builtin id) (v::us)) (EP X pins σ Q) X.xe s
section
variable{X:Cx}{a b:Expr}{ta tb:TE}{pos:Pos}
theorem IxR.or{r r':R2}(h:IxR X r)(h':IxR X r'):IxR X (λx y H Q=>r x y H Q\/r' x y H Q):=by
 intro value slice pins s σ H x y v u Q I rx ry q hs
 rcases q with q|q
 ·exact h value slice pins s σ H x y v u Q I rx ry q hs
 ·exact h' value slice pins s σ H x y v u Q I rx ry q hs
theorem MtR.or{id:String}{r r':V->List V->Hp->VK->Prop}(h:MtR X id r)(h':MtR X id r'):MtR X id (λx xs H Q=>r x xs H Q\/r' x xs H Q):=by
 intro pins s σ H x xs v us Q I rx rs q
 rcases q with q|q
 ·exact h pins s σ H x xs v us Q I rx rs q
 ·exact h' pins s σ H x xs v us Q I rx rs q
theorem Qoi{r:R2}(hr:IxR X r)(ha:PE X a ta)(hb:PE X b tb)(hs:QcZ b):PE X (.Subscript a b pos) (tOp r ta tb):=by
 intro pins s σ H Q I h
 exact Subscript_ (binT ha hb I h λv u s2 x y H2 I2 rx ry q=>hr a b pins s2 σ H2 x y v u Q I2 rx ry q (hs _ _))
noncomputable def rIxL(K:PySem.W.Frag):R2:=λx y H Q=>∃p xs i v,x=.ref p/\y=.int i/\SqL K H p xs/\atI xs i=some v/\Q v H
noncomputable def rIxT(K:PySem.W.Frag):R2:=λx y H Q=>∃p xs i v,x=.ref p/\y=.int i/\SqT K H p xs/\atI xs i=some v/\Q v H
noncomputable def rIxS:R2:=λx y H Q=>∃z i c,x=.str z/\y=.int i/\z.length<=sizeLine/\atI z.cps.toList i=some c/\Q (.str ⟨#[c]⟩) H
theorem ix_list:IxR X (rIxL X.K):=by
 intro value slice pins s σ H x y v u Q I rx ry h hs
 obtain⟨p,xs,i,z,rfl,rfl,hq,he,q⟩:=h
 cases rx
 obtain⟨t,rfl⟩:=ry
 obtain⟨its,r,pl,hz⟩:=I.list hq
 obtain⟨j,h1,h2,h3,h4,h5⟩:=QeE he
 obtain⟨w,ew,rw'⟩:=r.get h2
 have hl:=r.length
 have hn:=QcA
 have fin:EP X pins σ Q w s:=⟨z,H,I,rw',q⟩
 by_cases h0:0<=i
 ·have hj:i.toNat=j:=by
   rw[seqIndex_of h0 h5]at h1
   exact Option.some.inj h1
  exact item_listR pl.isList h0 (by omega) (by rw[hj];simpa using ew) fin hs
 ·have hj:(i+(its.toArray.size:Int)).toNat=j:=by
   rw[seqIndex_neg (by omega) h4]at h1
   rw[Uf,<-hl]
   exact Option.some.inj h1
  exact subscriptTail_builtinR (x:=w) pl.isList.typeIs slot_list_getitem.lookup
   (wpAny_getItem_list_neg (Q:=λr s'=>r=w/\EP X pins σ Q r s') pl.isList (by omega) (by rw[Uf] <;> omega) (by omega) (by rw[hj];simpa using ew) ⟨rfl,fin⟩) hs
theorem ix_tup:IxR X (rIxT X.K):=by
 intro value slice pins s σ H x y v u Q I rx ry h hs
 obtain⟨p,xs,i,z,rfl,rfl,hq,he,q⟩:=h
 cases rx
 obtain⟨t,rfl⟩:=ry
 obtain⟨its,r,pl,hz⟩:=I.tuple hq
 obtain⟨j,h1,h2,h3,h4,h5⟩:=QeE he
 obtain⟨w,ew,rw'⟩:=r.get h2
 have hl:=r.length
 have hn:=QcA
 have fin:EP X pins σ Q w s:=⟨z,H,I,rw',q⟩
 exact subscriptTail_builtinR (x:=w) pl.typeIs slot_tuple_getitem.lookup
  (getItem_tuple (j:=j) (Q:=λr s'=>r=w/\EP X pins σ Q r s') pl (by omega) (by omega) (by rw[Uf,<-hl];exact h1) (by simpa using ew) ⟨rfl,fin⟩) hs
theorem Qmy:IxR X rIxS:=by
 intro value slice pins s σ H x y v u Q I rx ry h hs
 obtain⟨z,i,c,rfl,rfl,hz,he,q⟩:=h
 obtain⟨t,rfl⟩:=rx
 obtain⟨t',rfl⟩:=ry
 obtain⟨j,h1,h2,h3,h4,h5⟩:=QeE he
 have hl:z.cps.toList.length=z.length:=by simp[Str.length]
 rw[hl]at h1 h4 h5
 have hn:=QcA
 exact tail_any (typeIs_str s z t) slot_str_getitem.lookup (getItem_str (c:=c) (by
  have e1:decide (i < -(2^63:Int))=false:=UB (by omega)
  have e2:decide (i>=2^63)=false:=UB (by omega)
  rw[e1,e2,Bool.or_false]) (by rw[h1];simpa using h2) ⟨.str ⟨#[c]⟩,H,I.tok _,⟨_,rfl⟩,q⟩) hs
noncomputable def rIx(K:PySem.W.Frag):R2:=λx y H Q=>rIxL K x y H Q\/rIxT K x y H Q\/rIxS x y H Q
theorem Qmz:IxR X (rIx X.K):=ix_list.or (ix_tup.or Qmy)
theorem Qgn(its:List Value)(n j:Nat)(u:Value):Obj.mapSeq (·.setIfInBounds j u) {cls:=.type "list",data:=.seq its.toArray n} = {cls:=.type "list",data:=.seq (its.set j u).toArray n}:=by
 simp[Obj.mapSeq]
theorem Inv.lst{pins:List (Addr×Obj)}{σ:St}{H:Hp}{s:Shared}{p:Addr}{xs:List V}(I:Inv X pins σ H s)(h:H p=some (.lst xs)):
  ∃(its:List Value)(n:Nat),Vals xs its/\s.heap.get? p=some {cls:=.type "list",data:=.seq its.toArray n}/\xs.length<=sizeLine:=by
 obtain⟨z,its,n,r,e⟩:=I.hok p _ h
 exact⟨its,n,r,e,z⟩
theorem Inv.lstUpd{pins:List (Addr×Obj)}{σ:St}{H:Hp}{s:Shared}{p:Addr}{xs ys:List V}{its its':List Value}{n n':Nat}{f:Obj->Obj}(I:Inv X pins σ H s)(h:H p=some (.lst xs))(ho:s.heap.get? p=some {cls:=.type "list",data:=.seq its.toArray n})(hf:f {cls:=.type "list",data:=.seq its.toArray n} = {cls:=.type "list",data:=.seq its'.toArray n'})(r:Vals ys its')(hz:ys.length<=sizeLine)(t:Nat):
  Inv X pins σ (upd H p (.lst ys)) {s with heap:=s.heap.update p f,toks:=t}:=by
 have e:(s.heap.update p f).get? p=some {cls:=.type "list",data:=.seq its'.toArray n'}:=by
  rw[Rj f ho (by rw[hf] <;> rfl),hf]
 refine I.write (x:=p) (e:=p) (by rw[h];trivial) (.inl rfl) (λb u hb q=>(U1 _ _ (Ne.symm hb)).trans q) ⟨_,e⟩ ?_
 exact⟨hz,its',n',r,e⟩
noncomputable def Qoj:V->V->V->Hp->(Hp->Prop)->Prop:=λo i v H Q=>∃p xs k j,o=.ref p/\i=.int k/\H p=some (.lst xs)/\ixN xs.length k=some j/\Q (upd H p (.lst (xs.set j v)))
theorem Qi4:PSet X Qoj:=by
 intro pins s σ H o i v ov iv u Q I ro ri rv h
 obtain⟨p,xs,k,j,rfl,rfl,hp,hj,q⟩:=h
 cases ro
 obtain⟨t,rfl⟩:=ri
 obtain⟨its,n,r,ho,hz⟩:=I.lst hp
 obtain⟨h1,h2,h3,h4⟩:=Qhe hj
 have hl:=r.length
 have hn:=QcA
 have I':Inv X pins σ (upd H p (.lst (xs.set j v))) {s with heap:=s.heap.update p (Obj.mapSeq (·.setIfInBounds j u))} :=
  I.lstUpd hp ho (Qgn its n j u) (r.set rv j) (by rw[T8];exact hz) s.toks
 by_cases h0:0<=k
 ·have hk:k.toNat=j:=by
   rw[seqIndex_of h0 h4]at h1
   exact Option.some.inj h1
  exact ki_setAt ho h0 (by omega) (by rw[Uf,<-hl];exact h4) (by rw[hk];exact⟨_,I',q⟩)
 ·have hk:(k+(its.toArray.size:Int)).toNat=j:=by
   rw[seqIndex_neg (by omega) h3]at h1
   rw[Uf,<-hl]
   exact Option.some.inj h1
  exact ki_setBack ho (by omega) (by rw[Uf,<-hl];exact h3) (by omega) (by rw[hk];exact⟨_,I',q⟩)
theorem QdO(lo hi:Option Int)(n:Nat):(sliceBounds lo hi none n).1=((HT.sIx n 0 lo:Nat):Int)/\(sliceBounds lo hi none n).2.1=((HT.sIx n n hi:Nat):Int)/\(sliceBounds lo hi none n).2.2=1:=by
 refine⟨?_,?_,rfl⟩
 ·cases lo with
  |none=>simp[sliceBounds,HT.sIx]
  |some i =>
   simp only[sliceBounds,HT.sIx,Option.getD_none,show(1:Int) > 0 by decide,Wj]
   by_cases h:i<0
   ·simp only[h,Wj] <;> omega
   ·simp only[h,WK] <;> omega
 ·cases hi with
  |none=>simp[sliceBounds,HT.sIx]
  |some i =>
   simp only[sliceBounds,HT.sIx,Option.getD_none,show(1:Int) > 0 by decide,Wj]
   by_cases h:i<0
   ·simp only[h,Wj] <;> omega
   ·simp only[h,WK] <;> omega
theorem Qc0(its:List Value)(lo hi:Option Int):slicePick its.toArray lo hi none=((its.drop (HT.sIx its.length 0 lo)).take (HT.sIx its.length its.length hi-HT.sIx its.length 0 lo)).toArray:=by
 obtain⟨h1,h2,h3⟩:=QdO lo hi its.toArray.size
 unfold slicePick
 rw[h1,h2,h3]
 simp only[sliceRange_one,pick_run,Uf] <;> rfl
noncomputable def rSlL(K:PySem.W.Frag):V->Option Int->Option Int->Hp->VK->Prop:=λx lo hi H Q=>∃a xs,x=.ref a/\SqL K H a xs/\∀p,H p=none->Q (.ref p) (upd H p (.lst (cutV xs lo hi)))
theorem QkX:SlR X (rSlL X.K):=by
 intro pins s σ H x v vl vu lo hi sl Q I rx hs pl pu h
 obtain⟨a,xs,rfl,hx,q⟩:=h
 cases rx
 obtain⟨its,r,ht,hz⟩:=I.list hx
 have hlen:=r.length
 refine⟨"list",_,slot_list_getitem.lookup,ht.isList.typeIs,?_⟩
 refine wpAny_getItem_list_slice ht.isList hs pl pu .none (by simp) ?_ (by rw[Uf] <;> omega)
 rw[Qc0,<-hlen]
 refine⟨.ref s.heap.objs.size,_,I.laid (t':=s.toks) (o:=.lst (cutV xs lo hi)) (λb ob q=>Ub _ q) (Uc _) ?_,rfl,q _ (I.hok.fresh (Uc _))⟩
 exact⟨Ut (Qbx xs lo hi) hz,_,0,(r.drop (HT.sIx xs.length 0 lo)).take (HT.sIx xs.length xs.length hi-HT.sIx xs.length 0 lo),Uo _ rfl⟩
noncomputable def Qcm:V->Bool
 |.non=>true
 |.bl _=>true
 |.int _=>true
 |.str _=>true
 |_=>false
noncomputable def eqV:V->V->Bool
 |.non,.non=>true
 |.bl a,.bl b=>a == b
 |.bl a,.int b=>(if a then 1 else 0) == b
 |.int a,.bl b=>a == (if b then 1 else 0)
 |.int a,.int b=>a == b
 |.str a,.str b=>a == b
 |_,_=>false
theorem QmA{A:Around}{s:Shared}{y x:V}{u v:Value}(ry:RelV y u)(rx:RelV x v)(fy:Qcm y=true)(fx:Qcm x=true):SeqAt.EqAt A s u v (eqV y x):=by
 cases y with
 |non =>
  cases ry
  cases x with
  |non=>cases rx;exact SeqAt.EqAt.same _
  |bl b=>cases rx;exact SeqAt.EqAt.none_bool b
  |int b=>obtain⟨t,rfl⟩:=rx;exact SeqAt.EqAt.none_int b t
  |str b=>obtain⟨t,rfl⟩:=rx;exact SeqAt.EqAt.none_str b t
  |_=>exact absurd (show false=true from fx) Ug
 |bl a =>
  cases ry
  cases x with
  |non=>cases rx;exact SeqAt.EqAt.bool_none a
  |bl b=>cases rx;exact SeqAt.EqAt.bool_bool a b
  |int b=>obtain⟨t,rfl⟩:=rx;exact SeqAt.EqAt.bool_int a b t
  |str b=>obtain⟨t,rfl⟩:=rx;exact SeqAt.EqAt.bool_str a b t
  |_=>exact absurd (show false=true from fx) Ug
 |int a =>
  obtain⟨t',rfl⟩:=ry
  cases x with
  |non=>cases rx;exact SeqAt.EqAt.int_none a t'
  |bl b=>cases rx;exact SeqAt.EqAt.int_bool a t' b
  |int b=>obtain⟨t,rfl⟩:=rx;exact Ww a t' b t
  |str b=>obtain⟨t,rfl⟩:=rx;exact SeqAt.EqAt.int_str a t' b t
  |_=>exact absurd (show false=true from fx) Ug
 |str a =>
  obtain⟨t',rfl⟩:=ry
  cases x with
  |non=>cases rx;exact SeqAt.EqAt.str_none a t'
  |bl b=>cases rx;exact SeqAt.EqAt.str_bool a t' b
  |int b=>obtain⟨t,rfl⟩:=rx;exact SeqAt.EqAt.str_int a t' b t
  |str b=>obtain⟨t,rfl⟩:=rx;exact SeqAt.EqAt.str_str a t' b t
  |_=>exact absurd (show false=true from fx) Ug
 |_=>exact absurd (show false=true from fy) Ug
noncomputable def eqU(x:V)(u:Value):Bool:=match u with
 |.none=>eqV .non x
 |.bool b=>eqV (.bl b) x
 |.int i _=>eqV (.int i) x
 |.str z _=>eqV (.str z) x
 |_=>false
theorem Qj6{x y:V}{u:Value}(r:RelV y u)(f:Qcm y=true):eqU x u=eqV y x:=by
 cases y with
 |non=>cases r;rfl
 |bl b=>cases r;rfl
 |int i=>obtain⟨t,rfl⟩:=r;rfl
 |str z=>obtain⟨t,rfl⟩:=r;rfl
 |_=>exact absurd (show false=true from f) Ug
theorem QeF{x:V}:∀{xs:List V}{us:List Value},Vals xs us->xs.all Qcm=true->us.any (eqU x)=xs.any λy=>eqV y x
 |_,_,.nil,_=>rfl
 |y::xs,u::us,.cons r t,f=>by
  rw[RX,UR]at f
  rw[TW,TW,Qj6 r f.1,QeF t f.2]
theorem Qc1{A:Around}{s:Shared}{x:V}{v:Value}(rx:RelV x v)(fx:Qcm x=true):∀{xs:List V}{us:List Value},Vals xs us->xs.all Qcm=true->∀u∈us,SeqAt.EqAt A s u v (eqU x u)
 |_,_,.nil,_=>λu hu=>by cases hu
 |y::xs,u::us,.cons r t,f=>λu' hu=>by
  rw[RX,UR]at f
  rcases UD.mp hu with rfl|hu
  ·rw[Qj6 r f.1];exact QmA r rx f.1 fx
  ·exact Qc1 rx fx t f.2 u' hu
noncomputable def inV(x:V)(xs:List V):Bool:=xs.any λy=>eqV y x
noncomputable def rIn(K:PySem.W.Frag)(neg:Bool):R2:=λx y H Q=>∃p xs,y=.ref p/\(SqL K H p xs\/SqT K H p xs)/\Qcm x=true/\xs.all Qcm=true/\Q (.bl (if neg then !inV x xs else inV x xs)) H
theorem Qhf:OpR X (compareOp .In) (rIn X.K false):=by
 intro pins s σ H x y v u Q I rx ry h
 obtain⟨p,xs,rfl,hq,fx,fs,q⟩:=h
 cases ry
 rcases hq with hq|hq
 ·obtain⟨its,r,pl,hz⟩:=I.list hq
  refine SeqAt.in_listAt (eqU x) pl.isList (λw hw=>Qc1 rx fx r fs w (by simpa using hw)) ⟨.bl _,H,I,rfl,?_⟩
  rw[show its.toArray.any (eqU x)=its.any (eqU x) by simp,QeF r fs]
  exact q
 ·obtain⟨its,r,pl,hz⟩:=I.tuple hq
  refine SeqAt.in_tupleAt (eqU x) pl (λw hw=>Qc1 rx fx r fs w (by simpa using hw)) ⟨.bl _,H,I,rfl,?_⟩
  rw[show its.toArray.any (eqU x)=its.any (eqU x) by simp,QeF r fs]
  exact q
theorem QdP:CallR X (.builtin "len") (λxs H Q=>∃p ys,xs=[.ref p]/\(SqL X.K H p ys\/SqT X.K H p ys)/\Q (.int ys.length) H):=by
 intro pins s σ H xs us Q I r h
 obtain⟨p,ys,rfl,hq,q⟩:=h
 obtain⟨u,rfl,rx⟩:=QiZ r
 cases rx
 have hn:=QcA
 rcases hq with hq|hq
 ·obtain⟨its,r',pl,hz⟩:=I.list hq
  have hlen:=r'.length
  exact Calls.call_len_list pl.isList (by simp only[Uf] <;> omega) ⟨.int ys.length,H,I.tok _,⟨s.toks+1,by rw[Uf,hlen]⟩,q⟩
 ·obtain⟨its,r',pl,hz⟩:=I.tuple hq
  have hlen:=r'.length
  exact len_tuple pl (by simp only[Uf] <;> omega) ⟨.int ys.length,H,I.tok _,⟨s.toks+1,by rw[Uf,hlen]⟩,q⟩
theorem CallR.or{f:Value}{r r':List V->Hp->VK->Prop}(h:CallR X f r)(h':CallR X f r'):CallR X f (λxs H Q=>r xs H Q\/r' xs H Q):=by
 intro pins s σ H xs us Q I rs q
 rcases q with q|q
 ·exact h pins s σ H xs us Q I rs q
 ·exact h' pins s σ H xs us Q I rs q
theorem QdQ:CallR X (.type "list") (λxs H Q=>∃p ys,xs=[.ref p]/\(SqL X.K H p ys\/SqT X.K H p ys)/\∀l,H l=none->Q (.ref l) (upd H l (.lst ys))):=by
 intro pins s σ H xs us Q I r h
 obtain⟨p,ys,rfl,hq,q⟩:=h
 obtain⟨u,rfl,rx⟩:=QiZ r
 cases rx
 have fin:∀(its:List Value),Vals ys its->ys.length<=sizeLine->∀(h':Heap)(c':Nat),(∀b o',s.heap.get? b=some o'->h'.get? b=some o') ->
   h'.get? s.heap.objs.size=some {cls:=.type "list",dict:=none,data:=.seq its.toArray c',slots:=#[]}->EP X pins σ Q (.ref s.heap.objs.size) {s with heap:=h'}:=λits r' hz h' c' kp e =>
  ⟨.ref s.heap.objs.size,_,I.laid (t':=s.toks) kp (Uc _) (show ObjOk X.prog X.w _ h' _ (.lst ys) from ⟨hz,its,c',r',e⟩),rfl,q _ (I.hok.fresh (Uc _))⟩
 rcases hq with hq|hq
 ·obtain⟨its,r',pl,hz⟩:=I.list hq
  have hlen:=r'.length
  obtain⟨o,ho,hc,n,hd⟩:=pl.isList
  exact call_list_seq p (.inl rfl) ho hc hd (λh' c' kp e=>fin its r' hz h' c' kp e) (by simp only[Uf] <;> omega)
 ·obtain⟨its,r',pl,hz⟩:=I.tuple hq
  have hlen:=r'.length
  obtain⟨o,ho,hc,n,hd⟩:=pl
  exact call_list_seq p (.inr rfl) ho hc hd (λh' c' kp e=>fin its r' hz h' c' kp e) (by simp only[Uf] <;> omega)
theorem Qc2:CallR X (.type "tuple") (λxs H Q=>∃p ys,xs=[.ref p]/\((SqL X.K H p ys/\∀l,H l=none->Q (.ref l) (upd H l (.tup ys)))\/(SqT X.K H p ys/\Q (.ref p) H))):=by
 intro pins s σ H xs us Q I r h
 obtain⟨p,ys,rfl,h⟩:=h
 obtain⟨u,rfl,rx⟩:=QiZ r
 cases rx
 rcases h with⟨hq,q⟩|⟨hq,q⟩
 ·obtain⟨its,r',pl,hz⟩:=I.list hq
  have hlen:=r'.length
  refine call_tuple_list pl.isList (λh' kp=>?_) (by simp only[Uf] <;> omega)
  have I1:Inv X pins σ H {s with heap:=h'}:=I.kept (t':=s.toks) kp
  have I2:Inv X pins σ (upd H h'.objs.size (.tup ys)) {s with heap:=h'.push {cls:=.type "tuple",data:=.seq its.toArray} } :=
   I1.laid (t':=s.toks) (λb o e=>Ub _ e) (Uc _) (show ObjOk X.prog X.w _ _ _ (.tup ys) from ⟨hz,its,r',IsTup.new _ _⟩)
  exact⟨.ref h'.objs.size,_,I2,rfl,q _ (I1.hok.fresh (Uc _))⟩
 ·obtain⟨its,r',pl,hz⟩:=I.tuple hq
  exact call_tuple_same pl ⟨.ref p,H,I,rfl,q⟩
noncomputable def tyV(K:PySem.W.Frag)(T:String)(x:V)(H:Hp):Prop:=match x with
 |.str _=>T = "str"
 |.int _=>T = "int"
 |.ref p=>(T = "list" /\ ∃xs,SqL K H p xs)\/(T = "tuple" /\ ∃o,K.lookup p=some o/\o.cls=.type "tuple" /\ o.dict=none) \/
   (T = "dict" /\ ((∃kvs,H p=some (.dK kvs))\/∃kvs,H p=some (.dT kvs)))\/(T = "set" /\ ∃S n,H p=some (.set S n))
 |_=>False
theorem Qj7{pins:List (Addr×Obj)}{σ:St}{H:Hp}{s:Shared}{T:String}{x:V}{v:Value}(I:Inv X pins σ H s)(r:RelV x v)(ty:tyV X.K T x H):
  s.TypeIs v T/\∀a,v=.ref a->∃ob,s.heap.get? a=some ob/\ob.dict=none:=by
 cases x with
 |str z =>
  obtain⟨t,rfl⟩:=r
  cases (show T = "str" from ty)
  exact⟨typeIs_str s z t,λ_ e=>nomatch e⟩
 |int i =>
  obtain⟨t,rfl⟩:=r
  cases (show T = "int" from ty)
  exact⟨typeIs_int s i t,λ_ e=>nomatch e⟩
 |ref p =>
  cases r
  rcases ty with⟨rfl,xs,hq⟩|⟨rfl,o,hk,hc,hd⟩|⟨rfl,hk⟩|⟨rfl,S,n,hk⟩
  ·obtain⟨its,_,pl,_⟩:=I.list hq
   refine⟨pl.isList.typeIs,λa e=>?_⟩
   cases e
   obtain⟨o,n,e,c,hd,_⟩:=pl
   exact⟨o,e,hd⟩
  ·refine⟨⟨o,I.kIn p o hk,hc⟩,λa e=>?_⟩
   cases e
   exact⟨o,I.kIn _ o hk,hd⟩
  ·have z:∃o,s.heap.get? p=some o/\o.ExactDict:=by
    rcases hk with⟨kvs,hk⟩|⟨kvs,hk⟩
    ·obtain⟨_,_,_,_,o,_,_,e,ex,_⟩:=I.hok p _ hk
     exact⟨o,e,ex⟩
    ·obtain⟨_,_,_,_,o,_,_,e,ex,_⟩:=I.hok p _ hk
     exact⟨o,e,ex⟩
   obtain⟨o,e,ex⟩:=z
   refine⟨⟨o,e,ex.1⟩,λa e2=>?_⟩
   cases e2
   exact⟨o,e,ex.2.1⟩
  ·obtain⟨o,_,_,_,e,ex,_⟩:=I.hok p _ hk
   refine⟨⟨o,e,ex.1⟩,λa e2=>?_⟩
   cases e2
   exact⟨o,e,ex.2.1⟩
 |_=>exact False.elim ty
noncomputable def tBM0(K:PySem.W.Frag)(T:String)(r:V->List V->Hp->VK->Prop)(to:TE):TE:=λσ H Q=>to σ H λx H1=>tyV K T x H1/\r x [] H1 Q
noncomputable def tBM(K:PySem.W.Frag)(T:String)(r:V->List V->Hp->VK->Prop)(to:TE)(t:TA):TE:=λσ H Q=>to σ H λx H1=>tyV K T x H1/\t σ H1 λxs H2=>r x xs H2 Q
variable{o e:Expr}{es:List Expr}{to:TE}{t:TA}{name:Str}{apos cpos:Pos}{T id:String}{r:V->List V->Hp->VK->Prop}
theorem QmB(pa:PlainAttrs T)(slot:Slot T name id)(hty:typeOf (.builtin id)=pure (.type "method_descriptor"))(hm:MtR X id r)(ho:PE X o to)(hbase:attributeBase o name X.env (eval o X.env)=eval o X.env:=by rfl)(hline:(apos.endLine == cpos.line)=true:=by rfl):PE X (.Call (.Attribute o name apos) [] [] cpos) (tBM0 X.K T r to):=by
 intro pins s σ H Q I h
 refine wpAny_Call_method0_late hbase hline (thn (ho pins s σ H _ I h) λv s1 ⟨x,H1,I1,r1,ty,q1⟩=>?_)
 obtain⟨h1,h2⟩:=Qj7 I1 r1 ty
 exact⟨T,id,pa,slot,hty,h1,h2,Calls.callWith_builtin rfl (PySem.evalArgs_none (hm pins s1 σ H1 x [] v [] Q I1 r1 .nil q1))⟩
theorem Qi5(pa:PlainAttrs T)(slot:Slot T name id)(hty:typeOf (.builtin id)=pure (.type "method_descriptor"))(hm:MtR X id r)(ho:PE X o to)(ha:PA X (e::es) t)(hbase:attributeBase o name X.env (eval o X.env)=eval o X.env:=by rfl)(hfew:((backTo cpos (starEach (e::es) X.env)).all (λx=>!x.1) && (backToKw cpos (keywordEach [] X.env)).all (λx=>x.1.isSome)
   && decide ((e::es).length+([]:List Keyword).length+(if ([]:List Keyword).isEmpty then 0 else 1)<30))=true:=by rfl)(hline:(apos.endLine == cpos.line)=true:=by rfl)(hs:starEach (e::es) X.env=(false,eval e X.env)::starEach es X.env:=by rfl)(hplain:(backTo cpos (starEach es X.env)).any (·.1)=false:=by rfl):
  PE X (.Call (.Attribute o name apos) (e::es) [] cpos) (tBM X.K T r to t):=by
 intro pins s σ H Q I h
 refine wpAny_Call_method_late hbase hfew hline rfl (thn (ho pins s σ H _ I h) λv s1 ⟨x,H1,I1,r1,ty,q1⟩=>?_)
 obtain⟨h1,h2⟩:=Qj7 I1 r1 ty
 refine⟨T,id,pa,slot,hty,h1,h2,?_⟩
 have hA:=ha cpos pins s1 σ H1 _ I1 q1
 rw[hs]at hA ⊢
 refine Calls.callWith_builtin (by show(false || (backTo cpos (starEach es X.env)).any (·.1))=false;rw[hplain] <;> rfl) (Calls.evalArgs_plain ?_)
 exact thn hA λus s2 ⟨vs,H2,I2,r2,q2⟩=>hm pins s2 σ H2 x vs v us Q I2 r1 r2 q2
end
end L2
namespace L2
open PySem PySem.Spec PyProof.Rows
noncomputable def MtM(X:Cx)(id:String)(r:V->List V->Hp->VK->Prop):Prop :=
 ∀(pins:List (Addr×Obj))(s:Shared)(σ:St)(H:Hp)(x:V)(xs:List V)(v:Value)(us:List Value)(Q:VK),Inv X pins σ H s->RelV x v->Vals xs us->r x xs H Q ->
  wpAny (model X.prog X.w) X.A (call (.builtin id) (v::us)) (EP X pins σ Q) X.xe s
theorem Vals.one:∀{x:V}{us:List Value},Vals [x] us->∃u,us=[u]/\RelV x u
 |_,_,.cons r .nil=>⟨_,rfl,r⟩
theorem Vals.two:∀{x y:V}{us:List Value},Vals [x,y] us->∃u v,us=[u,v]/\RelV x u/\RelV y v
 |_,_,_,.cons r (.cons q .nil)=>⟨_,_,rfl,r,q⟩
theorem Vals.zero:∀{us:List Value},Vals [] us->us=[]
 |_,.nil=>rfl
theorem Vals.dropLast{xs:List V}{us:List Value}(h:Vals xs us):Vals xs.dropLast us.dropLast:=by
 induction h with
 |nil=>exact .nil
 |cons r t ih =>
  cases t with
  |nil=>exact .nil
  |cons q t'=>exact .cons r ih
theorem Vals.eraseIdx:∀{xs:List V}{us:List Value}(i:Nat),Vals xs us->Vals (xs.eraseIdx i) (us.eraseIdx i)
 |_,_,_,.nil=>.nil
 |_,_,0,.cons _ t=>t
 |_,_,i+1,.cons r t=>.cons r (Vals.eraseIdx i t)
theorem Vals.reverse{xs:List V}{us:List Value}(h:Vals xs us):Vals xs.reverse us.reverse:=by
 induction h with
 |nil=>exact .nil
 |cons r t ih=>rw[T9,T9];exact Vals.append ih (.cons r .nil)
theorem Vals.rep{xs:List V}{us:List Value}(h:Vals xs us):∀k:Nat,Vals (List.replicate k xs).flatten (List.replicate k us).flatten
 |0=>.nil
 |k+1=>by
  rw[UX,UX,Ra,Ra]
  exact Vals.append h (Vals.rep h k)
theorem Qgo{α:Type}(l:List α):l.eraseIdx (l.length-1)=l.dropLast:=by
 induction l with
 |nil=>rfl
 |cons a r ih =>
  cases r with
  |nil=>rfl
  |cons b r =>
   have e:(a::b::r).length-1=((b::r).length-1)+1:=by
    have h1:(a::b::r).length=r.length+2:=rfl
    have h2:(b::r).length=r.length+1:=rfl
    omega
   rw[e,WU,ih]
   all_goals rfl
theorem QdR(its:List Value):∀(k:Nat)(acc:List Value),
  List.foldl (λx1 x2=>x1++x2) acc.toArray (List.replicate k its.toArray)=(acc++(List.replicate k its).flatten).toArray
 |0,acc=>by simp
 |k+1,acc=>by
  have e:acc.toArray++its.toArray=(acc++its).toArray:=by simp
  have e2:(acc++its)++(List.replicate k its).flatten=acc++(List.replicate (k+1) its).flatten:=by
   rw[UX,Ra,UG]
  rw[<-e2,<-QdR its k (acc++its),<-e,UX,List.foldl_cons]
section
variable{X:Cx}{pins:List (Addr×Obj)}{σ:St}{H:Hp}{s:Shared}{l b:Addr}{xs ys zs:List V}
theorem Inv.lset{its its':List Value}{n:Nat}{f:Array Value->Array Value}{t':Nat}(I:Inv X pins σ H s)(hH:H l=some (.lst xs))(e:s.heap.get? l=some {cls:=.type "list",data:=.seq its.toArray n})(hf:f its.toArray=its'.toArray)(hv:Vals ys its')(hz:ys.length<=sizeLine):
  Inv X pins σ (upd H l (.lst ys)) {s with heap:=s.heap.update l (Obj.mapSeq f),toks:=t'}:=by
 have q:=PySem.IsL.update e f
 rw[hf]at q
 refine I.write (x:=l) (e:=l) (by rw[hH];exact trivial) (.inl rfl) (λb' u hb hu=>(U1 s.heap (Obj.mapSeq f) (Ne.symm hb)).trans hu) ⟨_,q⟩ ?_
 exact⟨hz,its',_,hv,q⟩
theorem Inv.lnew{its:List Value}{t':Nat}(I:Inv X pins σ H s)(hv:Vals ys its)(hz:ys.length<=sizeLine):
  Inv X pins σ (upd H s.heap.objs.size (.lst ys)) {s with heap:=s.heap.push {cls:=.type "list",data:=.seq its.toArray},toks:=t'} :=
 I.laid (λ_ _ q=>Ub _ q) (Uc _) ⟨hz,its,0,hv,Uo _ rfl⟩
theorem Inv.fresh(I:Inv X pins σ H s):H s.heap.objs.size=none:=I.hok.fresh (Uc _)
theorem Inv.lstM(I:Inv X pins σ H s)(hH:H l=some (.lst xs)):xs.length<=sizeLine/\∃(its:List Value)(n:Nat),Vals xs its/\xs.length=its.length/\s.heap.get? l=some {cls:=.type "list",data:=.seq its.toArray n}:=by
 obtain⟨z,its,n,r,e⟩:=I.hok l _ hH
 exact⟨z,its,n,r,r.length,e⟩
theorem Qfr{n:Nat}(h:n<=sizeLine):Builtin.List.listTooLong n=false:=by
 unfold Builtin.List.listTooLong
 exact UB (by omega)
end
section
variable{X:Cx}
noncomputable def QkY:V->List V->Hp->VK->Prop:=λx vs H Q=>∃l xs y,x=.ref l/\vs=[y]/\H l=some (.lst xs)/\xs.length<sizeLine/\Q .non (upd H l (.lst (xs++[y])))
theorem Qhg:MtM X "list.append" QkY:=by
 intro pins s σ H x vs v us Q I rx rv h
 obtain⟨l,xs,y,rfl,rfl,hH,hz,q⟩:=h
 cases rx
 obtain⟨u,rfl,ru⟩:=rv.one
 obtain⟨z,its,n,r,hl,e⟩:=I.lstM hH
 refine WD F.slot_list_append ⟨_,e,rfl⟩ F.entry_list_append (F.args_list_append_2 _ _) (PySem.list_append l its.toArray n u (by rw[Uf];omega)) ⟨e,?_⟩
 refine⟨.non,_,I.lset (its':=its++[u]) hH e (by simp) (r.append (.cons ru .nil)) ?_,rfl,q⟩
 rw[Us,Be]
 omega
noncomputable def QkZ:V->List V->Hp->VK->Prop:=λx vs H Q=>∃l b xs zs,x=.ref l/\vs=[.ref b]/\H l=some (.lst xs)/\H b=some (.lst zs)/\xs.length+zs.length<=sizeLine/\Q .non (upd H l (.lst (xs++zs)))
theorem Qhh:MtM X "list.extend" QkZ:=by
 intro pins s σ H x vs v us Q I rx rv h
 obtain⟨l,b,xs,zs,rfl,rfl,hH,hB,hz,q⟩:=h
 cases rx
 obtain⟨u,rfl,ru⟩:=rv.one
 cases ru
 obtain⟨z,its,n,r,hl,e⟩:=I.lstM hH
 obtain⟨z2,its2,n2,r2,hl2,e2⟩:=I.lstM hB
 have hsz:its.toArray.size+its2.toArray.size<=sizeLine:=by rw[Uf,Uf];omega
 have hlong:¬(!its.toArray.isEmpty && Builtin.List.listTooLong (its.toArray.size+its2.toArray.size))=true:=by
  rw[Qfr hsz,Bool.and_false]
  exact Ug
 refine WD F.slot_list_extend ⟨_,e,rfl⟩ F.entry_list_extend (F.args_list_extend_2 _ _)
  (AutoSeq1.list_extend_list_list_0 l its.toArray n b its2.toArray n2 hlong (by rw[Uf];omega) (by omega)) ⟨e,e2,?_⟩
 refine⟨.non,_,I.lset (its':=its++its2) hH e (by simp) (r.append r2) ?_,rfl,q⟩
 rw[Us]
 omega
noncomputable def rPop:V->List V->Hp->VK->Prop:=λx vs H Q=>∃l xs y,x=.ref l/\vs=[]/\H l=some (.lst xs)/\xs[xs.length-1]?=some y/\Q y (upd H l (.lst xs.dropLast))
theorem QmC:MtM X "list.pop" rPop:=by
 intro pins s σ H x vs v us Q I rx rv h
 obtain⟨l,xs,y,rfl,rfl,hH,hy,q⟩:=h
 cases rx
 have hus:=rv.zero
 subst hus
 obtain⟨z,its,n,r,hl,e⟩:=I.lstM hH
 obtain⟨u,hu,ru⟩:=r.get hy
 have hy':its.toArray[its.toArray.size-1]?=some u:=by
  show its.toArray[its.length-1]?=some u
  rw[<-T4,<-hl]
  exact hu
 refine WD F.slot_list_pop ⟨_,e,rfl⟩ F.entry_list_pop (F.args_list_pop_1 _) (MeetsSeq.list_pop_last l its.toArray n u hy' (by rw[Uf];omega)) ⟨e,?_⟩
 refine⟨y,_,I.lset (its':=its.dropLast) hH e ?_ r.dropLast ?_,ru,q⟩
 ·show its.toArray.eraseIdxIfInBounds (its.toArray.size-1)=its.dropLast.toArray
  rw[Uf,List.eraseIdxIfInBounds_toArray,Qgo]
 ·rw[List.length_dropLast]
  omega
noncomputable def rCat:R2:=λx y H Q=>∃l b xs zs,x=.ref l/\y=.ref b/\H l=some (.lst xs)/\H b=some (.lst zs)/\xs.length+zs.length<=sizeLine/\∀p,H p=none->Q (.ref p) (upd H p (.lst (xs++zs)))
theorem QmD:OpR X (binaryOp .Add) rCat:=by
 intro pins s σ H x y v u Q I rx ry h
 obtain⟨l,b,xs,zs,rfl,rfl,hH,hB,hz,q⟩:=h
 cases rx
 cases ry
 obtain⟨z,its,n,r,hl,e⟩:=I.lstM hH
 obtain⟨z2,its2,n2,r2,hl2,e2⟩:=I.lstM hB
 refine PySem.P.add_list e e2 ?_ (by rw[Uf,Uf];omega)
 have ea:its.toArray++its2.toArray=(its++its2).toArray:=by simp
 rw[ea]
 exact⟨.ref _,_,I.lnew (t':=s.toks) (r.append r2) (by rw[Us];omega),rfl,q _ I.fresh⟩
noncomputable def rRep:R2:=λx y H Q=>∃l k xs,x=.ref l/\y=.int k/\H l=some (.lst xs) /\ -(2^63)<=k/\k<2^63/\xs.length*k.toNat<=sizeLine /\
 ∀p,H p=none->Q (.ref p) (upd H p (.lst (List.replicate k.toNat xs).flatten))
theorem Qk0{α:Type}(xs:List α)(k:Nat):(List.replicate k xs).flatten.length=k*xs.length:=by
 induction k with
 |zero=>simp
 |succ k ih=>rw[UX,Ra,Us,ih,Nat.succ_mul,Nat.add_comm]
theorem QmE:OpR X (binaryOp .Mult) rRep:=by
 intro pins s σ H x y v u Q I rx ry h
 obtain⟨l,k,xs,rfl,rfl,hH,h1,h2,hz,q⟩:=h
 cases rx
 obtain⟨t,rfl⟩:=ry
 obtain⟨z,its,n,r,hl,e⟩:=I.lstM hH
 have hlen:its.toArray.size*k.toNat<=sizeLine:=by rw[Uf,<-hl];exact hz
 have hcap:¬its.toArray.size*k.toNat > (2^63-1) / 8:=by
  have:(sizeLine:Nat)<=(2^63-1) / 8:=by decide
  omega
 have hfit:¬(!Builtin.List.listFitsIndex k)=true:=by
  rw[fitsIndex_both h1 h2]
  exact Ug
 have hlong:¬Builtin.List.listTooLong (its.toArray.size*k.toNat)=true:=by
  rw[Qfr hlen]
  exact Ug
 have hnew:List.foldl (λx1 x2=>x1++x2) #[] (List.replicate (if its.toArray.isEmpty=true then 0 else k.toNat) its.toArray)=(List.replicate k.toNat its).flatten.toArray:=by
  have f0:∀m:Nat,List.foldl (λx1 x2=>x1++x2) #[] (List.replicate m its.toArray)=(List.replicate m its).flatten.toArray:=λm=>by
   have:=QdR its m []
   rw[Ry]at this
   exact this
  rw[f0]
  cases its with
  |nil=>simp
  |cons a r'=>rw[Ue (by simp)]
 refine wpAny_binaryOp_repeat_ref (T:="list") (U:="int") (by decide) ⟨_,e,rfl⟩ (λs'=>typeIs_int s' k t) noFill_list_mul F.fills_int_mul F.slot_int_rmul repeat_list F.slot_int_index.lookup
  (WD F.slot_int_rmul (typeIs_int s k t) F.entry_int_rmul (F.args_int_rmul_2 _ _) (int___rmul___int_list k t l its.toArray n)
   ⟨e,rfl,⟨_,e,rfl⟩,WD F.slot_list_mul ⟨_,e,rfl⟩ F.entry_list_mul (F.args_list_mul_2 _ _) (AutoListH.list___mul___list_int_3 l its.toArray n k t hfit hcap hlong) ⟨e,?_⟩⟩)
 rw[hnew]
 exact⟨.ref _,_,I.lnew (t':=s.toks) (r.rep k.toNat) (by rw[Qk0,Nat.mul_comm];exact hz),rfl,q _ I.fresh⟩
end
section
variable{prog:Program}{w:World}{A:Around}{E:Value->Shared->Prop}{s:Shared}
end
section
variable{X:Cx}
end
end L2
namespace Att
open PySem PySem.W PySem.Calls PyProof.Rows
theorem Qby{P:Params}{h:Heap}:∀(ns:List Int)(vs:List Value),WellAll P h vs (ns.map WData.int)->IntsAre vs ns:=by
 intro ns
 induction ns with
 |nil =>
  intro vs w
  rw[List.map_nil]at w
  cases w
  exact .nil
 |cons n ns ih =>
  intro vs w
  rw[UH]at w
  cases w with
  |cons a b =>
   cases a
   exact .cons _ _ (ih _ b)
theorem Qhi{l:OpenLaw}{n:Nat}(hn:l.most=some n){P:Params}{h:Heap}{args:List WData}{vals:List Value}(hpre:l.row.toRowW.claim.pre args=true)(hwl:WellAll P h vals args):
  ∃a vs ns,vals=[Value.ref a]/\args=[WData.list (ns.map WData.int)]/\h.get? a=some {cls:=.type "list",data:=.seq vs.toArray}/\IntsAre vs ns/\ns.length<=n:=by
 have hsh:WShape.hasAll [] args [.list .int]=true:=(pre_splitW hpre).1
 have hc:l.pre.holds [] {args:=args}=true:=(pre_splitW hpre).2
 obtain⟨d,r,rfl,h1,h2⟩:=hasAllW_cons hsh
 obtain rfl:=hasAllW_nil h2
 obtain⟨xs,rfl,h3⟩:=hasW_list h1
 obtain⟨ns,rfl⟩:=items_int h3
 have hlen:ns.length<=n:=by
  unfold OpenLaw.pre at hc
  have h4:(WTm.not (.lt (.lit (.int (n:Int))) (.len (.arg 0)))).holds [] {args:=[.list (ns.map .int)]}=true:=by
   have h4:=(holds_andW hc).1
   rw[hn]at h4
   exact h4
  have h5:=condW_of h4 (w_not (w_lt w_lit (w_len_list (w_arg rfl))))
  rw[Uw]at h5
  refine RT λq=>?_
  have q':(n:Int)<((ns.length:Nat):Int):=by omega
  first
   | (rw[UC q']at h5;exact absurd h5 (by decide))
   | (simp at h5;omega)
 cases hwl with
 |cons w1 w2 =>
  cases w2
  cases w1 with
  |list ho hall=>exact⟨_,_,ns,rfl,rfl,ho,Qby ns _ hall,hlen⟩
theorem Qhj(l:OpenLaw)(args:List WData):l.row.toRowW.claim.post args (.bool true) args=true :=
 postW_of (r:=l.row.toRowW) (X:=(true == true))
  (show WShape.has [] (.bool true) .bool=true by first|rfl|decide|simp[WShape.has,WShape.arms,WShape.armsAll])
  (show(WTm.eq .res (.lit (.bool true))).value [] {args:=args,res:=some (.bool true),after:=args}=some (.bool (true == true)) from w_eq_bool (w_res rfl) w_lit) rfl
theorem attach_call{l:OpenLaw}{n:Nat}{q:Program}{loose:List Str}{XP:(Str->Option Value)->Heap->Prop}{YP:World->Heap->Prop}{d:DefRec}(hn:l.most=some n)(hdf:d.params.defaults=[])(call:∀(w:World) (s₀ s₁:Shared) (mg mb:Str->Option Value) (fa:Addr) (o:Obj) (pm cd doc:Value) (a:Addr) (vs:List Value) (ns:List Int),
   Ground q loose [] XP w s₀ mg mb s₁.heap->YP w s₁.heap ->
   s₁.heap.get? fa=some o->o.data=.func (docDef d.name d.params d.body d.scope pm cd doc)->s₁.heap.CodeRec cd d.name->mg d.name=some (.ref fa) ->
   s₁.heap.get? a=some {cls:=.type "list",data:=.seq vs.toArray}->IntsAre vs ns->ns.length<=n->s₁.gens = #[] ->
   codeAny (model l.prog w) callerA (.call (.ref fa) ⟨[.ref a],[]⟩) (λr s'=>r=.ok (.ret (.bool true))/\OldK s₁.heap s'.heap/\s'.os=s₁.os/\AllBare s'.gens) s₁):
  WalkO q loose XP YP l.row.toRowW d [] (λf vs=>PySem.call f vs):=by
 intro w s₀ s₁ mg mb G Y fa o pm cd doc dV kV ho hd hcd hD hmg hg args vals as hpre hlay hrd hwl hlo
 obtain rfl:dV=.none:=Dflts.none hD hdf
 obtain rfl:kV=.none:=Dflts.noKw hD
 obtain⟨a,vs,ns,rfl,rfl,hobj,hints,hlen⟩:=Qhi hn hpre hwl
 refine enter_call (Wo (call w s₀ s₁ mg mb fa o pm cd doc a vs ns G Y ho (fd_plain hd) hcd hmg hobj hints hlen hg) λr s' hq=>?_)
 obtain⟨rfl,h2,h3,h4⟩:=hq
 exact⟨.inl ⟨.bool true,.bool true,[],rfl,λ_=>rfl,.bool true,Qhj l _,λ_=>⟨List.Pairwise.nil,λ_ hm=>(nomatch hm)⟩⟩,h2,h3,h4⟩
section
variable{prog:Program}{w:World}{A:Around}{E:Value->Shared->Prop}{s:Shared}{K:Frag}
end
end Att
namespace L2
open PySem PySem.Spec PyProof.Rows
theorem QdS:∀{vs:List Value}{ns:List Int},IntsAre vs ns->Vals (ns.map V.int) vs
 |_,_,.nil=>.nil
 |_,_,.cons n t h=>.cons ⟨t,rfl⟩ (QdS h)
noncomputable def Only(H:Hp):Prop:=∀b,H b=none\/∃o xs,H b=some (.frz o (.lst xs))
theorem Qi6{P:Program}{w:World}{K:PySem.W.Frag}{mg mb:Str->Option Value}{CX:CXT}{k:Nat}{fa a:Addr}{fd:FuncData}{x:Str}{sp:Sp}{s₁:Shared}{vs:List Value}{ns:List Int}(KX:K.In s₁.heap)(hns:s₁.heap.Ns mainGlobals mg)(hb:s₁.heap.Ns builtinsNs mb)(hbb:∀x:Str,x ≠ "__name__" -> mb x=bootBuiltins x)(hlim:s₁.heap.NoLimit)(hg:s₁.gens = #[])(ha:s₁.heap.get? a=some {cls:=.type "list",data:=.seq vs.toArray})(hi:IntsAre vs ns)(hl:ns.length<=sizeLine)(hr:Room k callerA)(F:∀base:Heap,K.In base->base.Ns mainGlobals mg->FnOk P w K mg base CX k fa fd [x] sp)(hbind:∀(s:Shared) (u:Value),BindsTo s fd ⟨[u],[]⟩ [(x,u)])(hsp:∀H:Hp,Only H->SqL K H a (ns.map V.int)->sp [.ref a] H (λv _=>v=.bl true) λ_ _ _=>False)(hCX:∀H e s',CX [] H s₁ (λ_ _ _=>False) e s'->False):
  codeAny (model P w) callerA (.call (.ref fa) ⟨[.ref a],[]⟩) (λr s'=>r=.ok (.ret (.bool true))/\OldK s₁.heap s'.heap/\s'.os=s₁.os/\AllBare s'.gens) s₁:=by
 have rv:=QdS hi
 have lenV:=hi.length
 -- from an abstract heap in which nothing but the script may be tracked
 have core:∀H:Hp,Only H->SqL K H a (ns.map V.int)->HOk P w H s₁.heap->(∀b,H b≠none->b=a)->(H a≠none->K.lookup a=none) ->
   codeAny (model P w) callerA (.call (.ref fa) ⟨[.ref a],[]⟩) (λr s'=>r=.ok (.ret (.bool true))/\OldK s₁.heap s'.heap/\s'.os=s₁.os/\AllBare s'.gens) s₁:=by
  intro H hO hS hok hA hK
  have base_of:∀{b:Addr}{o:Obj},s₁.heap.get? b=some o->H b=none->(hidT s₁.heap H).get? b=some o:=λe n=>QiR e n
  have noA:∀{b:Addr}{o:Obj}{es:Array DictEntry}{ep:Nat},s₁.heap.get? b=some o->o.data=.dict es ep->H b=none:=λ{b o es ep} e d=>by
   cases q:H b with
   |none=>rfl
   |some u =>
    have e':b=a:=hA b (by rw[q];simp)
    subst e'
    rw[ha]at e;cases e
    have d':Data.seq vs.toArray _=Data.dict es ep:=d
    cases d'
  have nsK:∀{b:Addr}{m:Str->Option Value},s₁.heap.Ns b m->(hidT s₁.heap H).Ns b m:=λ{b m} ⟨o,es,ep,e,d,r⟩=>⟨o,es,ep,base_of e (noA e d),d,r⟩
  have hKb:K.In (hidT s₁.heap H):=λb o e=>base_of (KX b o e) (by
   cases q:H b with
   |none=>rfl
   |some u =>
    have e':b=a:=hA b (by rw[q];simp)
    subst e'
    rw[hK (by rw[q];simp)]at e;cases e)
  have hM:Mod K mg (hidT s₁.heap H):=⟨hKb,nsK hns,⟨mb,nsK hb,hbb⟩,let ⟨mc,h1,h2⟩:=hlim;⟨mc,nsK h1,h2⟩⟩
  have e0:Env0 P w K mg (hidT s₁.heap H) callerA [] s₁ H:=⟨rfl,hM,λb o e=>QkB e,RN (QgZ _ _),trivial,λb hb=>absurd (show b∈([]:List Addr) from hb) (by simp),hok,.of_eq hg⟩
  refine Wo ((F _ hKb (nsK hns)).run callerA [] s₁ H ⟨[.ref a],[]⟩ [.ref a] [.ref a] _ _ hr e0 (hbind s₁ (.ref a)) (.cons rfl .nil) (hsp H hO hS)) λr s' h=>?_
  cases r with
  |error e=>exact(hCX H e s' h).elim
  |ok fl =>
   cases fl with
   |next=>exact False.elim h
   |brk=>exact False.elim h
   |cont=>exact False.elim h
   |ret u =>
    obtain⟨v,H',os,bare,un,hok',r',q⟩:=h
    have q':v=.bl true:=q
    subst q'
    obtain rfl:u=Value.bool true:=r'
    refine⟨rfl,OldK.of_keep λb o e=>?_,os,bare⟩
    cases q:H b with
    |none=>exact un.keep b o e q (by intro z;exact absurd (show b∈([]:List Addr) from z) (by simp)) (by simp)
    |some u =>
     rcases hO b with z|⟨ob,xs,z⟩
     ·rw[q]at z;cases z
     ·have z2:=un.frzs b ob _ z
      obtain⟨e1,_⟩:=hok b _ z
      obtain⟨e2,_⟩:=hok' b _ z2
      rw[e]at e1;cases e1
      exact e2
 cases hk:K.lookup a with
 |some o =>
  -- the script is one of the module's own objects
  have e:=KX a o hk
  rw[ha]at e
  cases e
  refine core (λ_=>none) (λ_=>.inl rfl) (.inr ⟨_,vs.toArray,_,hk,rfl,rfl,rfl,by rw[Uf,lenV];exact hl,by simpa using rv⟩) (λb u z=>by have z':(none:Option HO)=some u:=z;cases z') (λb z=>absurd rfl z) λz=>absurd rfl z
 |none =>
  refine core (λb=>if b=a then some (.frz {cls:=.type "list",data:=.seq vs.toArray} (.lst (ns.map V.int))) else none) (λb=>?_) (.inl (.inr ⟨{cls:=.type "list",data:=.seq vs.toArray},Ud rfl⟩)) (λb u z=>?_) (λb z=>?_) λ_=>hk
  ·by_cases hb:b=a
   ·exact .inr ⟨_,_,Ud hb⟩
   ·exact .inl (Ue hb)
  ·by_cases hb:b=a
   ·have z':=(Ud hb).symm.trans z
    cases z'
    subst hb
    exact⟨ha,by rw[Uw];exact hl,vs,_,rv,ha⟩
   ·have z':=(Ue hb).symm.trans z
    cases z'
  ·by_cases hb:b=a
   ·exact hb
   ·exact absurd (Ue hb) z
end L2
namespace L2
open PySem PySem.Spec PyProof.Rows
theorem walk_of{l:PySem.W.OpenLaw}{n k:Nat}{q:Program}{loose:List Str}{XP:(Str->Option Value)->Heap->Prop}{YP:World->Heap->Prop}{d:DefRec}{K:Params->PySem.W.Frag}{CX:World->CXT}{sp:World->Sp}{x:Str}(hn:l.most=some n)(hn2:n<=sizeLine)(hdf:d.params.defaults=[])(hr:Room k callerA)(hY:∀(w:World) (h:Heap),YP w h->(K w.params).In h)(F:∀(w:World) (mg:Str->Option Value) (fa:Addr) (h:Heap),(K w.params).In h->h.Ns mainGlobals mg->mg d.name=some (.ref fa) ->
   ∃fd:FuncData,(∀(s:Shared) (u:Value),BindsTo s fd ⟨[u],[]⟩ [(x,u)]) /\
    ∀base:Heap,(K w.params).In base->base.Ns mainGlobals mg->FnOk l.prog w (K w.params) mg base (CX w) k fa fd [x] (sp w))(hsp:∀(w:World) (H:Hp) (a:Addr) (ns:List Int),ns.length<=n->Only H->SqL (K w.params) H a (ns.map V.int)->sp w [.ref a] H (λv _=>v=.bl true) λ_ _ _=>False)(hCX:∀(w:World) (H:Hp) (s:Shared) (e:Value) (s':Shared),CX w [] H s (λ_ _ _=>False) e s'->False):
  PySem.W.WalkO q loose XP YP l.row.toRowW d [] (λf vs=>PySem.call f vs):=by
 refine Att.attach_call hn hdf λw s₀ s₁ mg mb fa o pm cd doc a vs ns G Y ho hd hcd hmg hobj hints hlen hg=>?_
 have KX:=hY w _ Y
 obtain⟨fd,hb,hF⟩:=F w mg fa _ KX G.T.g hmg
 exact Qi6 KX G.T.g G.T.b G.T.builtins G.T.nolimit hg hobj hints (Ut hlen hn2) hr hF hb (λH hO hS=>hsp w H a ns hlen hO hS) λH e s'=>hCX w H s₁ e s'
end L2
namespace L2
open PySem PySem.Spec PyProof.Rows
noncomputable def Qbz(s:Stmt)(j:Nat):Stmt:=match s with
 |.ClassDef _ _ _ body _ _ _ _ _ _ _=>body.getD j (.Pass ⟨0,0,0,0⟩)
 |_=>.Pass ⟨0,0,0,0⟩
noncomputable def Qn(s:Stmt):Arguments:=match s with
 |.FunctionDef _ a _ _ _ _ _ _ _ _=>a
 |_=>{posonlyargs:=[],args:=[],vararg:=none,kwonlyargs:=[],kw_defaults:=[],kwarg:=none,defaults:=[]}
noncomputable def Qm(s:Stmt):List Stmt:=match s with
 |.FunctionDef _ _ b _ _ _ _ _ _ _=>b
 |_=>[]
noncomputable def Qc(s:Stmt):Scope:=match s with
 |.FunctionDef _ _ _ _ _ _ sc _ _ _=>sc
 |_=>{kind:=.function,names:=[],isGenerator:=false,isCoroutine:=false}
noncomputable abbrev CX0:CXT:=λ_ _ _ _ _ _=>False
structure Fun(K:PySem.W.Frag)(x qual:Str)(st:Stmt)(f:Addr)(fd:FuncData):Prop where
 ex:∃(oc:Value)(od:Option Addr)(kV doc pm:Value)(an:Option Addr)(cdv ct:Value)(osl:Array (Option Value)),
  fd=fnOf x qual (Qn st) (Qm st) (Qc st) .none kV doc pm an cdv ct/\K.lookup f=some ⟨oc,od,.func fd,osl⟩/\codeIn K cdv qual=true
 kp:keepIn K (.ref f)=true
section
variable{P:Program}{w:World}{K:PySem.W.Frag}{mg:Str->Option Value}{base:Heap}
theorem Fun.ok{x qual:Str}{st:Stmt}{f:Addr}{fd:FuncData}{N ps:List Str}{k:Nat}{sp:Sp}(F:Fun K x qual st f fd)(S:FnScope N ps (Qc st))(len:∀vs H Q E,sp vs H Q E->vs.length=ps.length)(hbody:∀(cdv:Value) (A:Around) (outer:List Env) (s:Shared) (H:Hp) (vs:List V) (Q:VK) (E:XK),Room k (A.deeper (envOfC qual (Qc st) s.heap.objs.size f cdv))->sp vs H Q E ->
   ∃t,PSs (cxOf CX0 P w K mg base N qual (Qc st) f cdv A outer s H E).nox (Qm st) t/\t {nx:=λ_ H'=>Q .non H',rt:=Q} (start N vs) H):FnOk P w K mg base CX0 (k+1) f fd ps sp:=by
 obtain⟨oc,od,kV,doc,pm,an,cdv,ct,osl,rfl,lk,hcd⟩:=F.ex
 refine QkS lk hcd S len λA outer s H vs Q E hr hsp=>?_
 obtain⟨t,h,q⟩:=hbody cdv A outer s H vs Q E hr hsp
 exact⟨t,h.nox,q⟩
theorem Fun.binds{x qual:Str}{st:Stmt}{f:Addr}{fd:FuncData}{ps:List Str}(F:Fun K x qual st f fd)(h:∀(kV doc pm:Value) (an:Option Addr) (cdv ct:Value) (us:List Value),us.length=ps.length->bindArgs (fnOf x qual (Qn st) (Qm st) (Qc st) .none kV doc pm an cdv ct) ⟨us,[]⟩=pure (ps.zip us)):Binds K fd ps []:=by
 obtain⟨oc,od,kV,doc,pm,an,cdv,ct,osl,rfl,lk,hcd⟩:=F.ex
 exact .all (h kV doc pm an cdv ct)
theorem QE{x qual:Str}{st:Stmt}{f:Addr}{oc:Value}{od an:Option Addr}{osl:Array (Option Value)}{kV doc pm cdv ct:Value}(l:K.lookup f=some ⟨oc,od,.func (fnOf x qual (Qn st) (Qm st) (Qc st) .none kV doc pm an cdv ct),osl⟩)(c:codeIn K cdv qual=true)(k:keepIn K (.ref f)=true):Fun K x qual st f (fnOf x qual (Qn st) (Qm st) (Qc st) .none kV doc pm an cdv ct):=⟨⟨oc,od,kV,doc,pm,an,cdv,ct,osl,rfl,l,c⟩,k⟩
end
section
variable{X:Cx}
end
noncomputable def Same(H H':Hp):Prop:=∀b o,H b=some o->H' b=some o
theorem Same.refl(H:Hp):Same H H:=λ_ _ h=>h
theorem Same.trans{H H1 H2:Hp}(a:Same H H1)(b:Same H1 H2):Same H H2:=λc o h=>b c o (a c o h)
theorem Same.free{H H':Hp}(e:Same H H'){l:Addr}(h:H' l=Option.none):H l=Option.none:=by
 cases q:H l with
 |none=>rfl
 |some o =>
  rw[e l o q]at h
  cases h
theorem Same.seq{K:PySem.W.Frag}{H H':Hp}{a:Addr}{xs:List V}(e:Same H H')(h:SqL K H a xs):SqL K H' a xs:=by
 rcases h with(h|⟨o,h⟩)|h
 ·exact .inl (.inl (e _ _ h))
 ·exact .inl (.inr ⟨o,e _ _ h⟩)
 ·exact .inr h
end L2
set_option maxHeartbeats 4000000
namespace L3
open PySem
noncomputable abbrev Xc:=Nat×Option Nat
inductive D where
 |non|bl (b:Bool)|int (i:Int)|str (s:Str)|ref (n:Nat)|tup (ds:List D)|fl (ds:List D)
inductive GO where
 |lst (ds:List D)|ins (c:Nat) (fs:List (Str×D))|dct (kvs:List (Sum Int Str×D))|exc (x:Xc)
noncomputable abbrev G:=List GO
noncomputable abbrev S3:=List (Option D)
inductive Res(α:Type) where
 |ok (a:α) (g:G)|raise (x:Xc) (g:G)|stuck
noncomputable def Res.bind{α β:Type}:Res α->(α->G->Res β)->Res β
 |.ok a g,k=>k a g
 |.raise e g,_=>.raise e g
 |.stuck,_=>.stuck
inductive Out where
 |nx (σ:S3) (g:G)|rt (d:D) (g:G)|bk (σ:S3) (g:G)|ct (σ:S3) (g:G)|raise (x:Xc) (σ:S3) (g:G)|stuck
noncomputable abbrev ME:=S3->G->Res D
noncomputable abbrev MT:=S3->G->Res Bool
noncomputable abbrev MA:=S3->G->Res (List D)
noncomputable abbrev MS:=S3->G->Out
noncomputable abbrev MF:=List D->G->Res D
theorem Res.bind_ok{α β:Type}(a:α)(g:G)(k:α->G->Res β):(Res.ok a g).bind k=k a g:=rfl
noncomputable def SZ:Nat:=1000000
noncomputable def mVar(i:Nat):ME:=λσ g=>match σ[i]? with
 |some (some d)=>.ok d g
 |_=>.stuck
noncomputable def mLit(d:D):ME:=λ_ g=>.ok d g
noncomputable def mOp1(f:D->G->Res D)(a:ME):ME:=λσ g=>(a σ g).bind f
noncomputable def mOp2(f:D->D->G->Res D)(a b:ME):ME:=λσ g=>(a σ g).bind λx g1=>(b σ g1).bind λy g2=>f x y g2
noncomputable def mNil:MA:=λ_ g=>.ok [] g
noncomputable def Qb(a:ME)(r:MA):MA:=λσ g=>(a σ g).bind λx g1=>(r σ g1).bind λxs g2=>.ok (x::xs) g2
noncomputable def mOpA(f:List D->G->Res D)(a:MA):ME:=λσ g=>(a σ g).bind f
noncomputable def Qk(a:ME):MT:=λσ g=>(a σ g).bind λd g1=>match d with
 |.bl b=>.ok b g1
 |_=>.stuck
noncomputable def Jl(a:MT):MT:=λσ g=>(a σ g).bind λb g1=>.ok (!b) g1
noncomputable def QaN(a b:MT):MT:=λσ g=>(a σ g).bind λc g1=>if c=true then b σ g1 else .ok false g1
noncomputable def mOrT(a b:MT):MT:=λσ g=>(a σ g).bind λc g1=>if c=true then .ok true g1 else b σ g1
noncomputable def mNot(a:ME):ME:=λσ g=>(a σ g).bind λd g1=>match d with
 |.bl b=>.ok (.bl (!b)) g1
 |_=>.stuck
noncomputable def mAnd(a b:ME):ME:=λσ g=>(a σ g).bind λd g1=>match d with
 |.bl c=>if c=true then b σ g1 else .ok (.bl false) g1
 |_=>.stuck
noncomputable def mIfE(c:MT)(a b:ME):ME:=λσ g=>(c σ g).bind λt g1=>if t=true then a σ g1 else b σ g1
noncomputable def QcD(f f':D->D->G->Res D)(a b c:ME):ME:=λσ g=>(a σ g).bind λx g1=>(b σ g1).bind λy g2=>(f x y g2).bind λz g3=>match z with
 |.bl true=>(c σ g3).bind λw g4=>f' y w g4
 |.bl false=>.ok (.bl false) g3
 |_=>.stuck
noncomputable def QG:MS:=λσ g=>.nx σ g
noncomputable def mSeq(a b:MS):MS:=λσ g=>match a σ g with
 |.nx σ' g'=>b σ' g'
 |o=>o
noncomputable def Zw(a:ME):MS:=λσ g=>match a σ g with
 |.ok _ g'=>.nx σ g'
 |.raise e g'=>.raise e σ g'
 |.stuck=>.stuck
noncomputable def mRet(a:ME):MS:=λσ g=>match a σ g with
 |.ok d g'=>.rt d g'
 |.raise e g'=>.raise e σ g'
 |.stuck=>.stuck
noncomputable def Qk1:MS:=λ_ g=>.rt .non g
noncomputable def mIf(c:MT)(a b:MS):MS:=λσ g=>match c σ g with
 |.ok t g'=>if t=true then a σ g' else b σ g'
 |.raise e g'=>.raise e σ g'
 |.stuck=>.stuck
noncomputable def YO:MS:=λ_ _=>.stuck
noncomputable def Qfs(c:Nat)(a:MA):MS:=λσ g=>match a σ g with
 |.ok ds g'=>if ds.length<=SZ then .raise (c,none) σ g' else .stuck
 |.raise e g'=>.raise e σ g'
 |.stuck=>.stuck
structure MH where
 cs:List Nat
 no:List Nat
 nm:Option Nat
 suite:MS
noncomputable def QmF(i:Nat):Out->Out
 |.nx σ g=>.nx (σ.set i none) g
 |.rt d g=>.rt d g
 |_=>.stuck
noncomputable def runH:List MH->Xc->S3->G->Out
 |[],x,σ,g=>.raise x σ g
 |h::r,x,σ,g=>if x.1∈h.cs then (match h.nm with
  |none=>(match h.suite σ g with
   |.nx σ' g'=>.nx σ' g'
   |.rt d g'=>.rt d g'
   |_=>.stuck)
  |some i=>QmF i (h.suite (σ.set i (some (.ref g.length))) (g++[.exc x]))) else if x.1∈h.no then runH r x σ g else .stuck
noncomputable def mTry(b:MS)(hs:List MH):MS:=λσ g=>match b σ g with
 |.raise x σ' g'=>runH hs x σ' g'
 |o=>o
noncomputable abbrev MG:=D->S3->Option S3
noncomputable def gSet(i:Nat):MG:=λd σ=>some (σ.set i (some d))
noncomputable def QeG:List MG->List D->S3->Option S3
 |[],[],σ=>some σ
 |t::ts,d::ds,σ=>(t d σ).bind λσ'=>QeG ts ds σ'
 |_,_,_=>none
noncomputable def Qai(ts:List MG):MG:=λd σ=>match d with
 |.tup ds=>QeG ts ds σ
 |_=>none
noncomputable def mAsg(t:MG)(a:ME):MS:=λσ g=>match a σ g with
 |.ok d g'=>(match t d σ with
  |some σ'=>.nx σ' g'
  |none=>.stuck)
 |.raise e g'=>.raise e σ g'
 |.stuck=>.stuck
structure Src where
 at':G->Nat->Option (Option D)
 top:Nat
noncomputable abbrev MI:=S3->G->Res Src
noncomputable def forL(src:Src)(t:MG)(body:MS):Nat->Nat->S3->G->Out
 |0,_,_,_=>.stuck
 |f+1,i,σ,g=>match src.at' g i with
  |some (some d)=>(match t d σ with
   |some σ1=>(match body σ1 g with
    |.nx σ2 g2=>forL src t body f (i+1) σ2 g2
    |.ct σ2 g2=>forL src t body f (i+1) σ2 g2
    |.bk σ2 g2=>.nx σ2 g2
    |o=>o)
   |none=>.stuck)
  |some none=>.nx σ g
  |none=>.stuck
noncomputable def mFor(it:MI)(t:MG)(body:MS):MS:=λσ g=>match it σ g with
 |.ok src g'=>forL src t body (src.top+1) 0 σ g'
 |.raise e g'=>.raise e σ g'
 |.stuck=>.stuck
noncomputable def Zx(c:MT)(body:MS):Nat->S3->G->Out
 |0,_,_=>.stuck
 |f+1,σ,g=>match c σ g with
  |.ok true g1=>(match body σ g1 with
   |.nx σ2 g2=>Zx c body f σ2 g2
   |.ct σ2 g2=>Zx c body f σ2 g2
   |.bk σ2 g2=>.nx σ2 g2
   |o=>o)
  |.ok false g1=>.nx σ g1
  |.raise e g1=>.raise e σ g1
  |.stuck=>.stuck
open Classical in
noncomputable def QbA(c:MT)(body:MS):MS:=λσ g=>if h:∃f,Zx c body f σ g≠.stuck then Zx c body h.choose σ g else .stuck
noncomputable def JB(src:Src)(t:MG)(c:MT)(e:ME):Nat->Nat->S3->G->List D->Res (List D)
 |0,_,_,_,_=>.stuck
 |f+1,i,σ,g,acc=>match src.at' g i with
  |some (some d)=>(match t d σ with
   |some σ1=>(match c σ1 g with
    |.ok b g1=>if b=true then (match e σ1 g1 with
     |.ok y g2=>JB src t c e f (i+1) σ1 g2 (acc++[y])
     |_=>.stuck) else JB src t c e f (i+1) σ1 g1 acc
    |_=>.stuck)
   |none=>.stuck)
  |some none=>.ok acc g
  |none=>.stuck
noncomputable def capt(n:Nat)(cap:List Nat)(σ:S3):S3:=List.replicate n none++cap.map λi=>(σ[i]?).getD none
noncomputable def newL(ds:List D)(g:G):Res D:=if ds.length<=SZ then .ok (.ref g.length) (g++[.lst ds]) else .stuck
noncomputable def pTup(xs:List D)(g:G):Res D:=if xs.length<=SZ then .ok (.tup xs) g else .stuck
noncomputable def JC(it:MI)(n:Nat)(cap:List Nat)(t:MG)(c:MT)(e:ME):ME:=λσ g=>match it σ g with
 |.ok src g1=>if src.top<=SZ then (match JB src t c e (src.top+1) 0 (capt n cap σ) g1 []with
  |.ok ds g2=>.ok (.ref g2.length) (g2++[.lst ds])
  |_=>.stuck) else .stuck
 |_=>.stuck
noncomputable def YM:MT:=λ_ g=>.ok true g
noncomputable def mDef(k n:Nat)(body:MS):MF:=λds g=>if ds.length=k then (match body (ds.map some++List.replicate n none) g with
 |.nx _ g'=>.ok .non g'
 |.rt d g'=>.ok d g'
 |.raise e _ g'=>.raise e g'
 |_=>.stuck) else .stuck
noncomputable def Qo(f:MF)(a:MA):ME:=λσ g=>(a σ g).bind f
noncomputable def Qcn(cc:Nat)(m:Str)(f:MF)(o:ME)(a:MA):ME:=λσ g=>(o σ g).bind λx g1=>match x with
 |.ref n=>(match g1[n]? with
  |some (.ins c fs)=>if c=cc/\fs.lookup m=none then (a σ g1).bind λxs g2=>f (.ref n::xs) g2 else .stuck
  |_=>.stuck)
 |_=>.stuck
noncomputable def QbB(c:Nat)(f:MF)(a:MA):ME:=λσ g=>(a σ g).bind λxs g1=>(f (.ref g1.length::xs) (g1++[.ins c []])).bind λd g2=>match d with
 |.non=>.ok (.ref g1.length) g2
 |_=>.stuck
noncomputable def ZU(cs:List Nat)(f:Str)(o:ME):ME:=mOp1 (λx g=>match x with
 |.ref n=>(match g[n]? with
  |some (.ins c fs)=>if c∈cs then (match fs.lookup f with
   |some d=>.ok d g
   |none=>.stuck) else .stuck
  |_=>.stuck)
 |_=>.stuck) o
noncomputable def putG(f:Str)(v:D):List (Str×D)->List (Str×D)
 |[]=>[(f,v)]
 | (g,x)::r=>if g=f then (g,v)::r else (g,x)::putG f v r
noncomputable def QP(cs:List Nat)(f:Str)(o v:ME):MS:=λσ g=>match v σ g with
 |.ok y g1=>(match o σ g1 with
  |.ok (.ref n) g2=>(match g2[n]? with
   |some (.ins c fs)=>if c∈cs/\fs.length<100 then .nx σ (g2.set n (.ins c (putG f y fs))) else .stuck
   |_=>.stuck)
  |.raise e g'=>.raise e σ g'
  |_=>.stuck)
 |.raise e g'=>.raise e σ g'
 |.stuck=>.stuck
noncomputable def ixD(n:Nat)(i:Int):Option Nat:=if 0<=i then (if i<n then some i.toNat else none) else if -(n:Int)<=i then some (i+n).toNat else none
noncomputable def YQ(o i v:ME):MS:=λσ g=>match v σ g with
 |.ok y g1=>(match o σ g1 with
  |.ok (.ref n) g2=>(match i σ g2 with
   |.ok (.int k) g3=>(match g3[n]? with
    |some (.lst ds)=>(match ixD ds.length k with
     |some j=>.nx σ (g3.set n (.lst (ds.set j y)))
     |none=>.stuck)
    |_=>.stuck)
   |.raise e g'=>.raise e σ g'
   |_=>.stuck)
  |.raise e g'=>.raise e σ g'
  |_=>.stuck)
 |.raise e g'=>.raise e σ g'
 |.stuck=>.stuck
noncomputable def Qa3(d:D)(g:G):Res Src:=match d with
 |.tup ds=>.ok ⟨λ_ i=>some ds[i]?,ds.length⟩ g
 |.fl ds=>.ok ⟨λ_ i=>some ds[i]?,ds.length⟩ g
 |.ref n=>(match g[n]? with
  |some (.lst ds)=>.ok ⟨λg i=>(match g[n]? with|some (.lst es)=>some es[i]? | _=>none),ds.length⟩ g
  |_=>.stuck)
 |_=>.stuck
noncomputable def Zy(a:ME):MI:=λσ g=>(a σ g).bind Qa3
noncomputable def QX(lo:Int)(n:Nat):Src:=⟨λ_ i=>some (if i<n then some (.int (lo+i)) else none),n⟩
noncomputable def inR(j:Int):Prop:=-(2^62)<=j/\j<2^62
noncomputable instance (j:Int):Decidable (inR j):=inferInstanceAs (Decidable (_/\_))
noncomputable def Qx(a:ME):MI:=λσ g=>(a σ g).bind λd g1=>match d with
 |.int j=>if inR j then .ok (QX 0 j.toNat) g1 else .stuck
 |_=>.stuck
noncomputable def QB(g:G):D->Option (Bool×List D)
 |.tup ds=>some (false,ds)
 |.fl ds=>some (true,ds)
 |.ref n=>(match g[n]? with
  |some (.lst ds)=>some (true,ds)
  |_=>none)
 |_=>none
noncomputable def QcE(d1 d2:D)(g:G):Res Src:=match QB g d1,QB g d2 with
 |some (_,xs),some (_,ys)=>.ok ⟨λg i=>(match QB g d1,QB g d2 with
  |some (_,xs),some (_,ys)=>(match xs[i]?,ys[i]? with
   |some x,some y=>some (some (.tup [x,y]))
   |_,_=>some none)
  |_,_=>none),min xs.length ys.length⟩ g
 |_,_=>.stuck
noncomputable def Qa4(a b:ME):MI:=λσ g=>(a σ g).bind λx g1=>(b σ g1).bind λy g2=>QcE x y g2
noncomputable def pAdd(x y:D)(g:G):Res D:=match x,y with
 |.int i,.int j=>.ok (.int (i+j)) g
 |.tup xs,.tup ys=>if xs.length+ys.length<=SZ then .ok (.tup (xs++ys)) g else .stuck
 |.ref n,.ref m=>(match g[n]?,g[m]? with
  |some (.lst xs),some (.lst ys)=>if xs.length+ys.length<=SZ then .ok (.ref g.length) (g++[.lst (xs++ys)]) else .stuck
  |_,_=>.stuck)
 |_,_=>.stuck
noncomputable def pSub(x y:D)(g:G):Res D:=match x,y with
 |.int i,.int j=>.ok (.int (i-j)) g
 |_,_=>.stuck
noncomputable def cM(i:Int):Prop:=-(2^64)<i/\i<2^64
noncomputable instance (j:Int):Decidable (cM j):=inferInstanceAs (Decidable (_/\_))
noncomputable def pMul(x y:D)(g:G):Res D:=match x,y with
 |.int i,.int j=>if cM i\/cM j then .ok (.int (i*j)) g else .stuck
 |.ref n,.int k=>(match g[n]? with
  |some (.lst ds)=>if (0<=k/\k<1073741824)/\ds.length*k.toNat<=SZ then .ok (.ref g.length) (g++[.lst (List.replicate k.toNat ds).flatten]) else .stuck
  |_=>.stuck)
 |_,_=>.stuck
noncomputable def Z6(x y:D)(g:G):Res D:=match x,y with
 |.int i,.int j=>if 0<j/\j<1073741824 then .ok (.int (i/j)) g else .stuck
 |_,_=>.stuck
noncomputable def pMod(x y:D)(g:G):Res D:=match x,y with
 |.int i,.int j=>if 0<j then .ok (.int (i%j)) g else .stuck
 |_,_=>.stuck
noncomputable def pNeg(x:D)(g:G):Res D:=match x with
 |.int i=>.ok (.int (-i)) g
 |_=>.stuck
noncomputable def pCmp(r:Int->Int->Bool)(x y:D)(g:G):Res D:=match x,y with
 |.int i,.int j=>.ok (.bl (r i j)) g
 |_,_=>.stuck
noncomputable def pLt:=pCmp λi j=>decide (i<j)
noncomputable def pLe:=pCmp λi j=>decide (i<=j)
noncomputable def pGt:=pCmp λi j=>decide (j<i)
noncomputable def pGe:=pCmp λi j=>decide (j<=i)
noncomputable def b2I(b:Bool):Int:=if b then 1 else 0
noncomputable def eqGs(eq:D->D->Option Bool):List D->List D->Option Bool
 |[],[]=>some true
 |x::xs,y::ys=>(match eq x y,eqGs eq xs ys with
  |some a,some b=>some (a && b)
  |_,_=>none)
 |_,_=>some false
noncomputable def eqI:Nat->D->D->Option Bool
 |0,x,y=>(match x,y with
  |.int i,.int j=>some (i == j)
  |_,_=>none)
 |f+1,x,y=>(match x,y with
  |.int i,.int j=>some (i == j)
  |.tup xs,.tup ys=>eqGs (eqI f) xs ys
  |_,_=>none)
noncomputable def eqT(g:G)(x y:D):Option Bool:=match x,y with
 |.int i,.int j=>some (i == j)
 |.str s,.str t=>some (s == t)
 |.bl a,.bl b=>some (a == b)
 |.tup xs,.tup ys=>eqGs (eqI 2) xs ys
 |.tup _,.str _=>some false
 |.non,.int _=>some false
 |.ref n,.ref m=>(match g[n]?,g[m]? with
  |some (.lst xs),some (.lst ys)=>if xs.length=ys.length then eqGs (eqI 2) xs ys else some false
  |_,_=>none)
 |_,_=>none
noncomputable def pEq(x y:D)(g:G):Res D:=match eqT g x y with
 |some b=>.ok (.bl b) g
 |none=>.stuck
noncomputable def QdT:List D->Option (List Int)
 |[]=>some []
 |.int i::r=>(QdT r).map (i :: ·)
 |_::_=>none
noncomputable def neT(g:G)(x y:D):Option Bool:=match x,y with
 |.int i,.int j=>some (i == j)
 |.int _,.non=>some false
 |.str s,.str t=>some (s == t)
 |.tup xs,.tup ys=>eqGs (eqI 2) xs ys
 |.bl a,.bl b=>some (a == b)
 |.ref n,.ref m=>(match g[n]?,g[m]? with
  |some (.lst xs),some (.lst ys)=>if xs.length=ys.length then eqGs (eqI 2) xs ys else some false
  |_,_=>none)
 |_,_=>none
noncomputable def pNe(x y:D)(g:G):Res D:=match neT g x y with
 |some b=>.ok (.bl (!b)) g
 |none=>.stuck
noncomputable def isNon:D->Bool
 |.non=>true
 |_=>false
noncomputable def pIs(x y:D)(g:G):Res D:=match y with
 |.non=>.ok (.bl (isNon x)) g
 |_=>.stuck
noncomputable def Qaq(x y:D)(g:G):Res D:=match y with
 |.non=>.ok (.bl (!isNon x)) g
 |_=>.stuck
noncomputable def atD{α:Type}(xs:List α)(i:Int):Option α:=(ixD xs.length i).bind λj=>xs[j]?
noncomputable def pIx(x y:D)(g:G):Res D:=match x,y with
 |.tup ds,.int i=>(match atD ds i with
  |some d=>.ok d g
  |none=>.stuck)
 |.fl ds,.int i=>(match atD ds i with
  |some d=>.ok d g
  |none=>.stuck)
 |.ref n,.int i=>(match g[n]? with
  |some (.lst ds)=>(match atD ds i with
   |some d=>.ok d g
   |none=>.stuck)
  |_=>.stuck)
 |.str s,.int i=>if s.length<=SZ then (match atD s.cps.toList i with
  |some c=>.ok (.str ⟨#[c]⟩) g
  |none=>.stuck) else .stuck
 |_,_=>.stuck
noncomputable def sIxD(n d:Nat):Option Int->Nat
 |none=>d
 |some v=>if v<0 then (v+(n:Int)).toNat else min v.toNat n
noncomputable def cutD{α:Type}(xs:List α)(lo hi:Option Int):List α:=(xs.drop (sIxD xs.length 0 lo)).take (sIxD xs.length xs.length hi-sIxD xs.length 0 lo)
noncomputable def QbC(x:D)(lo hi:Option Int)(g:G):Res D:=match x with
 |.tup ds=>.ok (.tup (cutD ds lo hi)) g
 |.fl ds=>.ok (.ref g.length) (g++[.lst (cutD ds lo hi)])
 |.ref n=>(match g[n]? with
  |some (.lst ds)=>.ok (.ref g.length) (g++[.lst (cutD ds lo hi)])
  |_=>.stuck)
 |_=>.stuck
noncomputable abbrev MO:=S3->G->Res (Option Int)
noncomputable def JD:MO:=λ_ g=>.ok none g
noncomputable def Qco(a:ME):MO:=λσ g=>(a σ g).bind λd g1=>match d with
 |.int i=>.ok (some i) g1
 |_=>.stuck
noncomputable def Qar(a:ME)(lo hi:MO):ME:=λσ g=>(a σ g).bind λx g1=>(lo σ g1).bind λl g2=>(hi σ g2).bind λh g3=>QbC x l h g3
noncomputable def pLen(x:D)(g:G):Res D:=match x with
 |.tup ds=>.ok (.int ds.length) g
 |.fl ds=>.ok (.int ds.length) g
 |.ref n=>(match g[n]? with
  |some (.lst ds)=>.ok (.int ds.length) g
  |_=>.stuck)
 |_=>.stuck
noncomputable def YR(x:D)(g:G):Res D:=match x with
 |.tup ds=>.ok (.tup ds) g
 |.fl ds=>.ok (.tup ds) g
 |.ref n=>(match g[n]? with
  |some (.lst ds)=>.ok (.tup ds) g
  |_=>.stuck)
 |_=>.stuck
noncomputable def Qhk(x:D)(g:G):Res D:=match x with
 |.tup ds=>.ok (.ref g.length) (g++[.lst ds])
 |.fl ds=>.ok (.ref g.length) (g++[.lst ds])
 |.ref n=>(match g[n]? with
  |some (.lst ds)=>.ok (.ref g.length) (g++[.lst ds])
  |_=>.stuck)
 |_=>.stuck
noncomputable def Yu(o e:ME):ME:=λσ g=>(o σ g).bind λx g1=>match x with
 |.ref n=>(match g1[n]? with
  |some (.lst _)=>(e σ g1).bind λy g2=>(match g2[n]? with
   |some (.lst ds)=>if ds.length<SZ then .ok .non (g2.set n (.lst (ds++[y]))) else .stuck
   |_=>.stuck)
  |_=>.stuck)
 |_=>.stuck
noncomputable def pPop(x:D)(g:G):Res D:=match x with
 |.ref n=>(match g[n]? with
  |some (.lst ds)=>(match ds[ds.length-1]? with
   |some y=>.ok y (g.set n (.lst ds.dropLast))
   |none=>.stuck)
  |_=>.stuck)
 |_=>.stuck
inductive Ty where
 |non|bool|int|str|tuple|list|dict
 deriving DecidableEq
noncomputable def Ty.name:Ty->String
 |.non => "NoneType" |.bool => "bool" |.int => "int" |.str => "str" |.tuple => "tuple" |.list => "list" |.dict => "dict"
noncomputable def tyLe(t c:Ty):Bool:=t == c || (t == .bool && c == .int)
noncomputable def tyOf(g:G):D->Option Ty
 |.non=>some .non
 |.bl _=>some .bool
 |.int _=>some .int
 |.str _=>some .str
 |.tup _=>some .tuple
 |.fl _=>some .list
 |.ref n=>(match g[n]? with
  |some (.lst _)=>some .list
  |some (.dct _)=>some .dict
  |_=>none)
noncomputable def ZV(c:Ty)(x:D)(g:G):Res D:=match tyOf g x with
 |some t=>.ok (.bl (tyLe t c)) g
 |none=>.stuck
noncomputable def allB:List D->Option Bool
 |[]=>some true
 |.bl b::r=>(allB r).map (b && ·)
 |_::_=>none
noncomputable def pAll(x:D)(g:G):Res D:=match x with
 |.ref n=>(match g[n]? with
  |some (.lst ds)=>(match allB ds with
   |some b=>.ok (.bl b) g
   |none=>.stuck)
  |_=>.stuck)
 |_=>.stuck
noncomputable def Qcp:D->Bool
 |.non=>true
 |.bl _=>true
 |.int _=>true
 |.str _=>true
 |_=>false
noncomputable def eqF(x y:D):Bool:=match x,y with
 |.non,.non=>true
 |.bl a,.bl b=>a == b
 |.int i,.int j=>i == j
 |.str s,.str t=>s == t
 |.bl a,.int j=>b2I a == j
 |.int i,.bl b=>i == b2I b
 |_,_=>false
noncomputable def pIn(neg:Bool)(x y:D)(g:G):Res D:=match QB g y with
 |some (_,ds)=>if Qcp x=true/\ds.all Qcp=true then .ok (.bl (if neg=true then !(ds.any λd=>eqF d x) else ds.any λd=>eqF d x)) g else .stuck
 |none=>.stuck
end L3
namespace L3
open PySem PySem.Spec PyProof.Rows L2
noncomputable def SqF(K:PySem.W.Frag)(H:Hp)(a:Addr)(xs:List V):Prop:=(∃o,H a=some (.frz o (.lst xs)))\/SqL K (λ_=>none) a xs
theorem SqF.sq{K:PySem.W.Frag}{H:Hp}{a:Addr}{xs:List V}(h:SqF K H a xs):SqL K H a xs:=by
 rcases h with⟨o,h⟩|(h|⟨o,h⟩)|h
 ·exact .inl (.inr ⟨o,h⟩)
 ·cases h
 ·cases h
 ·exact .inr h
mutual
inductive Den(K:PySem.W.Frag)(μ:List Addr)(H:Hp):V->D->Prop where
 |non:Den K μ H .non .non
 |bl (b:Bool):Den K μ H (.bl b) (.bl b)
 |int (i:Int):Den K μ H (.int i) (.int i)
 |str (x:Str):Den K μ H (.str x) (.str x)
 |ref {n:Nat} {a:Addr} (h:μ[n]?=some a):Den K μ H (.ref a) (.ref n)
 |tup {a:Addr} {vs:List V} {ds:List D} (h:SqT K H a vs) (hs:Dens K μ H vs ds):Den K μ H (.ref a) (.tup ds)
 |fl {a:Addr} {vs:List V} {ds:List D} (h:SqF K H a vs) (hs:Dens K μ H vs ds):Den K μ H (.ref a) (.fl ds)
inductive Dens(K:PySem.W.Frag)(μ:List Addr)(H:Hp):List V->List D->Prop where
 |nil:Dens K μ H [] []
 |cons {v:V} {d:D} {vs:List V} {ds:List D} (h:Den K μ H v d) (hs:Dens K μ H vs ds):Dens K μ H (v::vs) (d::ds)
end
structure Ext(K:PySem.W.Frag)(μ:List Addr)(H:Hp)(μ':List Addr)(H':Hp):Prop where
 pre:∃t,μ'=μ++t
 tup:∀a xs,SqT K H a xs->SqT K H' a xs
 fl:∀a xs,SqF K H a xs->SqF K H' a xs
section
variable{K:PySem.W.Frag}{ca:Nat->Addr}{μ μ' μ'':List Addr}{H H' H'':Hp}
theorem Ext.refl:Ext K μ H μ H:=⟨⟨[],by simp⟩,λ_ _ h=>h,λ_ _ h=>h⟩
theorem Ext.trans(a:Ext K μ H μ' H')(b:Ext K μ' H' μ'' H''):Ext K μ H μ'' H'':=by
 obtain⟨t,e⟩:=a.pre
 obtain⟨u,f⟩:=b.pre
 exact⟨⟨t++u,by rw[f,e,UG]⟩,λx xs h=>b.tup x xs (a.tup x xs h),λx xs h=>b.fl x xs (a.fl x xs h)⟩
theorem Ext.at(e:Ext K μ H μ' H'){n:Nat}{a:Addr}(h:μ[n]?=some a):μ'[n]?=some a:=by
 obtain⟨t,rfl⟩:=e.pre
 have hl:n<μ.length:=(Up.mp h).1
 rw[Uy hl]
 exact h
mutual
theorem Den.mono(e:Ext K μ H μ' H'):∀{v:V}{d:D},Den K μ H v d->Den K μ' H' v d
 |_,_,.non=>.non
 |_,_,.bl b=>.bl b
 |_,_,.int i=>.int i
 |_,_,.str x=>.str x
 |_,_,.ref h=>.ref (e.at h)
 |_,_,.tup h hs=>.tup (e.tup _ _ h) (Dens.mono e hs)
 |_,_,.fl h hs=>.fl (e.fl _ _ h) (Dens.mono e hs)
theorem Dens.mono(e:Ext K μ H μ' H'):∀{vs:List V}{ds:List D},Dens K μ H vs ds->Dens K μ' H' vs ds
 |_,_,.nil=>.nil
 |_,_,.cons h hs=>.cons (Den.mono e h) (Dens.mono e hs)
end
theorem Dens.length:∀{vs:List V}{ds:List D},Dens K μ H vs ds->vs.length=ds.length
 |_,_,.nil=>rfl
 |_,_,.cons _ t=>by rw[UQ,UQ,Dens.length t]
theorem Dens.get:∀{vs:List V}{ds:List D}{i:Nat}{d:D},Dens K μ H vs ds->ds[i]?=some d->∃v,vs[i]?=some v/\Den K μ H v d
 |_,_,_,_,.nil,e=>by simp at e
 |_,_,0,_,.cons r _,e=>by simp at e;subst e;exact⟨_,rfl,r⟩
 |_,_,i+1,x,.cons _ t,e=>by
  obtain⟨u,h1,h2⟩:=Dens.get (i:=i) (d:=x) t (by simpa using e)
  exact⟨u,by simpa using h1,h2⟩
theorem Dens.getV:∀{vs:List V}{ds:List D}{i:Nat}{v:V},Dens K μ H vs ds->vs[i]?=some v->∃d,ds[i]?=some d/\Den K μ H v d
 |_,_,_,_,.nil,e=>by simp at e
 |_,_,0,_,.cons r _,e=>by simp at e;subst e;exact⟨_,rfl,r⟩
 |_,_,i+1,x,.cons _ t,e=>by
  obtain⟨u,h1,h2⟩:=Dens.getV (i:=i) (v:=x) t (by simpa using e)
  exact⟨u,by simpa using h1,h2⟩
theorem Dens.append:∀{vs ws:List V}{ds es:List D},Dens K μ H vs ds->Dens K μ H ws es->Dens K μ H (vs++ws) (ds++es)
 |_,_,_,_,.nil,h=>h
 |_,_,_,_,.cons a b,h=>.cons a (Dens.append b h)
theorem Dens.set{x:V}{u:D}(r:Den K μ H x u):∀{xs:List V}{us:List D}(i:Nat),Dens K μ H xs us->Dens K μ H (xs.set i x) (us.set i u)
 |_,_,_,.nil=>.nil
 |_,_,0,.cons _ t=>.cons r t
 |_,_,i+1,.cons q t=>.cons q (Dens.set r i t)
theorem Dens.take:∀{xs:List V}{us:List D}(n:Nat),Dens K μ H xs us->Dens K μ H (xs.take n) (us.take n)
 |_,_,0,_=>.nil
 |_,_,_+1,.nil=>.nil
 |_,_,n+1,.cons r t=>.cons r (Dens.take n t)
theorem Dens.drop:∀{xs:List V}{us:List D}(n:Nat),Dens K μ H xs us->Dens K μ H (xs.drop n) (us.drop n)
 |_,_,0,r=>r
 |_,_,_+1,.nil=>.nil
 |_,_,n+1,.cons _ t=>Dens.drop n t
theorem Dens.ints(ns:List Int):Dens K μ H (ns.map V.int) (ns.map D.int):=by
 induction ns with
 |nil=>exact .nil
 |cons n r ih=>exact .cons (.int n) ih
noncomputable def FRel(K:PySem.W.Frag)(μ:List Addr)(H:Hp):List (Str×V)->List (Str×D)->Prop:=Paired λp q=>p.1=q.1/\Den K μ H p.2 q.2
noncomputable def KRel(K:PySem.W.Frag)(μ:List Addr)(H:Hp):List (Key×V)->List (Key×D)->Prop:=Paired λp q=>p.1=q.1/\Den K μ H p.2 q.2
noncomputable def XOb(ca:Nat->Addr)(x:Xc)(o:Obj):Prop:=o.cls=.ref (ca x.1)/\o.dict=none
theorem XOb.map{ca:Nat->Addr}{x:Xc}{o:Obj}(h:XOb ca x o)(f:Array Value->Array Value):XOb ca x (o.mapFields f):=by
 obtain⟨c,d,dt,sl⟩:=o
 cases dt <;> exact h
noncomputable def XO(ca:Nat->Addr)(a:Addr)(x:Xc):HO:=.ext λh=>∃o vs,h.get? a=some o/\XOb ca x o/\o.data=.fields vs
noncomputable def ORep(K:PySem.W.Frag)(ca:Nat->Addr)(μ:List Addr)(H:Hp)(a:Addr):GO->Prop
 |.dct ks=>∃kv,H a=some (.dK kv)/\KRel K μ H kv ks
 |.exc x=>H a=some (XO ca a x)
 |.lst ds=>∃vs,H a=some (.lst vs)/\Dens K μ H vs ds
 |.ins c fs=>∃dx fv,H a=some (.ins (ca c) dx fv)/\FRel K μ H fv fs
structure GRep(K:PySem.W.Frag)(ca:Nat->Addr)(μ:List Addr)(H:Hp)(g:G):Prop where
 len:μ.length=g.length
 nd:μ.Nodup
 obj:∀(n:Nat)(a:Addr)(o:GO),μ[n]?=some a->g[n]?=some o->ORep K ca μ H a o
structure Rep(K:PySem.W.Frag)(ca:Nat->Addr)(μ:List Addr)(σ3:S3)(g:G)(σ:L2.St)(H:Hp):Prop where
 g:GRep K ca μ H g
 len:σ.length=σ3.length
 st:∀(i:Nat)(d:D),σ3[i]?=some (some d)->∃v,σ[i]?=some (some v)/\Den K μ H v d
theorem FRel.mono(e:Ext K μ H μ' H'){fv:List (Str×V)}{fs:List (Str×D)}(h:FRel K μ H fv fs):FRel K μ' H' fv fs:=Paired.imp' (λ_ _ q=>⟨q.1,q.2.mono e⟩) h
theorem KRel.mono(e:Ext K μ H μ' H'){fv:List (Key×V)}{fs:List (Key×D)}(h:KRel K μ H fv fs):KRel K μ' H' fv fs:=Paired.imp' (λ_ _ q=>⟨q.1,q.2.mono e⟩) h
theorem Rep.go{σ3:S3}{g g':G}{σ:L2.St}(r:Rep K ca μ σ3 g σ H)(e:Ext K μ H μ' H')(h:GRep K ca μ' H' g'):Rep K ca μ' σ3 g' σ H' :=
 ⟨h,r.len,λi d z=>by obtain⟨v,h1,h2⟩:=r.st i d z;exact⟨v,h1,h2.mono e⟩⟩
theorem GRep.addr{g:G}(r:GRep K ca μ H g){n:Nat}{o:GO}(h:g[n]?=some o):∃a,μ[n]?=some a/\ORep K ca μ H a o:=by
 have hl:n<g.length:=(Up.mp h).1
 have hm:n<μ.length:=by rw[r.len];exact hl
 exact⟨μ[n],by simp[hm],r.obj n _ o (by simp[hm]) h⟩
theorem ORep.is{a:Addr}{o:GO}(h:ORep K ca μ H a o):∃u,H a=some u:=by
 cases o with
 |lst ds=>obtain⟨_,h,_⟩:=h;exact⟨_,h⟩
 |ins c fs=>obtain⟨_,_,h,_⟩:=h;exact⟨_,h⟩
 |dct ks=>obtain⟨_,h,_⟩:=h;exact⟨_,h⟩
 |exc x=>exact⟨_,h⟩
theorem GRep.known{g:G}(r:GRep K ca μ H g){a:Addr}(h:a∈μ):∃u,H a=some u:=by
 obtain⟨n,hn⟩:=List.getElem?_of_mem h
 have hl:n<μ.length:=(Up.mp hn).1
 have hg:n<g.length:=by rw[<-r.len];exact hl
 exact(r.obj n a g[n] hn (by simp[hg])).is
theorem QZ{p:Addr}{o:HO}(hp:H p=none):Ext K μ H μ (upd H p o):=⟨⟨[],by simp⟩,λa xs h=>by
 rcases h with(h|⟨u,h⟩)|h
 ·exact .inl (.inl (by rw[Qw (QT h hp)];exact h))
 ·exact .inl (.inr ⟨u,by rw[Qw (QT h hp)];exact h⟩)
 ·exact .inr h,λa xs h=>by
 rcases h with⟨u,h⟩|h
 ·exact .inl ⟨u,by rw[Qw (QT h hp)];exact h⟩
 ·exact .inr h⟩
theorem ORep.mono{a:Addr}{o:GO}(e:Ext K μ H μ' H')(ha:∀u,H a=some u->H' a=some u)(h:ORep K ca μ H a o):ORep K ca μ' H' a o:=by
 cases o with
 |lst ds=>obtain⟨vs,h,q⟩:=h;exact⟨vs,ha _ h,q.mono e⟩
 |ins c fs=>obtain⟨dx,fv,h,q⟩:=h;exact⟨dx,fv,ha _ h,q.mono e⟩
 |dct ks=>obtain⟨kv,h,q⟩:=h;exact⟨kv,ha _ h,q.mono e⟩
 |exc x=>exact ha _ h
theorem GRep.new{g:G}{p:Addr}{o:HO}(r:GRep K ca μ H g)(hp:H p=none):GRep K ca μ (upd H p o) g :=
 ⟨r.len,r.nd,λn a u h1 h2=>(r.obj n a u h1 h2).mono (QZ hp) λz hz=>by rw[Qw (QT hz hp)];exact hz⟩
theorem Qt{p:Addr}{o:HO}(hp:H p=none):Ext K μ H (μ++[p]) (upd H p o):=⟨⟨[p],rfl⟩,(QZ (μ:=μ) hp).tup,(QZ (μ:=μ) hp).fl⟩
theorem GRep.push{g:G}{p:Addr}{o:HO}{u:GO}(r:GRep K ca μ H g)(hp:H p=none)(ho:ORep K ca (μ++[p]) (upd H p o) p u):GRep K ca (μ++[p]) (upd H p o) (g++[u]):=by
 have nm:p∉μ:=λh=>by
  obtain⟨z,hz⟩:=r.known h
  rw[hp]at hz;cases hz
 refine⟨by rw[Us,Us,r.len];rfl,?_,λn a w h1 h2=>?_⟩
 ·rw[List.nodup_append]
  exact⟨r.nd,by simp,λx hx y hy e=>nm (by rw[Uz.mp hy]at e;rw[<-e];exact hx)⟩
 ·by_cases hn:n<g.length
  ·rw[Uy hn]at h2
   rw[Uy (by rw[r.len];exact hn)]at h1
   exact(r.obj n a w h1 h2).mono (Qt hp) λz hz=>by rw[Qw (QT hz hp)];exact hz
  ·rw[Uu (by omega)]at h2
   rw[Uu (by rw[r.len];omega)]at h1
   have e0:n-g.length=0:=by
    have:=(Up.mp h2).1
    simp at this;omega
   rw[e0]at h2
   rw[r.len,e0]at h1
   simp at h1 h2
   subst h1 h2
   exact ho
theorem JE{a:Addr}{o o':HO}(h:H a=some o)(no:∀xs,o≠.tup xs)(nf:∀b u,o≠.frz b u):Ext K μ H μ (upd H a o'):=⟨⟨[],by simp⟩,λb xs hb=>by
 rcases hb with(z|⟨u,z⟩)|z
 ·exact .inl (.inl (by rw[Qw (QkA z h (Ne.symm (no xs)))];exact z))
 ·exact .inl (.inr ⟨u,by rw[Qw (QkA z h (Ne.symm (nf u _)))];exact z⟩)
 ·exact .inr z,λb xs hb=>by
 rcases hb with⟨u,z⟩|z
 ·exact .inl ⟨u,by rw[Qw (QkA z h (Ne.symm (nf u _)))];exact z⟩
 ·exact .inr z⟩
theorem GRep.set{g:G}{n:Nat}{a:Addr}{o o':HO}{u:GO}(r:GRep K ca μ H g)(hn:μ[n]?=some a)(h:H a=some o)(no:∀xs,o≠.tup xs)(nf:∀b u,o≠.frz b u)(ho:ORep K ca μ (upd H a o') a u):
  GRep K ca μ (upd H a o') (g.set n u):=by
 refine⟨by rw[T8,r.len],r.nd,λm b w h1 h2=>?_⟩
 by_cases e:m=n
 ·subst e
  rw[hn]at h1;cases h1
  have hl:m<g.length:=by
   rw[<-r.len];exact(Up.mp hn).1
  rw[Td hl]at h2;cases h2
  exact ho
 ·rw[Uh (Ne.symm e)]at h2
  have nb:b≠a:=λz=>by
   subst z
   have e1:=(Up.mp h1)
   have e2:=(Up.mp hn)
   obtain⟨l1,q1⟩:=e1
   obtain⟨l2,q2⟩:=e2
   exact e ((List.getElem_inj r.nd).mp (q1.trans q2.symm))
  exact(r.obj m b w h1 h2).mono (JE h no nf) λz hz=>by rw[Qw nb];exact hz
noncomputable abbrev XS:=Xc->L2.St->Hp->Prop
noncomputable def FpW(X:Cx)(pins:List (Addr×Obj))(H:Hp)(b:Addr):Prop :=
 H b=none/\b≠X.env.locals/\b∉X.fs/\(b∈X.ex\/X.s₀.heap.get? b=none)/\(∀x c,X.env.cells.lookup x=some c->c≠b)/\∀p∈X.pn++pins,p.1≠b
structure Fl(X:Cx)(ca:Nat->Addr)(a:Addr)(x:Xc)(H:Hp)(h:Heap):Prop where
 fp:FpW X [] H a
 ln:x.2=none
 ex:∃oe vs,h.get? a=some oe/\XOb ca x oe/\oe.data=.fields vs/\1<vs.size /\
  (vs[1]?=some .none\/∃T oT ts,vs[1]?=some (.ref T)/\T≠a/\FpW X [] H T/\h.get? T=some oT/\oT.data=.fields ts/\3<ts.size/\(ts[3]?=some .none\/ts[3]?=some (rawInt X.env.locals)))
noncomputable def XE(X:Cx)(ca:Nat->Addr)(Φ:XS):Value->Shared->Prop:=λv s=>∃a x σ H,v=.ref a/\Inv X [] σ H s/\Fl X ca a x H s.heap/\Φ x σ H
noncomputable abbrev xon(X:Cx)(pn:List (Addr×Obj)):Cx:={X with pn:=pn,xe:=λ_ _=>False}
noncomputable abbrev xat(X:Cx)(ca:Nat->Addr)(pn:List (Addr×Obj))(Φ:XS):Cx:={X with pn:=pn,xe:=XE (xon X pn) ca Φ}
noncomputable def RaP(K:PySem.W.Frag)(ca:Nat->Addr)(Φ:XS)(σ:L2.St)(H:Hp)(μ:List Addr)(x:Xc)(g':G):Prop:=∀H' μ',Ext K μ H μ' H'->GRep K ca μ' H' g'->Φ x σ H'
noncomputable def Post(K:PySem.W.Frag)(ca:Nat->Addr)(Φ:XS)(σ:L2.St)(Q:VK)(H:Hp)(μ:List Addr):Res D->Prop
 |.ok d g'=>∀v H' μ',Ext K μ H μ' H'->GRep K ca μ' H' g'->Den K μ' H' v d->Q v H'
 |.raise x g'=>RaP K ca Φ σ H μ x g'
 |.stuck=>False
noncomputable def PostT(K:PySem.W.Frag)(ca:Nat->Addr)(Φ:XS)(σ:L2.St)(Q:Bool->Hp->Prop)(H:Hp)(μ:List Addr):Res Bool->Prop
 |.ok b g'=>∀H' μ',Ext K μ H μ' H'->GRep K ca μ' H' g'->Q b H'
 |.raise x g'=>RaP K ca Φ σ H μ x g'
 |.stuck=>False
noncomputable def PostA(K:PySem.W.Frag)(ca:Nat->Addr)(Φ:XS)(σ:L2.St)(Q:List V->Hp->Prop)(H:Hp)(μ:List Addr):Res (List D)->Prop
 |.ok ds g'=>∀vs H' μ',Ext K μ H μ' H'->GRep K ca μ' H' g'->Dens K μ' H' vs ds->Q vs H'
 |.raise x g'=>RaP K ca Φ σ H μ x g'
 |.stuck=>False
noncomputable def PostS(K:PySem.W.Frag)(ca:Nat->Addr)(Φ:XS)(E:Ends)(H:Hp)(μ:List Addr):Out->Prop
 |.nx σ3 g'=>∀σ' H' μ',Ext K μ H μ' H'->Rep K ca μ' σ3 g' σ' H'->E.nx σ' H'
 |.bk σ3 g'=>∀σ' H' μ',Ext K μ H μ' H'->Rep K ca μ' σ3 g' σ' H'->E.bk σ' H'
 |.ct σ3 g'=>∀σ' H' μ',Ext K μ H μ' H'->Rep K ca μ' σ3 g' σ' H'->E.ct σ' H'
 |.rt d g'=>∀v H' μ',Ext K μ H μ' H'->GRep K ca μ' H' g'->Den K μ' H' v d->E.rt v H'
 |.raise x σ3 g'=>∀σ' H' μ',Ext K μ H μ' H'->Rep K ca μ' σ3 g' σ' H'->Φ x σ' H'
 |.stuck=>False
noncomputable def up(K:PySem.W.Frag)(ca:Nat->Addr)(Φ:XS)(m:ME):TE:=λσ H Q=>∃σ3 g μ,Rep K ca μ σ3 g σ H/\Post K ca Φ σ Q H μ (m σ3 g)
noncomputable def upT(K:PySem.W.Frag)(ca:Nat->Addr)(Φ:XS)(m:MT):TT:=λσ H Q=>∃σ3 g μ,Rep K ca μ σ3 g σ H/\PostT K ca Φ σ Q H μ (m σ3 g)
noncomputable def upA(K:PySem.W.Frag)(ca:Nat->Addr)(Φ:XS)(m:MA):TA:=λσ H Q=>∃σ3 g μ,Rep K ca μ σ3 g σ H/\PostA K ca Φ σ Q H μ (m σ3 g)
noncomputable def upS(K:PySem.W.Frag)(ca:Nat->Addr)(Φ:XS)(m:MS):TS:=λE σ H=>∃σ3 g μ,Rep K ca μ σ3 g σ H/\PostS K ca Φ E H μ (m σ3 g)
noncomputable def PE3(ca:Nat->Addr)(X:Cx)(e:Expr)(m:ME):Prop:=∀pn Φ,PE (xat X ca pn Φ) e (up X.K ca Φ m)
noncomputable def PT3(ca:Nat->Addr)(X:Cx)(e:Expr)(m:MT):Prop:=∀pn Φ,PT (xat X ca pn Φ) e (upT X.K ca Φ m)
noncomputable def PW3(ca:Nat->Addr)(X:Cx)(e:Expr)(m:MT):Prop:=∀pn Φ,PW (xat X ca pn Φ) e (upT X.K ca Φ m)
noncomputable def PA3(ca:Nat->Addr)(X:Cx)(es:List Expr)(m:MA):Prop:=∀pn Φ,PA (xat X ca pn Φ) es (upA X.K ca Φ m)
noncomputable def PS3(ca:Nat->Addr)(X:Cx)(st:Stmt)(m:MS):Prop:=∀pn Φ,PS (xat X ca pn Φ) st (upS X.K ca Φ m)
noncomputable def PSs3(ca:Nat->Addr)(X:Cx)(sts:List Stmt)(m:MS):Prop:=∀pn Φ,PSs (xat X ca pn Φ) sts (upS X.K ca Φ m)
variable{Φ:XS}{σ:L2.St}
theorem RaP.go{x:Xc}{g':G}(e:Ext K μ H μ' H')(h:RaP K ca Φ σ H μ x g'):RaP K ca Φ σ H' μ' x g':=λH2 μ2 e2=>h H2 μ2 (e.trans e2)
theorem Post.go{Q:VK}{r:Res D}(e:Ext K μ H μ' H')(h:Post K ca Φ σ Q H μ r):Post K ca Φ σ Q H' μ' r:=by
 cases r with
 |ok d g'=>exact λv H2 μ2 e2=>h v H2 μ2 (e.trans e2)
 |raise _ _=>exact RaP.go e h
 |stuck=>exact h
theorem PostT.go{Q:Bool->Hp->Prop}{r:Res Bool}(e:Ext K μ H μ' H')(h:PostT K ca Φ σ Q H μ r):PostT K ca Φ σ Q H' μ' r:=by
 cases r with
 |ok d g'=>exact λH2 μ2 e2=>h H2 μ2 (e.trans e2)
 |raise _ _=>exact RaP.go e h
 |stuck=>exact h
theorem PostA.go{Q:List V->Hp->Prop}{r:Res (List D)}(e:Ext K μ H μ' H')(h:PostA K ca Φ σ Q H μ r):PostA K ca Φ σ Q H' μ' r:=by
 cases r with
 |ok d g'=>exact λv H2 μ2 e2=>h v H2 μ2 (e.trans e2)
 |raise _ _=>exact RaP.go e h
 |stuck=>exact h
theorem PostS.go{E:Ends}{r:Out}(e:Ext K μ H μ' H')(h:PostS K ca Φ E H μ r):PostS K ca Φ E H' μ' r:=by
 cases r with
 |nx _ _=>exact λv H2 μ2 e2=>h v H2 μ2 (e.trans e2)
 |bk _ _=>exact λv H2 μ2 e2=>h v H2 μ2 (e.trans e2)
 |ct _ _=>exact λv H2 μ2 e2=>h v H2 μ2 (e.trans e2)
 |rt _ _=>exact λv H2 μ2 e2=>h v H2 μ2 (e.trans e2)
 |raise _ _ _=>exact λv H2 μ2 e2=>h v H2 μ2 (e.trans e2)
 |stuck=>exact h
theorem Post.pure{Q:VK}{g:G}{v:V}{d:D}(h:Post K ca Φ σ Q H μ (.ok d g))(r:GRep K ca μ H g)(q:Den K μ H v d):Q v H:=h v H μ .refl r q
theorem RaP.stmt{x:Xc}{σ3:S3}{g g':G}{E:Ends}(R:Rep K ca μ σ3 g σ H)(h:PostS K ca Φ E H μ (.raise x σ3 g')):RaP K ca Φ σ H μ x g':=λH' μ' e r=>h σ H' μ' e (R.go e r)
theorem QeH{m:ME}{α:Type}{k:D->G->Res α}{σ3:S3}{g:G}(R:Rep K ca μ σ3 g σ H){P:Res α->Hp->List Addr->Prop}(hp:P ((m σ3 g).bind k) H μ)(hst:∀H μ,¬P .stuck H μ)(hra:∀e g H μ,P (.raise e g) H μ->RaP K ca Φ σ H μ e g)(hgo:∀r H μ H' μ',Ext K μ H μ' H'->P r H μ->P r H' μ'):
  up K ca Φ m σ H λx H1=>∃d g1 μ1,Ext K μ H μ1 H1/\Rep K ca μ1 σ3 g1 σ H1/\Den K μ1 H1 x d/\P (k d g1) H1 μ1:=by
 refine⟨σ3,g,μ,R,?_⟩
 cases hm:m σ3 g with
 |ok d g1 =>
  rw[hm]at hp
  exact λv H1 μ1 e1 r1 d1=>⟨d,g1,μ1,e1,R.go e1 r1,d1,hgo _ _ _ _ _ e1 hp⟩
 |raise e g1=>rw[hm]at hp;exact hra _ _ _ _ hp
 |stuck=>rw[hm]at hp;exact(hst _ _ hp).elim
theorem Jm{m:ME}{k:D->G->Res D}{σ3:S3}{g:G}{Q:VK}(R:Rep K ca μ σ3 g σ H)(hp:Post K ca Φ σ Q H μ ((m σ3 g).bind k)):
  up K ca Φ m σ H λx H1=>∃d g1 μ1,Ext K μ H μ1 H1/\Rep K ca μ1 σ3 g1 σ H1/\Den K μ1 H1 x d/\Post K ca Φ σ Q H1 μ1 (k d g1) :=
 QeH (P:=λr H μ=>Post K ca Φ σ Q H μ r) R hp (λ_ _ h=>h) (λ_ _ _ _ h=>h) λ_ _ _ _ _ e h=>h.go e
theorem QmG{m:ME}{k:D->G->Res Bool}{σ3:S3}{g:G}{Q:Bool->Hp->Prop}(R:Rep K ca μ σ3 g σ H)(hp:PostT K ca Φ σ Q H μ ((m σ3 g).bind k)):
  up K ca Φ m σ H λx H1=>∃d g1 μ1,Ext K μ H μ1 H1/\Rep K ca μ1 σ3 g1 σ H1/\Den K μ1 H1 x d/\PostT K ca Φ σ Q H1 μ1 (k d g1) :=
 QeH (P:=λr H μ=>PostT K ca Φ σ Q H μ r) R hp (λ_ _ h=>h) (λ_ _ _ _ h=>h) λ_ _ _ _ _ e h=>h.go e
theorem Qok{m:ME}{k:D->G->Res (List D)}{σ3:S3}{g:G}{Q:List V->Hp->Prop}(R:Rep K ca μ σ3 g σ H)(hp:PostA K ca Φ σ Q H μ ((m σ3 g).bind k)):
  up K ca Φ m σ H λx H1=>∃d g1 μ1,Ext K μ H μ1 H1/\Rep K ca μ1 σ3 g1 σ H1/\Den K μ1 H1 x d/\PostA K ca Φ σ Q H1 μ1 (k d g1) :=
 QeH (P:=λr H μ=>PostA K ca Φ σ Q H μ r) R hp (λ_ _ h=>h) (λ_ _ _ _ h=>h) λ_ _ _ _ _ e h=>h.go e
theorem Qft{m:MT}{α:Type}{k:Bool->G->Res α}{σ3:S3}{g:G}(R:Rep K ca μ σ3 g σ H){P:Res α->Hp->List Addr->Prop}(hp:P ((m σ3 g).bind k) H μ)(hst:∀H μ,¬P .stuck H μ)(hra:∀e g H μ,P (.raise e g) H μ->RaP K ca Φ σ H μ e g)(hgo:∀r H μ H' μ',Ext K μ H μ' H'->P r H μ->P r H' μ'):
  upT K ca Φ m σ H λb H1=>∃g1 μ1,Ext K μ H μ1 H1/\Rep K ca μ1 σ3 g1 σ H1/\P (k b g1) H1 μ1:=by
 refine⟨σ3,g,μ,R,?_⟩
 cases hm:m σ3 g with
 |ok d g1 =>
  rw[hm]at hp
  exact λH1 μ1 e1 r1=>⟨g1,μ1,e1,R.go e1 r1,hgo _ _ _ _ _ e1 hp⟩
 |raise e g1=>rw[hm]at hp;exact hra _ _ _ _ hp
 |stuck=>rw[hm]at hp;exact(hst _ _ hp).elim
theorem QmH{m:MT}{k:Bool->G->Res D}{σ3:S3}{g:G}{Q:VK}(R:Rep K ca μ σ3 g σ H)(hp:Post K ca Φ σ Q H μ ((m σ3 g).bind k)):
  upT K ca Φ m σ H λb H1=>∃g1 μ1,Ext K μ H μ1 H1/\Rep K ca μ1 σ3 g1 σ H1/\Post K ca Φ σ Q H1 μ1 (k b g1) :=
 Qft (P:=λr H μ=>Post K ca Φ σ Q H μ r) R hp (λ_ _ h=>h) (λ_ _ _ _ h=>h) λ_ _ _ _ _ e h=>h.go e
theorem Qhl{m:MT}{k:Bool->G->Res Bool}{σ3:S3}{g:G}{Q:Bool->Hp->Prop}(R:Rep K ca μ σ3 g σ H)(hp:PostT K ca Φ σ Q H μ ((m σ3 g).bind k)):
  upT K ca Φ m σ H λb H1=>∃g1 μ1,Ext K μ H μ1 H1/\Rep K ca μ1 σ3 g1 σ H1/\PostT K ca Φ σ Q H1 μ1 (k b g1) :=
 Qft (P:=λr H μ=>PostT K ca Φ σ Q H μ r) R hp (λ_ _ h=>h) (λ_ _ _ _ h=>h) λ_ _ _ _ _ e h=>h.go e
theorem Qfu{m:MA}{α:Type}{k:List D->G->Res α}{σ3:S3}{g:G}(R:Rep K ca μ σ3 g σ H){P:Res α->Hp->List Addr->Prop}(hp:P ((m σ3 g).bind k) H μ)(hst:∀H μ,¬P .stuck H μ)(hra:∀e g H μ,P (.raise e g) H μ->RaP K ca Φ σ H μ e g)(hgo:∀r H μ H' μ',Ext K μ H μ' H'->P r H μ->P r H' μ'):
  upA K ca Φ m σ H λxs H1=>∃ds g1 μ1,Ext K μ H μ1 H1/\Rep K ca μ1 σ3 g1 σ H1/\Dens K μ1 H1 xs ds/\P (k ds g1) H1 μ1:=by
 refine⟨σ3,g,μ,R,?_⟩
 cases hm:m σ3 g with
 |ok d g1 =>
  rw[hm]at hp
  exact λv H1 μ1 e1 r1 d1=>⟨d,g1,μ1,e1,R.go e1 r1,d1,hgo _ _ _ _ _ e1 hp⟩
 |raise e g1=>rw[hm]at hp;exact hra _ _ _ _ hp
 |stuck=>rw[hm]at hp;exact(hst _ _ hp).elim
theorem QcF{m:MA}{k:List D->G->Res D}{σ3:S3}{g:G}{Q:VK}(R:Rep K ca μ σ3 g σ H)(hp:Post K ca Φ σ Q H μ ((m σ3 g).bind k)):
  upA K ca Φ m σ H λxs H1=>∃ds g1 μ1,Ext K μ H μ1 H1/\Rep K ca μ1 σ3 g1 σ H1/\Dens K μ1 H1 xs ds/\Post K ca Φ σ Q H1 μ1 (k ds g1) :=
 Qfu (P:=λr H μ=>Post K ca Φ σ Q H μ r) R hp (λ_ _ h=>h) (λ_ _ _ _ h=>h) λ_ _ _ _ _ e h=>h.go e
theorem QmI{m:MA}{k:List D->G->Res (List D)}{σ3:S3}{g:G}{Q:List V->Hp->Prop}(R:Rep K ca μ σ3 g σ H)(hp:PostA K ca Φ σ Q H μ ((m σ3 g).bind k)):
  upA K ca Φ m σ H λxs H1=>∃ds g1 μ1,Ext K μ H μ1 H1/\Rep K ca μ1 σ3 g1 σ H1/\Dens K μ1 H1 xs ds/\PostA K ca Φ σ Q H1 μ1 (k ds g1) :=
 Qfu (P:=λr H μ=>PostA K ca Φ σ Q H μ r) R hp (λ_ _ h=>h) (λ_ _ _ _ h=>h) λ_ _ _ _ _ e h=>h.go e
theorem Q5{m:ME}{Q Q':VK}(h:up K ca Φ m σ H Q)(i:∀x H1,Q x H1->Q' x H1):up K ca Φ m σ H Q':=by
 obtain⟨σ3,g,μ,R,p⟩:=h
 refine⟨σ3,g,μ,R,?_⟩
 cases hm:m σ3 g with
 |ok d g1=>rw[hm]at p;exact λv H1 μ1 e r q=>i _ _ (p v H1 μ1 e r q)
 |raise e g1=>rw[hm]at p;exact p
 |stuck=>rw[hm]at p;exact p
theorem Qbi{m:MT}{Q Q':Bool->Hp->Prop}(h:upT K ca Φ m σ H Q)(i:∀x H1,Q x H1->Q' x H1):upT K ca Φ m σ H Q':=by
 obtain⟨σ3,g,μ,R,p⟩:=h
 refine⟨σ3,g,μ,R,?_⟩
 cases hm:m σ3 g with
 |ok d g1=>rw[hm]at p;exact λH1 μ1 e r=>i _ _ (p H1 μ1 e r)
 |raise e g1=>rw[hm]at p;exact p
 |stuck=>rw[hm]at p;exact p
theorem Jn{m:MA}{Q Q':List V->Hp->Prop}(h:upA K ca Φ m σ H Q)(i:∀x H1,Q x H1->Q' x H1):upA K ca Φ m σ H Q':=by
 obtain⟨σ3,g,μ,R,p⟩:=h
 refine⟨σ3,g,μ,R,?_⟩
 cases hm:m σ3 g with
 |ok d g1=>rw[hm]at p;exact λv H1 μ1 e r q=>i _ _ (p v H1 μ1 e r q)
 |raise e g1=>rw[hm]at p;exact p
 |stuck=>rw[hm]at p;exact p
end
theorem Q6{X:Cx}{e:Expr}{t t':TE}(h:PE X e t)(i:∀σ H Q,t' σ H Q->t σ H Q):PE X e t':=λpins s σ H Q I q=>h pins s σ H Q I (i σ H Q q)
theorem QeI{X:Cx}{e:Expr}{t t':TT}(h:PT X e t)(i:∀σ H Q,t' σ H Q->t σ H Q):PT X e t':=λpins s σ H Q I q=>h pins s σ H Q I (i σ H Q q)
theorem Qhm{X:Cx}{e:Expr}{t t':TT}(h:PW X e t)(i:∀σ H Q,t' σ H Q->t σ H Q):PW X e t':=λw pins s σ H Q I q=>h w pins s σ H Q I (i σ H Q q)
theorem Qhn{X:Cx}{e:List Expr}{t t':TA}(h:PA X e t)(i:∀σ H Q,t' σ H Q->t σ H Q):PA X e t':=λp pins s σ H Q I q=>h p pins s σ H Q I (i σ H Q q)
theorem Ye{X:Cx}{e:Stmt}{t t':TS}(h:PS X e t)(i:∀D σ H,t' D σ H->t D σ H):PS X e t':=λpins s σ H D I q=>h pins s σ H D I (i D σ H q)
theorem Qfv{X:Cx}{e:List Stmt}{t t':TS}(h:PSs X e t)(i:∀D σ H,t' D σ H->t D σ H):PSs X e t':=λpins s σ H D I q=>h pins s σ H D I (i D σ H q)
section
variable{X:Cx}{ca:Nat->Addr}{a b c e:Expr}{es rest:List Expr}{ma mb me:ME}{tc ta tb:MT}{mr:MA}{pos:Pos}
theorem Qa(i:Nat){x:Str}(hN:X.N[i]?=some x:=by rfl)(hv:Vis X.env.scope x:=by first|exact Or.inl rfl|exact Or.inr (Or.inl rfl)|exact Or.inr (Or.inr rfl))(hd:(x == ("__debug__" : Str))=false:=by decide)(hcd:(x == ("__classdict__" : Str))=false:=by decide):PE3 ca X (.Name x pos) (mVar i) :=
 λpn Φ=>Q6 (Ql2 (X:=xat X ca pn Φ) hN hv hd hcd) λσ H Q hQ=>by
  obtain⟨σ3,g,μ,R,p⟩:=hQ
  unfold mVar at p
  cases e:σ3[i]? with
  |none=>rw[e]at p;exact p.elim
  |some o =>
   cases o with
   |none=>rw[e]at p;exact p.elim
   |some d =>
    rw[e]at p
    obtain⟨v,h1,h2⟩:=R.st i d e
    exact⟨v,h1,p v H μ .refl R.g h2⟩
theorem Qho{v:V}{d:D}(h:∀pn Φ,PE (xat X ca pn Φ) e (tC v))(hd:∀K μ H,Den K μ H v d):PE3 ca X e (mLit d) :=
 λpn Φ=>Q6 (h pn Φ) λ_ H _ ⟨_,_,μ,R,p⟩=>p v H μ .refl R.g (hd _ _ _)
theorem Qf{i:Int}{j:Nat}:PE3 ca X (.Constant (.int i) j pos) (mLit (.int i)):=Qho (λ_ _=>Ql3) λ_ _ _=>.int i
theorem Qcq{x:Str}{j:Nat}:PE3 ca X (.Constant (.str x) j pos) (mLit (.str x)):=Qho (λ_ _=>Ql5) λ_ _ _=>.str x
theorem r_bl{x:Bool}{j:Nat}:PE3 ca X (.Constant (.bool x) j pos) (mLit (.bl x)):=Qho (λ_ _=>Qn3) λ_ _ _=>.bl x
theorem QbD{j:Nat}:PE3 ca X (.Constant .none j pos) (mLit .non):=Qho (λ_ _=>Ql4) λ_ _ _=>.non
theorem Qj8{x:Str}{v:V}{u:Value}{d:D}(hm:X.mg x=some u)(r:RelV v u)(hd':∀K μ H,Den K μ H v d)(hg:Gl X x:=by rfl)(hd:(x == ("__debug__" : Str))=false:=by decide):PE3 ca X (.Name x pos) (mLit d) :=
 Qho (λpn Φ=>QkD (X:=xat X ca pn Φ) hg hm r hd) hd'
noncomputable def Jo(K:PySem.W.Frag)(ca:Nat->Addr)(r:R2)(f:D->D->G->Res D):Prop :=
 ∀(Φ:XS)(σ:L2.St)(H:Hp)(μ:List Addr)(g:G)(x y:V)(dx dy:D)(Q:VK),GRep K ca μ H g->Den K μ H x dx->Den K μ H y dy->Post K ca Φ σ Q H μ (f dx dy g)->r x y H Q
theorem Qfw{K:PySem.W.Frag}{Φ:XS}{r:R2}{f:D->D->G->Res D}(hp:Jo K ca r f)(σ:L2.St)(H:Hp)(Q:VK)(h:up K ca Φ (mOp2 f ma mb) σ H Q):tOp r (up K ca Φ ma) (up K ca Φ mb) σ H Q:=by
 obtain⟨σ3,g,μ,R,p⟩:=h
 refine Q5 (Jm R p) λx H1 ⟨dx,g1,μ1,e1,R1,q1,p1⟩=>?_
 refine Q5 (Jm R1 p1) λy H2 ⟨dy,g2,μ2,e2,R2,q2,p2⟩=>?_
 exact hp Φ σ H2 μ2 g2 x y dx dy Q R2.g (q1.mono e2) q2 p2
theorem Qgp{op:Operator}{r:R2}{f:D->D->G->Res D}(ho:∀pn Φ,OpR (xat X ca pn Φ) (binaryOp op) r)(hp:Jo X.K ca r f)(ha:PE3 ca X a ma)(hb:PE3 ca X b mb):PE3 ca X (.BinOp a op b pos) (mOp2 f ma mb) :=
 λpn Φ=>Q6 (Qod (ho pn Φ) (ha pn Φ) (hb pn Φ)) (Qfw hp)
theorem Qhp{op:CmpOp}{r:R2}{f:D->D->G->Res D}(ho:∀pn Φ,OpR (xat X ca pn Φ) (compareOp op) r)(hp:Jo X.K ca r f)(ha:PE3 ca X a ma)(hb:PE3 ca X b mb)(hm:behindInMarks op b=false):PE3 ca X (.Compare a [op] [b] pos) (mOp2 f ma mb) :=
 λpn Φ=>Q6 (QkN (ho pn Φ) (ha pn Φ) (hb pn Φ) hm) (Qfw hp)
theorem r_ix{r:R2}{f:D->D->G->Res D}(ho:∀pn Φ,IxR (xat X ca pn Φ) r)(hp:Jo X.K ca r f)(ha:PE3 ca X a ma)(hb:PE3 ca X b mb)(hs:QcZ b:=by exact λ_ _=>rfl):PE3 ca X (.Subscript a b pos) (mOp2 f ma mb) :=
 λpn Φ=>Q6 (Qoi (ho pn Φ) (ha pn Φ) (hb pn Φ) hs) (Qfw hp)
theorem r_un{op:UnaryOp}{r:V->Hp->VK->Prop}{f:D->G->Res D}(ho:∀pn Φ,UnR (xat X ca pn Φ) (unaryOp op) r)(hp:∀(Φ:XS) (σ:L2.St) (H:Hp) (μ:List Addr) (g:G) (x:V) (dx:D) (Q:VK),GRep X.K ca μ H g->Den X.K μ H x dx->Post X.K ca Φ σ Q H μ (f dx g)->r x H Q)(ha:PE3 ca X a ma):PE3 ca X (.UnaryOp op a pos) (mOp1 f ma) :=
 λpn Φ=>Q6 (Qoe (ho pn Φ) (ha pn Φ)) λσ H Q ⟨σ3,g,μ,R,p⟩=>Q5 (Jm R p) λx H1 ⟨dx,g1,μ1,e1,R1,q1,p1⟩=>hp Φ σ H1 μ1 g1 x dx Q R1.g q1 p1
theorem Qj:PA3 ca X [] mNil:=λpn Φ=>Qhn (Qfp (X:=xat X ca pn Φ)) λ_ H _ ⟨_,_,μ,R,p⟩=>p [] H μ .refl R.g .nil
theorem Yv(ha:PE3 ca X e me)(hr:PA3 ca X es mr)(hs:starEach (e::es) X.env=(false,eval e X.env)::starEach es X.env:=by rfl):PA3 ca X (e::es) (Qb me mr) :=
 λpn Φ=>Qhn (Qah (X:=xat X ca pn Φ) (ha pn Φ) (hr pn Φ) hs) λσ H Q ⟨σ3,g,μ,R,p⟩=>Q5 (Qok R p) λx H1 ⟨d,g1,μ1,e1,R1,q1,p1⟩ =>
  Jn (QmI R1 p1) λxs H2 ⟨ds,g2,μ2,e2,R2,q2,p2⟩=>p2 (x::xs) H2 μ2 .refl R2.g (.cons (q1.mono e2) q2)
theorem Z7(ha:PE3 ca X a ma)(he:∀whole,isTrue a X.env whole=(do let v <-whole;standAt a.pos;holding [v] (truthy v)):=by intro _;rfl):PT3 ca X a (Qk ma) :=
 λpn Φ=>QeI (Ql6 (X:=xat X ca pn Φ) (ha pn Φ) he) λσ H Q ⟨σ3,g,μ,R,p⟩=>Q5 (QmG R p) λx H1 hQ=>by
  obtain⟨d,g1,μ1,e1,R1,q1,p1⟩:=hQ
  cases q1 with
  |bl b=>exact⟨b,rfl,p1 H1 μ1 .refl R1.g⟩
  |_=>exact p1.elim
theorem JF{op:CmpOp}{r:R2}{f:D->D->G->Res D}(ho:∀pn Φ,OpR (xat X ca pn Φ) (compareOp op) r)(hp:Jo X.K ca r f)(ha:PE3 ca X a ma)(hb:PE3 ca X b mb)(hm:behindInMarks op b=false):PT3 ca X (.Compare a [op] [b] pos) (Qk (mOp2 f ma mb)) :=
 λpn Φ=>QeI (QkO (ho pn Φ) (ha pn Φ) (hb pn Φ) hm) λσ H Q hQ=>by
  obtain⟨σ3,g,μ,R,p⟩:=hQ
  have q:up X.K ca Φ (mOp2 f ma mb) σ H λx H'=>∃k,x=.bl k/\Q k H':=Q5 (QmG R p) λx H1 hQ=>by
   obtain⟨d,g1,μ1,e1,R1,q1,p1⟩:=hQ
   cases q1 with
   |bl b=>exact⟨b,rfl,p1 H1 μ1 .refl R1.g⟩
   |_=>exact p1.elim
  exact Qfw hp σ H _ q
theorem Qac(ha:PT3 ca X a ta):PT3 ca X (.UnaryOp .Not a pos) (Jl ta) :=
 λpn Φ=>QeI (Ql9 (X:=xat X ca pn Φ) (ha pn Φ)) λσ H Q ⟨σ3,g,μ,R,p⟩=>Qbi (Qhl R p) λb H1 ⟨g1,μ1,e1,R1,p1⟩=>p1 H1 μ1 .refl R1.g
theorem QaO(ha:PT3 ca X a ta):PW3 ca X (.BoolOp .And [a] pos) ta:=λpn Φ=>QkE (X:=xat X ca pn Φ) (ha pn Φ)
theorem Qas(ha:PT3 ca X a ta):PW3 ca X (.BoolOp .Or [a] pos) ta:=λpn Φ=>Ql7 (X:=xat X ca pn Φ) (ha pn Φ)
theorem QcG(ha:PT3 ca X a ta)(hb:PW3 ca X (.BoolOp .And (b::rest) pos) tb):PW3 ca X (.BoolOp .And (a::b::rest) pos) (QaN ta tb) :=
 λpn Φ=>Qhm (Ql8 (X:=xat X ca pn Φ) (ha pn Φ) (hb pn Φ)) λσ H Q ⟨σ3,g,μ,R,p⟩=>Qbi (Qhl R p) λb H1 hQ=>by
  obtain⟨g1,μ1,e1,R1,p1⟩:=hQ
  cases b with
  |true=>rw[Ud rfl]at p1 ⊢;exact⟨σ3,g1,μ1,R1,p1⟩
  |false=>rw[Ue Ug]at p1 ⊢;exact p1 H1 μ1 .refl R1.g
theorem Qc3(ha:PT3 ca X a ta)(hb:PW3 ca X (.BoolOp .Or (b::rest) pos) tb):PW3 ca X (.BoolOp .Or (a::b::rest) pos) (mOrT ta tb) :=
 λpn Φ=>Qhm (Qn4 (X:=xat X ca pn Φ) (ha pn Φ) (hb pn Φ)) λσ H Q ⟨σ3,g,μ,R,p⟩=>Qbi (Qhl R p) λb H1 hQ=>by
  obtain⟨g1,μ1,e1,R1,p1⟩:=hQ
  cases b with
  |true=>rw[Ud rfl]at p1 ⊢;exact p1 H1 μ1 .refl R1.g
  |false=>rw[Ue Ug]at p1 ⊢;exact⟨σ3,g1,μ1,R1,p1⟩
theorem r_w(h:PW3 ca X e ta):PT3 ca X e ta:=λpn Φ=>(h pn Φ).pt
theorem QmJ(ha:PE3 ca X a ma):PE3 ca X (.UnaryOp .Not a pos) (mNot ma) :=
 λpn Φ=>Q6 (Qmc (X:=xat X ca pn Φ) (ha pn Φ)) λσ H Q ⟨σ3,g,μ,R,p⟩=>Q5 (Jm R p) λx H1 hQ=>by
  obtain⟨d,g1,μ1,e1,R1,q1,p1⟩:=hQ
  cases q1 with
  |bl b=>exact⟨b,rfl,p1 _ H1 μ1 .refl R1.g (.bl _)⟩
  |_=>exact p1.elim
theorem QdU{op:BoolOp}(ha:PE3 ca X a ma):PE3 ca X (.BoolOp op [a] pos) ma:=λpn Φ=>Qma (X:=xat X ca pn Φ) (ha pn Φ)
theorem QbE(ha:PE3 ca X a ma)(hb:PE3 ca X (.BoolOp .And (b::rest) pos) mb):PE3 ca X (.BoolOp .And (a::b::rest) pos) (mAnd ma mb) :=
 λpn Φ=>Q6 (Qmb (X:=xat X ca pn Φ) (ha pn Φ) (hb pn Φ)) λσ H Q ⟨σ3,g,μ,R,p⟩=>Q5 (Jm R p) λx H1 hQ=>by
  obtain⟨d,g1,μ1,e1,R1,q1,p1⟩:=hQ
  cases q1 with
  |bl b =>
   refine⟨b,rfl,?_⟩
   cases b with
   |true=>rw[Ud rfl];exact⟨σ3,g1,μ1,R1,p1⟩
   |false=>rw[Ue Ug];exact p1 _ H1 μ1 .refl R1.g (.bl _)
  |_=>exact p1.elim
theorem QdV(hc:PT3 ca X c tc)(ha:PE3 ca X a ma)(hb:PE3 ca X b mb):PE3 ca X (.IfExp c a b pos) (mIfE tc ma mb) :=
 λpn Φ=>Q6 (QiS (X:=xat X ca pn Φ) (hc pn Φ) (ha pn Φ) (hb pn Φ)) λσ H Q ⟨σ3,g,μ,R,p⟩=>Qbi (QmH R p) λb H1 hQ=>by
  obtain⟨g1,μ1,e1,R1,p1⟩:=hQ
  cases b with
  |true=>rw[Ud rfl]at p1 ⊢;exact⟨σ3,g1,μ1,R1,p1⟩
  |false=>rw[Ue Ug]at p1 ⊢;exact⟨σ3,g1,μ1,R1,p1⟩
theorem Y4:SZ<=sizeLine:=by rw[WR];decide
theorem Dens.sz{K:PySem.W.Frag}{μ:List Addr}{H:Hp}{vs:List V}{ds:List D}(h:Dens K μ H vs ds)(z:ds.length<=SZ):vs.length<=sizeLine:=by rw[h.length];exact Ut z Y4
theorem ZM{k:Nat}(h:PA3 ca X es mr):PE3 ca X (.Tuple es k pos) (mOpA pTup mr) :=
 λpn Φ=>Q6 (Qj5 (X:=xat X ca pn Φ) (h pn Φ)) λσ H Q ⟨σ3,g,μ,R,p⟩=>Jn (QcF R p) λxs H1 hQ=>by
  obtain⟨ds,g1,μ1,e1,R1,q1,p1⟩:=hQ
  unfold pTup at p1
  by_cases z:ds.length<=SZ
  ·rw[Ud z]at p1
   exact⟨q1.sz z,λt ht=>p1 _ _ μ1 (QZ ht) (R1.g.new ht) (.tup (.of Qp) (q1.mono (QZ ht)))⟩
  ·rw[Ue z]at p1;exact p1.elim
theorem QaP(h:PA3 ca X es mr):PE3 ca X (.List es pos) (mOpA newL mr) :=
 λpn Φ=>Q6 (Qmv (X:=xat X ca pn Φ) (h pn Φ)) λσ H Q ⟨σ3,g,μ,R,p⟩=>Jn (QcF R p) λxs H1 hQ=>by
  obtain⟨ds,g1,μ1,e1,R1,q1,p1⟩:=hQ
  unfold newL at p1
  by_cases z:ds.length<=SZ
  ·rw[Ud z]at p1
   refine⟨q1.sz z,λt ht=>p1 _ _ (μ1++[t]) (Qt ht) (R1.g.push ht ⟨xs,Qp,q1.mono (Qt ht)⟩) (.ref ?_)⟩
   rw[<-R1.g.len];simp
  ·rw[Ue z]at p1;exact p1.elim
end
section
variable{X:Cx}{ca:Nat->Addr}{pins:List (Addr×Obj)}{σ:L2.St}{H:Hp}{s:Shared}{a:Addr}{x:Xc}{E:Value->Shared->Prop}
theorem Qj9{pn:List (Addr×Obj)}{Φ:XS}(I:Inv (xat X ca pn Φ) pins σ H s):Inv (xon X pn) pins σ H s:=(Inv.wish I λ_ _=>False)
theorem Qfx{b:Addr}{H':Hp}(I:Inv X pins σ H s)(hb:s.heap.get? b=none)(hn:H' b=none):FpW X pins H' b:=by
 refine⟨hn,λz=>?_,λz=>?_,?_,λx c e z=>?_,λp hp z=>?_⟩
 ·obtain⟨m,⟨o,_,_,ho,_⟩,_⟩:=I.loc
  rw[z,ho]at hb;cases hb
 ·obtain⟨_,o,ho,_⟩:=I.funs.mem z
  rw[ho]at hb;cases hb
 ·by_cases hx:b∈X.ex
  ·exact .inl hx
  ·refine .inr ?_
   cases q:X.s₀.heap.get? b with
   |none=>rfl
   |some o =>
    obtain⟨o',e'⟩:=I.base.there b o q hx
    rw[e']at hb;cases hb
 ·obtain⟨v,o,ho,_⟩:=I.cell x c e
  rw[z,hb]at ho;cases ho
 ·rw[<-z,(I.pin p hp).1]at hb;cases hb
theorem Qhq{H':Hp}{h':Heap}{g':Array GenState}{t':Nat}{d':Drawn}{ch:List Addr}(I:Inv X pins σ H s)(hch:∀b∈ch,(b∈X.ex\/X.s₀.heap.get? b=none)/\b≠X.env.locals/\(∀x c,X.env.cells.lookup x=some c->c≠b)/\∀p∈X.pn++pins,p.1≠b)(keep:∀b o,b≠X.env.locals->b∉X.fs->b∉ch->s.heap.get? b=some o->H b=none->h'.get? b=some o)(slot:∀b o,b≠X.env.locals->b∈X.fs->b∉ch->s.heap.get? b=some o->H b=none->∃sl,h'.get? b=some {o with slots:=sl})(free:∀b o,b∉ch->s.heap.get? b=some o->H b=none->H' b=none)(there:∀b o,b∉ch->s.heap.get? b=some o->∃o',h'.get? b=some o')(tups:∀b xs,H b=some (.tup xs)->H' b=some (.tup xs))(frzs:∀b o u,H b=some (.frz o u)->H' b=some (.frz o u))(tbls:∀b ps,H b=some (.tbl ps)->∃more,H' b=some (.tbl (ps++more)))(ns:∀m,s.heap.Ns X.env.locals m->h'.Ns X.env.locals m)(hok:HOk X.prog X.w H' h')(hg:AllBare g'):
  Inv X pins σ H' {s with heap:=h',gens:=g',drawn:=d',toks:=t'}:=by
 have neL:∀b o,X.s₀.heap.get? b=some o->b≠X.env.locals:=λb o e=>UF (Ur (Uk e) I.ok.above)
 have neC:∀b o,X.s₀.heap.get? b=some o->b∉X.ex->b∉ch:=λb o e hx hb=>by
  rcases(hch b hb).1 with z|z
  ·exact hx z
  ·rw[z]at e;cases e
 have cellK:∀x c,X.env.cells.lookup x=some c->∀v,s.heap.IsCell c v->h'.IsCell c v:=λx c e v hQ=>by
  obtain⟨o,ho,hd⟩:=hQ
  have nch:c∉ch:=λz=>(hch c z).2.2.1 x c e rfl
  by_cases hc:c∈X.fs
  ·obtain⟨sl,q⟩:=slot c o (I.cne x c e) hc nch ho (I.freeC x c e)
   exact⟨_,q,hd⟩
  ·exact⟨o,keep c o (I.cne x c e) hc nch ho (I.freeC x c e),hd⟩
 refine⟨I.ok,I.os,hg,⟨λb o e n hb hx=>?_,λb o e n hb hx=>?_,λb o e n hx=>?_,λb o e hx=>?_,λb xs e=>tups b xs (I.base.tups b xs e),λb o xs e=>frzs b o xs (I.base.frzs b o xs e),λb ps e=>?_⟩,?_,λx c e=>?_,?_,λx c e=>?_,λp hp=>?_,hok,I.len⟩
 ·exact keep b o (neL b o e) hb (neC b o e hx) (I.base.keep b o e n hb hx) (I.base.free b o e n hx)
 ·obtain⟨sl,e1⟩:=I.base.slot b o e n hb hx
  obtain⟨sl',e2⟩:=slot b _ (neL b o e) hb (neC b o e hx) e1 (I.base.free b o e n hx)
  exact⟨sl',e2⟩
 ·obtain⟨o',e1⟩:=I.base.there b o e hx
  exact free b o' (neC b o e hx) e1 (I.base.free b o e n hx)
 ·obtain⟨o',e1⟩:=I.base.there b o e hx
  exact there b o' (neC b o e hx) e1
 ·obtain⟨m1,e1⟩:=I.base.tbls b ps e
  obtain⟨m2,e2⟩:=tbls b _ e1
  exact⟨m1++m2,by rw[e2,Rz]⟩
 ·obtain⟨m,hn,hl⟩:=I.loc
  refine⟨m,ns m hn,λi x v e1 e2 e3=>?_⟩
  obtain⟨u,r,l⟩:=hl i x v e1 e2 e3
  refine⟨u,r,?_⟩
  rcases l with l|⟨k,c,e,z⟩
  ·exact .inl l
  ·exact .inr ⟨k,c,e,cellK x c e _ z⟩
 ·obtain⟨v,z⟩:=I.cell x c e
  exact⟨v,cellK x c e v z⟩
 ·obtain⟨m,⟨o,_,_,ho,_⟩,_⟩:=I.loc
  exact free _ o (λz=>(hch _ z).2.1 rfl) ho I.free
 ·obtain⟨v,o,ho,hd⟩:=I.cell x c e
  exact free c o (λz=>(hch c z).2.2.1 x c e rfl) ho (I.freeC x c e)
 ·obtain⟨e,n,ne,nf,d⟩:=I.pin p hp
  have nch:p.1∉ch:=λz=>(hch p.1 z).2.2.2 p hp rfl
  exact⟨keep p.1 p.2 ne nf nch e n,free p.1 p.2 nch e n,ne,nf,d⟩
theorem Qfy{ch:List Addr}{h':Heap}(I:Inv X pins σ H s)(hch:∀b∈ch,FpW X pins H b)(keep:∀b o,b∉ch->b≠X.env.locals->b∉X.fs->s.heap.get? b=some o->h'.get? b=some o)(slot:∀b o,b∉ch->s.heap.get? b=some o->∃sl,h'.get? b=some {o with slots:=sl}):Inv X pins σ H {s with heap:=h'}:=by
 have nl:X.env.locals∉ch:=λz=>(hch _ z).2.1 rfl
 have nt:∀b v,H b=some v->b∉ch:=λb v e z=>by rw[(hch b z).1]at e;cases e
 have nf:∀b v,H b=some v->b∉X.fs:=λb v e z=>by
  obtain⟨_,o,ho,_⟩:=I.ok.funs.mem z
  have:=I.base.free b o ho (I.ok.frf b z) λq=>I.ok.exfs b q z
  rw[this]at e;cases e
 have nL:∀b v,H b=some v->b≠X.env.locals:=λb v e z=>by rw[z,I.free]at e;cases e
 refine Qhq (h':=h') (H':=H) (g':=s.gens) (t':=s.toks) (d':=s.drawn) (ch:=ch) I (λb hb=>⟨(hch b hb).2.2.2.1,(hch b hb).2.1,(hch b hb).2.2.2.2.1,(hch b hb).2.2.2.2.2⟩) (λb o h1 h2 h3 e _=>keep b o h3 h1 h2 e) (λb o _ _ h3 e _=>slot b o h3 e)
  (λb o _ _ n=>n) (λb o h e=>let ⟨sl,q⟩:=slot b o h e;⟨_,q⟩) (λb v e=>e) (λb o v e=>e) (λb ps e=>⟨#[],by rw[e];simp⟩) (λm hm=>?_) (λb v e=>?_) I.bare
 ·obtain⟨o,es,ep,ho,rr⟩:=hm
  obtain⟨sl,q⟩:=slot _ o nl ho
  exact⟨_,es,ep,q,rr⟩
 ·refine(I.hok b v e).stay (λc' v' hc' q=>?_) (λc' q=>q) λc' xs' q=>q
  rcases hc' with rfl|hc'
  ·exact keep _ _ (nt _ _ e) (nL _ _ e) (nf _ _ e) q
  ·exact keep _ _ (nt _ _ hc') (nL _ _ hc') (nf _ _ hc') q
noncomputable def FlN(X:Cx)(ca:Nat->Addr)(a:Addr)(x:Xc)(H:Hp)(h:Heap):Prop :=
 FpW X [] H a/\x.2=none/\∃oe vs T oT ts,h.get? a=some oe/\XOb ca x oe/\oe.data=.fields vs/\vs[1]?=some (.ref T)/\T≠a/\FpW X [] H T/\h.get? T=some oT/\oT.data=.fields ts/\ts[3]?=some (rawInt X.env.locals)
noncomputable def FlT(X:Cx)(ca:Nat->Addr)(a:Addr)(x:Xc)(H:Hp)(h:Heap):Prop :=
 FpW X [] H a/\x.2=none/\∃oe vs T oT ts,h.get? a=some oe/\XOb ca x oe/\oe.data=.fields vs/\vs[1]?=some (.ref T)/\T≠a/\FpW X [] H T/\h.get? T=some oT/\oT.data=.fields ts/\3<ts.size
theorem FlN.t{h:Heap}(f:FlN X ca a x H h):FlT X ca a x H h:=by
 obtain⟨f1,f2,oe,vs,T,oT,ts,e1,e2,e3,e4,e5,e6,e7,e8,e9⟩:=f
 exact⟨f1,f2,oe,vs,T,oT,ts,e1,e2,e3,e4,e5,e6,e7,e8,(Tq.mp e9).1⟩
theorem FlN.fl{h:Heap}(f:FlN X ca a x H h):Fl X ca a x H h:=by
 obtain⟨f1,f2,oe,vs,T,oT,ts,e1,e2,e3,e4,e5,e6,e7,e8,e9⟩:=f
 exact⟨f1,f2,oe,vs,e1,e2,e3,(Tq.mp e4).1,.inr ⟨T,oT,ts,e4,e5,e6,e7,e8,(Tq.mp e9).1,.inr e9⟩⟩
theorem QcH{h:Heap}{b:Addr}{o:Obj}{ts:Array Value}(i:Nat)(v:Value)(e:h.get? b=some o)(d:o.data=.fields ts):
  (h.update b (Obj.mapFields (·.setIfInBounds i v))).get? b=some (o.mapFields (·.setIfInBounds i v))/\(o.mapFields (·.setIfInBounds i v)).data=.fields (ts.setIfInBounds i v)/\(o.mapFields (·.setIfInBounds i v)).cls=o.cls :=
 ⟨Rj _ e (Obj.isFreed_of_fields (RA d _)),RA d _,Obj.cls_mapFields _ _⟩
theorem Qfz{base:Heap}{env:Env}{outer:List Env}{L:Addr}{oe:Obj}{vs:Array Value}{head:Value}{hn:Bool}{M:Model}{A:Around}{Q:Unit->Shared->Prop}(hfr:A.frames=some (env::outer))(hl:s.heap.FunFrames base (env::outer))(hf:env.frame=some L)(he:s.heap.get? a=some oe)(hd:oe.data=.fields vs)(hsz:1<vs.size)(ha:a∉(env::outer).filterMap (·.frame))(k:∀h₁ (cells:Array Value),Heap.SlotsOnly ((env::outer).filterMap (·.frame)) s.heap h₁->cells[3]?=some (rawInt L) ->
   Q () {s with heap:=(h₁.push {cls:=.type "traceback",dict:=none,data:=.fields cells}).update a (Obj.mapFields (·.setIfInBounds 1 (.ref h₁.objs.size)))}):
  wpAny M A (do let fv <-frameOf env;let pl <-entryPlaceOf L hn;let b <-EntryCells.newEntry head fv .none (rawInt L) .none pl;setField (.ref a) 1 b) Q E s:=by
 refine Ua (wpAny_frameOf_fun hfr hl hf λh₁ so=>Ua (wpAny_entryPlaceOf λpl hpl=>?_))
 unfold EntryCells.newEntry newFields
 refine Ua (U7 ?_ (hpl.sizeOk5 _ _ _ _ _))
 have e1:h₁.get? a=some oe:=(so.2.1 a ha).trans he
 refine RL (Ub _ e1) hd hsz (k h₁ _ so ?_)
 first
  | (simp;done)
  | (rcases hpl with rfl|⟨_,_,_,_,_,_,_,rfl⟩ <;> simp)
theorem QeJ{M:Model}{Q:Unit->Shared->Prop}(I:Inv X [] σ H s)(hk:X.stack=X.env::X.outer)(hf:X.env.frame=some X.env.locals)(fl:Fl X ca a x H s.heap)(k:∀h',Inv X [] σ H {s with heap:=h'}->FlN X ca a x H h'->Q () {s with heap:=h'}):wpAny M X.A (noteFrame (.ref a) X.env) Q E s:=by
 obtain⟨fp,ln,oe,vs,he,hc,hd,hsz,hv⟩:=fl
 have hfr:X.A.frames=some (X.env::X.outer):=by rw[<-hk];exact I.ok.frames
 have hst:s.heap.FunFrames X.base (X.env::X.outer):=by rw[<-hk];exact I.stack
 have hfs:(X.env::X.outer).filterMap (·.frame)=X.env.locals::X.fs:=by rw[TN,hf];rfl
 have ha:a∉(X.env::X.outer).filterMap (·.frame):=by
  rw[hfs]
  intro z
  rcases UD.mp z with z|z
  ·exact fp.2.1 z
  ·exact fp.2.2.1 z
 -- an entry is laid over a heap that differs from s at ch alone
 have fin:∀(h0 h₁:Heap)(cells:Array Value)(ch:List Addr),(∀b∈ch,FpW X [] H b)->(∀b o,b∉ch->s.heap.get? b=some o->h0.get? b=some o)->h0.objs.size=s.heap.objs.size->h0.get? a=some oe ->
   Heap.SlotsOnly ((X.env::X.outer).filterMap (·.frame)) h0 h₁->cells[3]?=some (rawInt X.env.locals) ->
   Q () {s with heap:=(h₁.push {cls:=.type "traceback",dict:=none,data:=.fields cells}).update a (Obj.mapFields (·.setIfInBounds 1 (.ref h₁.objs.size)))}:=by
  intro h0 h₁ cells ch hch hk0 hz he0 so hcl
  have e1:h₁.get? a=some oe:=(so.2.1 a ha).trans he0
  obtain⟨u1,u2,u3⟩:=QcH 1 (.ref h₁.objs.size) (Ub {cls:=.type "traceback",dict:=none,data:=.fields cells} e1) hd
  have hTa:h₁.objs.size≠a:=Wn (Uk e1)
  have oth:∀b o,b≠a->h₁.get? b=some o->((h₁.push {cls:=.type "traceback",dict:=none,data:=.fields cells}).update a (Obj.mapFields (·.setIfInBounds 1 (.ref h₁.objs.size)))).get? b=some o:=λb o hb e =>
   (U1 _ _ (Ne.symm hb)).trans (Ub _ e)
  refine k _ (Qfy (ch:=a::ch) I (λb hb=>?_) (λb o h1 h2 h3 e=>?_) λb o h1 e=>?_) ⟨fp,ln,_,_,h₁.objs.size,_,cells,u1,hc.map _,u2,by simp[hsz],hTa,?_,(U1 _ _ (Ne.symm hTa)).trans (Uo _ rfl),rfl,hcl⟩
  ·rcases UD.mp hb with e|e
   ·rw[e];exact fp
   ·exact hch b e
  ·refine oth b o (λz=>h1 (by rw[z];exact Uv)) ?_
   rw[so.2.1 b (by rw[hfs];intro z;rcases UD.mp z with z|z;(· exact h2 z);exact h3 z)]
   exact hk0 b o (λz=>h1 (Ux _ z)) e
  ·obtain⟨sl,q⟩:=so.2.2 b o (hk0 b o (λz=>h1 (Ux _ z)) e)
   exact⟨sl,oth b _ (λz=>h1 (by rw[z];exact Uv)) q⟩
  ·refine Qfx I (Heap.get?_none_of_le ?_) (I.hok.fresh ?_) <;> rw[so.1,hz] <;> exact Uc _
 unfold noteFrame
 simp only[hf]
 rcases hv with hv|⟨T,oT,ts,hv,hTa,fT,hT,hdT,hs3,h3⟩
 ·refine Ua (UT he hd hv ?_)
  rw[Ue (by decide)]
  exact Qfz hfr hst hf he hd hsz ha λh₁ cells so hcl=>fin s.heap h₁ cells [] (by simp) (λ_ _ _ e=>e) rfl he so hcl
 ·refine Ua (UT he hd hv ?_)
  rw[Ud (show(Value.ref T != Value.none)=true from by simp)]
  rcases h3 with h3|h3
  ·refine Ua (UT hT hdT h3 ?_)
   rw[Ue (show ¬((Value.none == rawInt X.env.locals)=true) from by simp[rawInt])]
   refine Ua (RL hT hdT hs3 ?_)
   have oth:∀b o,b≠T->s.heap.get? b=some o->(s.heap.update T (Obj.mapFields (·.setIfInBounds 3 Value.none))).get? b=some o:=λb o hb e=>(U1 _ _ (Ne.symm hb)).trans e
   have kp:∀b o,s.heap.get? b=some o->(∀vs,o.data≠.fields vs)->(s.heap.update T (Obj.mapFields (·.setIfInBounds 3 Value.none))).get? b=some o:=λb o e n=>oth b o (λz=>by rw[z,hT]at e;cases e;exact n _ hdT) e
   refine Qfz (s:={s with heap:=s.heap.update T (Obj.mapFields (·.setIfInBounds 3 Value.none))}) hfr (hst.of_keeps λb o e n=>⟨o,kp b o e n,rfl⟩) hf (oth a oe (Ne.symm hTa) he) hd hsz ha λh₁ cells so hcl=>?_
   exact fin _ h₁ cells [T] (λb hb=>by rw[Uz.mp hb];exact fT) (λb o hb e=>oth b o (λz=>hb (by simp[z])) e) (Heap.size_after_update ..) (oth a oe (Ne.symm hTa) he) so hcl
  ·refine Ua (UT hT hdT h3 ?_)
   rw[Ud (show(rawInt X.env.locals == rawInt X.env.locals)=true from by simp)]
   exact Uj (k s.heap I ⟨fp,ln,oe,vs,T,oT,ts,he,hc,hd,hv,hTa,fT,hT,hdT,h3⟩)
theorem JG{M:Model}{A:Around}{Q:Unit->Shared->Prop}{fo:Option Addr}(I:Inv X [] σ H s)(fl:FlT X ca a x H s.heap)(k:∀h' T oT ts oe vs,Inv X [] σ H {s with heap:=h'}->h'.get? a=some oe->XOb ca x oe->oe.data=.fields vs->vs[1]?=some (.ref T)->T≠a->FpW X [] H T ->
      h'.get? T=some oT->oT.data=.fields ts->3<ts.size->ts[3]?=some (fo.elim Value.none λf=>rawInt f)->Q () {s with heap:=h'}):wpAny M A (setFlight (.ref a) fo) Q E s:=by
  obtain⟨fp,ln,oe,vs,T,oT,ts,he,hc,hd,hv,hTa,fT,hT,hdT,hs3⟩:=fl
  unfold setFlight
  refine Ua (UT he hd hv ?_)
  rw[Ud (show(Value.ref T != Value.none)=true from by simp)]
  have oth:∀b o,b≠T->s.heap.get? b=some o->(s.heap.update T (Obj.mapFields (·.setIfInBounds 3 (fo.elim Value.none λf=>rawInt f)))).get? b=some o:=λb o hb e=>(U1 _ _ (Ne.symm hb)).trans e
  obtain⟨u1,u2,u3⟩:=QcH 3 (fo.elim Value.none λf=>rawInt f) hT hdT
  refine RL hT hdT hs3 (k _ T _ _ oe vs (Qfy (ch:=[T]) I (λb hb=>by rw[Uz.mp hb];exact fT) (λb o h1 _ _ e=>oth b o (λz=>h1 (by simp[z])) e) λb o h1 e=>⟨o.slots,oth b o (λz=>h1 (by simp[z])) e⟩)
    (oth a oe (Ne.symm hTa) he) hc hd hv hTa fT u1 u2 (by simpa using hs3) (by simp[hs3]))
theorem Qka(hk:X.stack=X.env::X.outer)(hf:X.env.frame=some X.env.locals)(pn:List (Addr×Obj))(Φ:XS):PassesOwn (model X.prog X.w) X.A X.env (xat X ca pn Φ).xe:=by
 rintro v s ⟨a,x,σ,H,rfl,I,fl,q⟩
 refine QeJ (X:=xon X pn) I hk hf fl λh1 I1 f1=>?_
 unfold cameBackBy
 obtain⟨fp,ln,oe,vs,T,oT,ts,he,hc,hd,hv,hTa,fT,hT,hdT,h3⟩:=id f1
 refine Ua (UT he hd hv ?_)
 rw[Ue (show ¬((Value.ref T == Value.none)=true) from by simp)]
 refine JG (X:=xon X pn) (fo:=X.env.frame) I1 f1.t λh2 T oT ts oe vs I2 a1 a2 a3 a4 a5 a6 a7 a8 a9 a10=>?_
 rw[hf]at a10
 exact⟨a,x,σ,H,rfl,I2,FlN.fl ⟨fp,ln,oe,vs,T,oT,ts,a1,a2,a3,a4,a5,a6,a7,a8,a10⟩,q⟩
end
noncomputable def CXW(P:Program)(w:World)(ca:Nat->Addr):CXT:=λouter H s E v s'=>∃(a:Addr)(x:Xc)(H':Hp),v=.ref a/\s'.os=s.os/\AllBare s'.gens/\Un (frs outer) [] H H' s.heap s'.heap/\HOk P w H' s'.heap/\x.2=none /\
 (∃oe vs T oT ts,s.heap.get? a=none/\H' a=none/\s'.heap.get? a=some oe/\XOb ca x oe/\oe.data=.fields vs/\vs[1]?=some (.ref T)/\T≠a/\s.heap.get? T=none/\H' T=none/\s'.heap.get? T=some oT/\oT.data=.fields ts/\ts[3]?=some .none) /\
 E (.int x.1 0) x.2 H'
section
variable{P:Program}{w:World}{K:PySem.W.Frag}{mg:Str->Option Value}{base:Heap}{ca:Nat->Addr}
theorem Qi7{N:List Str}{qual:Str}{scope:Scope}{f:Addr}{cd:Value}{A:Around}{outer:List Env}{s s':Shared}{H:Hp}{E:XK}{v:Value}(h:XE (xon (cxOf (CXW P w ca) P w K mg base N qual scope f cd A outer s H E) []) ca (λx _ H'=>E (.int x.1 0) x.2 H') v s'):(cxOf (CXW P w ca) P w K mg base N qual scope f cd A outer s H E).xe v s':=by
 obtain⟨a,x,σ,H',rfl,I,fl,q⟩:=h
 show wpAny _ _ (leaving _ (.ref a)) _ _ s'
 unfold leaving
 refine Ua (QeJ I rfl rfl fl λh1 I1 f1=>?_)
 obtain⟨fp,ln,_⟩:=id f1
 refine JG (fo:=none) I1 f1.t λh2 T oT ts oe vs I2 a1 a2 a3 a4 a5 a6 a7 a8 a9 a10=>?_
 refine⟨a,x,H',rfl,I2.os,I2.bare,I2.base,I2.hok,ln,⟨oe,vs,T,oT,ts,?_,fp.1,a1,a2,a3,a4,a5,?_,a6.1,a7,a8,a10⟩,q⟩
 ·rcases fp.2.2.2.1 with z|z
  ·exact absurd (show a∈([]:List Addr) from z) (by simp)
  ·exact z
 ·rcases a6.2.2.2.1 with z|z
  ·exact absurd (show T∈([]:List Addr) from z) (by simp)
  ·exact z
end
section
variable{X:Cx}{ca:Nat->Addr}{pn:List (Addr×Obj)}{Φ:XS}
theorem QeK{pins:List (Addr×Obj)}{σ:L2.St}{H:Hp}{s s':Shared}{v:Value}(I:Inv (xat X ca pn Φ) pins σ H s)(h:CXW X.prog X.w ca X.stack H s (λc l H'=>∀x:Xc,c=.int x.1 0->l=x.2->Φ x σ H') v s'):(xat X ca pn Φ).xe v s':=by
 obtain⟨a,x,H',rfl,os,bare,un,hok,ln,⟨oe,vs,T,oT,ts,e1,e2,e3,e4,e5,e6,e7,e8,e9,e10,e11,e12⟩,q⟩:=h
 have I0:Inv (xon X pn) [] σ H s:=(Qj9 I).pins_of λp hp=>absurd hp (by simp)
 have I1:Inv (xon X pn) [] σ H' s':=Inv.call' (ch:=[]) I0 os un hok bare λb z=>absurd z (by simp)
 refine⟨a,x,σ,H',rfl,I1,⟨Qfx I0 e1 e2,ln,oe,vs,e3,e4,e5,(Tq.mp e6).1,.inr ⟨T,oT,ts,e6,e7,Qfx I0 e8 e9,e10,e11,(Tq.mp e12).1,.inl e12⟩⟩,q x rfl rfl⟩
end
section
variable{X:Cx}{ca:Nat->Addr}{a b c e:Expr}{st:Stmt}{sts rest:List Stmt}{ma mb me:ME}{tc:MT}{m m':MS}{pos:Pos}
theorem QC:PSs3 ca X [] QG:=λpn Φ=>Qfv (Qg1 (X:=xat X ca pn Φ)) λ_ σ H ⟨_,_,μ,R,p⟩=>p σ H μ .refl R
theorem QmK{K:PySem.W.Frag}{Φ:XS}(E:Ends)(σ:L2.St)(H:Hp)(h:upS K ca Φ (mSeq m m') E σ H):tSeq (upS K ca Φ m) (upS K ca Φ m') E σ H:=by
 obtain⟨σ3,g,μ,R,p⟩:=h
 refine⟨σ3,g,μ,R,?_⟩
 unfold mSeq at p
 cases hm:m σ3 g with
 |nx σ1 g1 =>
  rw[hm]at p
  exact λσ' H' μ' e' R'=>⟨σ1,g1,μ',R',PostS.go e' p⟩
 |rt d g1=>rw[hm]at p;exact p
 |bk _ _=>rw[hm]at p;exact p
 |ct _ _=>rw[hm]at p;exact p
 |raise _ _ _=>rw[hm]at p;exact p
 |stuck=>rw[hm]at p;exact p
theorem Qd(h1:PS3 ca X st m)(h2:PSs3 ca X rest m'):PSs3 ca X (st::rest) (mSeq m m'):=λpn Φ=>Qfv (QiT (X:=xat X ca pn Φ) (h1 pn Φ) (h2 pn Φ)) QmK
theorem Qh(h1:PS3 ca X st m):PSs3 ca X [st] m:=λpn Φ=>QkF (X:=xat X ca pn Φ) (h1 pn Φ)
theorem Yw:PS3 ca X st YO:=λpn Φ=>Ye (QiU (X:=xat X ca pn Φ)) λ_ _ _ ⟨_,_,_,_,p⟩=>p
theorem ZN(he:PE3 ca X e me)(hs:swapsWith e none pos.line X.env=pure false:=by rfl):PS3 ca X (.Expr e pos) (Zw me) :=
 λpn Φ=>Ye (QkG (X:=xat X ca pn Φ) (he pn Φ) hs) λE σ H ⟨σ3,g,μ,R,p⟩=>⟨σ3,g,μ,R,by
  unfold Zw at p
  cases hm:me σ3 g with
  |ok d g1=>rw[hm]at p;exact λv H' μ' e' r' _=>p σ H' μ' e' (R.go e' r')
  |raise _ _=>rw[hm]at p;exact RaP.stmt R p
  |stuck=>rw[hm]at p;exact p⟩
theorem Q0(he:PE3 ca X e me):PS3 ca X (.Return (some e) pos) (mRet me) :=
 λpn Φ=>Ye (Qmd (X:=xat X ca pn Φ) (he pn Φ)) λE σ H ⟨σ3,g,μ,R,p⟩=>⟨σ3,g,μ,R,by
  unfold mRet at p
  cases hm:me σ3 g with
  |ok d g1=>rw[hm]at p;exact p
  |raise _ _=>rw[hm]at p;exact RaP.stmt R p
  |stuck=>rw[hm]at p;exact p⟩
theorem QmL:PS3 ca X (.Return none pos) Qk1:=λpn Φ=>Ye (QkH (X:=xat X ca pn Φ)) λ_ σ H ⟨_,_,μ,R,p⟩=>p .non H μ .refl R.g .non
theorem r_if{sa sb:List Stmt}(hc:PT3 ca X c tc)(ha:PSs3 ca X sa m)(hb:PSs3 ca X sb m'):PS3 ca X (.If c sa sb pos) (mIf tc m m') :=
 λpn Φ=>Ye (Qoa (X:=xat X ca pn Φ) (hc pn Φ) (ha pn Φ) (hb pn Φ)) λE σ H ⟨σ3,g,μ,R,p⟩=>⟨σ3,g,μ,R,by
  unfold mIf at p
  cases hm:tc σ3 g with
  |ok d g1 =>
   rw[hm]at p
   cases d with
   |true=>exact λH' μ' e' r'=>by show(if true=true then _ else _);rw[Ud rfl];exact⟨σ3,g1,μ',R.go e' r',PostS.go e' (by simpa using p)⟩
   |false=>exact λH' μ' e' r'=>by show(if false=true then _ else _);rw[Ue Ug];exact⟨σ3,g1,μ',R.go e' r',PostS.go e' (by simpa using p)⟩
  |raise _ _=>rw[hm]at p;exact RaP.stmt R p
  |stuck=>rw[hm]at p;exact p⟩
noncomputable def upG(K:PySem.W.Frag)(ca:Nat->Addr)(f:MG):TG:=λv σ H Q=>∃σ3 g μ d σ3',Rep K ca μ σ3 g σ H/\Den K μ H v d/\f d σ3=some σ3'/\∀σ',Rep K ca μ σ3' g σ' H->Q σ' H
noncomputable def PG3(ca:Nat->Addr)(X:Cx)(tg:Expr)(f:MG):Prop:=∀pn Φ,PG (xat X ca pn Φ) tg (upG X.K ca f)
theorem Qhr{X:Cx}{tg:Expr}{t t':TG}(h:PG X tg t)(i:∀v σ H Q,t' v σ H Q->t v σ H Q):PG X tg t':=λpins s σ H x u Q I r q=>h pins s σ H x u Q I r (i x σ H Q q)
theorem Rep.set{K:PySem.W.Frag}{μ:List Addr}{σ3:S3}{g:G}{σ:L2.St}{H:Hp}{v:V}{d:D}(R:Rep K ca μ σ3 g σ H)(h:Den K μ H v d)(i:Nat):Rep K ca μ (σ3.set i (some d)) g (σ.set i (some v)) H:=by
 refine⟨R.g,by rw[T8,T8,R.len],λj x hx=>?_⟩
 by_cases e:j=i
 ·subst e
  have hl:j<σ3.length:=by
   have:=(Up.mp hx).1
   simpa using this
  rw[Td hl]at hx
  cases hx
  exact⟨v,by rw[Td (by rw[R.len];exact hl)],h⟩
 ·rw[Uh (Ne.symm e)]at hx
  obtain⟨w,h1,h2⟩:=R.st j x hx
  exact⟨w,by rw[Uh (Ne.symm e)];exact h1,h2⟩
theorem QR(i:Nat){x:Str}(hN:X.N.Nodup)(hi:X.N[i]?=some x:=by rfl)(hx:Loc X.env.scope x:=by first|exact Or.inl rfl|exact Or.inr rfl)(hf:X.fn x=true\/X.env.scope.names.lookup x=some .local:=by first|exact .inl rfl|exact .inr rfl):PG3 ca X (.Name x pos) (gSet i) :=
 λpn Φ=>Qhr (QkI (X:=xat X ca pn Φ) hN hi hx hf) λv σ H Q hQ=>by
  obtain⟨σ3,g,μ,d,σ3',R,q,e,k⟩:=hQ
  cases e
  exact k _ (R.set q i)
noncomputable def upGs(K:PySem.W.Frag)(ca:Nat->Addr)(fs:List MG):TGs:=λvs σ H Q=>∃σ3 g μ ds σ3',Rep K ca μ σ3 g σ H/\Dens K μ H vs ds/\QeG fs ds σ3=some σ3'/\∀σ',Rep K ca μ σ3' g σ' H->Q σ' H
noncomputable def PGs3(ca:Nat->Addr)(X:Cx)(tgs:List Expr)(fs:List MG):Prop:=∀pn Φ,PGs (xat X ca pn Φ) tgs (upGs X.K ca fs)
theorem QfA{X:Cx}{tg:List Expr}{t t':TGs}(h:PGs X tg t)(i:∀v σ H Q,t' v σ H Q->t v σ H Q):PGs X tg t':=λpins s σ H xs us Q I r q=>h pins s σ H xs us Q I r (i xs σ H Q q)
theorem QbF:PGs3 ca X [] []:=λpn Φ=>QfA (QkJ (X:=xat X ca pn Φ)) λvs σ H Q hQ=>by
 obtain⟨σ3,g,μ,ds,σ3',R,q,e,k⟩:=hQ
 cases q with
 |nil=>cases e;exact⟨rfl,k _ R⟩
 |cons _ _=>cases e
theorem Zu{es:List Expr}{f:MG}{fs:List MG}(h1:PG3 ca X e f)(h2:PGs3 ca X es fs)(hs:(assignEach (e::es) X.env).map (·.2)=assign e X.env::(assignEach es X.env).map (·.2):=by rfl):PGs3 ca X (e::es) (f::fs) :=
 λpn Φ=>QfA (QiV (X:=xat X ca pn Φ) (h1 pn Φ) (h2 pn Φ) hs) λvs σ H Q hQ=>by
  obtain⟨σ3,g,μ,ds,σ3',R,q,e,k⟩:=hQ
  cases q with
  |nil=>cases e
  |@cons v d vs ds q1 q2 =>
   unfold QeG at e
   cases hf:f d σ3 with
   |none=>rw[hf]at e;cases e
   |some σ4 =>
    rw[hf]at e
    exact⟨v,vs,rfl,σ3,g,μ,d,σ4,R,q1,hf,λσ' R'=>⟨σ4,g,μ,ds,σ3',R',q2,e,k⟩⟩
theorem QdW:∀{fs:List MG}{ds:List D}{σ σ':S3},QeG fs ds σ=some σ'->ds.length=fs.length
 |[],[],_,_,_=>rfl
 |[],_::_,_,_,h=>by cases h
 |_::_,[],_,_,h=>by cases h
 |f::fs,d::ds,σ,σ',h=>by
  unfold QeG at h
  cases hf:f d σ with
  |none=>rw[hf]at h;cases h
  |some σ4 =>
   rw[hf]at h
   rw[UQ,UQ,QdW (fs:=fs) h]
theorem QbG{es:List Expr}{k:Nat}{fs:List MG}(hc:X.calm=true)(h:PGs3 ca X es fs)(hn:(assignEach es X.env).length=fs.length:=by rfl)(hst:(assignEach es X.env).findIdx? (·.1)=none:=by rfl):PG3 ca X (.Tuple es k pos) (Qai fs) :=
 λpn Φ=>Qhr (Qmg (X:=xat X ca pn Φ) hc (h pn Φ) hn hst) λv σ H Q hQ=>by
  obtain⟨σ3,g,μ,d,σ3',R,q,e,kk⟩:=hQ
  cases q with
  |@tup a vs ds ht hs =>
   exact⟨a,vs,rfl,ht,hs.length.trans (QdW e),σ3,g,μ,ds,σ3',R,hs,e,kk⟩
  |_=>cases e
theorem QmM{K:PySem.W.Frag}{Φ:XS}{f:MG}(E:Ends)(σ:L2.St)(H:Hp)(h:upS K ca Φ (mAsg f me) E σ H):tAsg (up K ca Φ me) (upG K ca f) E σ H:=by
 obtain⟨σ3,g,μ,R,p⟩:=h
 refine⟨σ3,g,μ,R,?_⟩
 unfold mAsg at p
 cases hm:me σ3 g with
 |ok d g1 =>
  rw[hm]at p
  dsimp only at p
  intro v H' μ' e' r' q'
  cases hf:f d σ3 with
  |none=>rw[hf]at p;exact p.elim
  |some σ4 =>
   rw[hf]at p
   exact⟨σ3,g1,μ',d,σ4,R.go e' r',q',hf,λσ' R'=>p σ' H' μ' e' R'⟩
 |raise _ _=>rw[hm]at p;exact RaP.stmt R p
 |stuck=>rw[hm]at p;exact p
theorem Qk2{tg:Expr}{f:MG}(he:PE3 ca X e me)(hg:PG3 ca X tg f)(hs:swapsWithSole [tg] e pos.line X.env=pure false:=by rfl)(hw:swappedStores [tg] e X.env=pure none:=by rfl)(h1:(assignEach [tg] X.env).map (·.2)=[assign tg X.env]:=by rfl):PS3 ca X (.Assign [tg] e pos) (mAsg f me) :=
 λpn Φ=>Ye (Qg2 (X:=xat X ca pn Φ) (he pn Φ) (hg pn Φ) hs hw h1) QmM
theorem Qol(i:Nat){x:Str}{pos':Pos}(hN:X.N.Nodup)(he:PE3 ca X e me)(hi:X.N[i]?=some x:=by rfl)(hx:Loc X.env.scope x:=by first|exact Or.inl rfl|exact Or.inr rfl)(hs:swapsWith e (some (.Name x pos')) pos.line X.env=pure false:=by rfl)(hf:X.fn x=true\/X.env.scope.names.lookup x=some .local:=by first|exact .inl rfl|exact .inr rfl):
  PS3 ca X (.Assign [.Name x pos'] e pos) (mAsg (gSet i) me) :=
 λpn Φ=>Ye (Qmh (X:=xat X ca pn Φ) hN hi hx (he pn Φ) hs hf) λE σ H h=>by
  obtain⟨σ3,g,μ,R,p⟩:=h
  refine⟨σ3,g,μ,R,?_⟩
  unfold mAsg gSet at p
  cases hm:me σ3 g with
  |ok d g1 =>
   rw[hm]at p
   exact λv H' μ' e' r' q'=>p _ H' μ' e' ((R.go e' r').set q' i)
  |raise _ _=>rw[hm]at p;exact RaP.stmt R p
  |stuck=>rw[hm]at p;exact p
structure FldOk(K:PySem.W.Frag)(ca:Nat->Addr)(cs:List Nat)(f:Str):Prop where
 cl:∀c∈cs,Cls K (ca c)
 no:∀c∈cs,NoAttr K (ca c) f
theorem FRel.look{K:PySem.W.Frag}{μ:List Addr}{H:Hp}{f:Str}{d:D}:∀{fv:List (Str×V)}{fs:List (Str×D)},FRel K μ H fv fs->fs.lookup f=some d->∃v,fv.lookup f=some v/\Den K μ H v d
 |_,_,.nil,h=>by cases h
 | (k,v)::r,(k',d')::r',.cons ⟨e,q⟩ t,h=>by
  have e:k=k':=e
  subst e
  cases hb:f == k with
  |true =>
   simp only[List.lookup,hb]at h ⊢
   cases h
   exact⟨v,rfl,q⟩
  |false =>
   simp only[List.lookup,hb]at h ⊢
   exact FRel.look t h
theorem FRel.no{K:PySem.W.Frag}{μ:List Addr}{H:Hp}{f:Str}:∀{fv:List (Str×V)}{fs:List (Str×D)},FRel K μ H fv fs->fs.lookup f=Option.none->fv.lookup f=Option.none
 |_,_,.nil,_=>rfl
 | (k,v)::r,(k',d')::r',.cons ⟨e,q⟩ t,h=>by
  have e:k=k':=e
  subst e
  cases hb:f == k with
  |true=>simp only[List.lookup,hb]at h;cases h
  |false =>
   simp only[List.lookup,hb]at h ⊢
   exact FRel.no t h
theorem FRel.put{K:PySem.W.Frag}{μ:List Addr}{H:Hp}{f:Str}{v:V}{d:D}(q:Den K μ H v d):∀{fv:List (Str×V)}{fs:List (Str×D)},FRel K μ H fv fs->FRel K μ H (putF f v fv) (putG f d fs)
 |_,_,.nil=>.cons ⟨rfl,q⟩ .nil
 | (k,w)::r,(k',d')::r',.cons ⟨e,z⟩ t=>by
  have e:k=k':=e
  subst e
  show FRel K μ H (if k=f then (k,v)::r else (k,w)::putF f v r) (if k=f then (k,d)::r' else (k,d')::putG f d r')
  by_cases h:k=f
  ·rw[Ud h,Ud h];exact .cons ⟨rfl,q⟩ t
  ·rw[Ue h,Ue h];exact .cons ⟨rfl,z⟩ (FRel.put q t)
theorem Zz{cs:List Nat}{f:Str}(he:PE3 ca X e me)(ok:FldOk X.K ca cs f)(hb:attributeBase e f X.env (eval e X.env)=eval e X.env:=by rfl):PE3 ca X (.Attribute e f pos) (ZU cs f me) :=
 λpn Φ=>Q6 (Qmt (X:=xat X ca pn Φ) (he pn Φ) hb) λσ H Q ⟨σ3,g,μ,R,p⟩=>Q5 (Jm R p) λx H1 hQ=>by
  obtain⟨d,g1,μ1,e1,R1,q1,p1⟩:=hQ
  cases q1 with
  |@ref n a hn =>
   dsimp only at p1
   cases hg:g1[n]? with
   |none=>rw[hg]at p1;exact p1.elim
   |some o =>
    rw[hg]at p1
    obtain⟨a',ha',ob⟩:=R1.g.addr hg
    rw[hn]at ha';cases ha'
    cases o with
    |ins c fs =>
     dsimp only at p1
     obtain⟨dx,fv,hH,fr⟩:=ob
     by_cases hc:c∈cs
     ·rw[Ud hc]at p1
      cases hl:fs.lookup f with
      |none=>rw[hl]at p1;exact p1.elim
      |some y =>
       rw[hl]at p1
       obtain⟨v,h1,h2⟩:=fr.look hl
       exact⟨a,ca c,dx,fv,v,rfl,hH,ok.cl c hc,ok.no c hc,h1,p1 v H1 μ1 .refl R1.g h2⟩
     ·rw[Ue hc]at p1;exact p1.elim
    |_=>exact p1.elim
  |_=>exact p1.elim
theorem ZA{o:Expr}{mo:ME}{cs:List Nat}{f:Str}{pos':Pos}(ho:PE3 ca X o mo)(he:PE3 ca X e me)(ok:FldOk X.K ca cs f)(hs:swapsWith e (some (.Attribute o f pos')) pos.line X.env=pure false:=by rfl):
  PS3 ca X (.Assign [.Attribute o f pos'] e pos) (QP cs f mo me) :=
 λpn Φ=>Ye (Qmu (X:=xat X ca pn Φ) (ho pn Φ) (he pn Φ) hs) λE σ H ⟨σ3,g,μ,R,p⟩=>⟨σ3,g,μ,R,by
  unfold QP at p
  cases hm:me σ3 g with
  |ok y g1 =>
   rw[hm]at p
   dsimp only at p
   intro vy H1 μ1 e1 r1 q1
   refine⟨σ3,g1,μ1,R.go e1 r1,?_⟩
   cases hm2:mo σ3 g1 with
   |ok d g2 =>
    rw[hm2]at p
    intro vx H2 μ2 e2 r2 q2
    cases q2 with
    |@ref n a hn =>
     dsimp only at p
     cases hg:g2[n]? with
     |none=>rw[hg]at p;exact p.elim
     |some ob =>
      rw[hg]at p
      obtain⟨a',ha',orp⟩:=r2.addr hg
      rw[hn]at ha';cases ha'
      cases ob with
      |ins c fs =>
       dsimp only at p
       obtain⟨dx,fv,hH,fr⟩:=orp
       by_cases hc:c∈cs/\fs.length<100
       ·rw[Ud hc]at p
        have fl:fv.length=fs.length:=Paired.length fr
        refine⟨a,ca c,dx,fv,rfl,hH,ok.cl c hc.1,ok.no c hc.1,by omega,?_⟩
        have ex:Ext X.K μ2 H2 μ2 (upd H2 a (.ins (ca c) dx (putF f vy fv))):=JE hH (by intro _ z;cases z) (by intro _ _ z;cases z)
        refine p σ _ μ2 ((e1.trans e2).trans ex) ((R.go (e1.trans e2) r2).go ex ?_)
        exact r2.set hn hH (by intro _ z;cases z) (by intro _ _ z;cases z) ⟨dx,_,Qp,FRel.put ((q1.mono e2).mono ex) (fr.mono ex)⟩
       ·rw[Ue hc]at p;exact p.elim
      |_=>exact p.elim
    |_=>exact p.elim
   |raise _ _=>rw[hm2]at p;exact(RaP.stmt R p).go e1
   |stuck=>rw[hm2]at p;exact p
  |raise _ _=>rw[hm]at p;exact RaP.stmt R p
  |stuck=>rw[hm]at p;exact p⟩
theorem QbH{o i:Expr}{mo mi:ME}{pos':Pos}(ho:PE3 ca X o mo)(hi:PE3 ca X i mi)(he:PE3 ca X e me)(hs:swapsWithSole [.Subscript o i pos'] e pos.line X.env=pure false:=by rfl)(hw:swappedStores [.Subscript o i pos'] e X.env=pure none:=by rfl)(h1:(assignEach [.Subscript o i pos'] X.env).map (·.2)=[assign (.Subscript o i pos') X.env]:=by rfl)(ha:∀v,assign (.Subscript o i pos') X.env v=(do
   let ov <-holding [v] (eval o X.env)
   let iv <-holding [v,ov] (eval i X.env)
   standAt pos'
   holding [v,ov,iv] (setItem ov iv v)
   release [v,ov,iv] []):=by intro _;rfl):PS3 ca X (.Assign [.Subscript o i pos'] e pos) (YQ mo mi me) :=
 λpn Φ=>Ye (Qg2 (X:=xat X ca pn Φ) (he pn Φ) (Qj2 (X:=xat X ca pn Φ) (ho pn Φ) (hi pn Φ) Qi4 ha) hs hw h1) λE σ H ⟨σ3,g,μ,R,p⟩=>⟨σ3,g,μ,R,by
  unfold YQ at p
  cases hm:me σ3 g with
  |ok y g1 =>
   rw[hm]at p
   dsimp only at p
   intro vy H1 μ1 e1 r1 q1
   refine⟨σ3,g1,μ1,R.go e1 r1,?_⟩
   cases hm2:mo σ3 g1 with
   |ok d g2 =>
    rw[hm2]at p
    intro vx H2 μ2 e2 r2 q2
    cases q2 with
    |@ref n a hn =>
     dsimp only at p
     refine⟨σ3,g2,μ2,R.go (e1.trans e2) r2,?_⟩
     cases hm3:mi σ3 g2 with
     |ok di g3 =>
      rw[hm3]at p
      intro vi H3 μ3 e3 r3 q3
      cases q3 with
      |int k =>
       dsimp only at p
       cases hg:g3[n]? with
       |none=>rw[hg]at p;exact p.elim
       |some ob =>
        rw[hg]at p
        obtain⟨a',ha',orp⟩:=r3.addr hg
        rw[e3.at hn]at ha';cases ha'
        cases ob with
        |lst ds =>
         dsimp only at p
         obtain⟨vs,hH,q⟩:=orp
         cases hj:ixD ds.length k with
         |none=>rw[hj]at p;exact p.elim
         |some j =>
          rw[hj]at p
          have ex:Ext X.K μ3 H3 μ3 (upd H3 a (.lst (vs.set j vy))):=JE hH (by intro _ z;cases z) (by intro _ _ z;cases z)
          refine⟨a,vs,k,j,rfl,rfl,hH,by rw[q.length];exact hj,?_⟩
          refine p σ _ μ3 (((e1.trans e2).trans e3).trans ex) ((R.go ((e1.trans e2).trans e3) r3).go ex ?_)
          exact r3.set (e3.at hn) hH (by intro _ z;cases z) (by intro _ _ z;cases z) ⟨_,Qp,Dens.set (((q1.mono e2).mono e3).mono ex) j (q.mono ex)⟩
        |_=>exact p.elim
      |_=>exact p.elim
     |raise _ _=>rw[hm3]at p;exact(RaP.stmt R p).go (e1.trans e2)
     |stuck=>rw[hm3]at p;exact p
    |_=>exact p.elim
   |raise _ _=>rw[hm2]at p;exact(RaP.stmt R p).go e1
   |stuck=>rw[hm2]at p;exact p
  |raise _ _=>rw[hm]at p;exact RaP.stmt R p
  |stuck=>rw[hm]at p;exact p⟩
noncomputable def Sim(K:PySem.W.Frag)(ca:Nat->Addr)(μ0:List Addr)(H0:Hp)(src:Src)(J:It):Prop :=
 ∀(i:Nat)(H:Hp)(μ:List Addr)(g:G),Ext K μ0 H0 μ H->GRep K ca μ H g->match src.at' g i with
  |some (some d)=>J.go i H/\∀x H',J.yld i H x H'->Ext K μ H μ H'/\GRep K ca μ H' g/\Den K μ H' x d
  |some none=>J.stop i H
  |none=>True
noncomputable def upI(K:PySem.W.Frag)(ca:Nat->Addr)(Φ:XS)(m:MI):TI:=λσ H R=>∃σ3 g μ,Rep K ca μ σ3 g σ H/\match m σ3 g with
 |.ok src g'=>∀J H' μ',Ext K μ H μ' H'->GRep K ca μ' H' g'->Sim K ca μ' H' src J->R J H'
 |.raise x g'=>RaP K ca Φ σ H μ x g'
 |.stuck=>False
noncomputable def PI3(ca:Nat->Addr)(X:Cx)(tg iter:Expr)(m:MI):Prop:=∀pn Φ,PI (xat X ca pn Φ) tg iter (upI X.K ca Φ m)
theorem QbI{tg iter:Expr}{body:List Stmt}{mi:MI}{f:MG}(hc:X.calm=true)(hi:PI3 ca X tg iter mi)(hg:PG3 ca X tg f)(hb:PSs3 ca X body m)(hs:∀x,foldedSetIterable iter X.env x=pure x:=by intro _;rfl)(hk:X.stack=X.env::X.outer:=by rfl)(hf:X.env.frame=some X.env.locals:=by rfl):
  PS3 ca X (.For tg iter body [] pos) (mFor mi f m) :=
 λpn Φ=>Ye (Qmj (X:=xat X ca pn Φ) (Qka hk hf pn Φ) hc (hi pn Φ) (hg pn Φ) (hb pn Φ) hs) λE σ H ⟨σ3,g,μ,R,p⟩=>⟨σ3,g,μ,R,by
  unfold mFor at p
  cases hm:mi σ3 g with
  |ok src g' =>
   rw[hm]at p
   dsimp only at p ⊢
   intro J H' μ' e' r' sim
   refine⟨λi n σ1 H1=>∃σ4 g1 μ1,Ext X.K μ' H' μ1 H1/\Rep X.K ca μ1 σ4 g1 σ1 H1/\PostS X.K ca Φ E H1 μ1 (forL src f m n i σ4 g1),⟨src.top+1,σ3,g',μ',.refl,R.go e' r',p.go e'⟩,?_⟩
   rintro i n σ1 H1 ⟨σ4,g1,μ1,e1,R1,p1⟩
   have s1:=sim i H1 μ1 g1 e1 R1.g
   cases n with
   |zero=>exact p1.elim
   |succ n =>
    unfold forL at p1
    cases ha:src.at' g1 i with
    |none=>rw[ha]at p1;exact p1.elim
    |some od =>
     rw[ha]at p1 s1
     cases od with
     |none=>exact .inl ⟨s1,p1 σ1 H1 μ1 .refl R1⟩
     |some d =>
      dsimp only at p1 s1
      obtain⟨go,yl⟩:=s1
      refine .inr ⟨go,λσ2 H2=>∃σ5 g2 μ2,Ext X.K μ' H' μ2 H2/\Rep X.K ca μ2 σ5 g2 σ2 H2/\PostS X.K ca Φ E H2 μ2 (forL src f m n (i+1) σ5 g2),λσ2 H2 z=>⟨n,TD n,z⟩,λx H2 y=>?_⟩
      obtain⟨e2,r2,q2⟩:=yl x H2 y
      cases hf:f d σ4 with
      |none=>rw[hf]at p1;exact p1.elim
      |some σ5 =>
       rw[hf]at p1
       dsimp only at p1
       refine⟨σ4,g1,μ1,d,σ5,R1.go e2 r2,q2,hf,λσ6 R6=>⟨σ5,g1,μ1,R6,?_⟩⟩
       cases hb:m σ5 g1 with
       |nx σ7 g7 =>
        rw[hb]at p1
        exact λσ' H3 μ3 e3 R3=>⟨σ7,g7,μ3,(e1.trans e2).trans e3,R3,PostS.go (e2.trans e3) p1⟩
       |ct σ7 g7 =>
        rw[hb]at p1
        exact λσ' H3 μ3 e3 R3=>⟨σ7,g7,μ3,(e1.trans e2).trans e3,R3,PostS.go (e2.trans e3) p1⟩
       |bk σ7 g7 =>
        rw[hb]at p1
        exact λσ' H3 μ3 e3 R3=>p1 σ' H3 μ3 (e2.trans e3) R3
       |rt d7 g7 =>
        rw[hb]at p1
        exact λv H3 μ3 e3 r3 q3=>p1 v H3 μ3 (e2.trans e3) r3 q3
       |raise _ _ _ =>
        rw[hb]at p1
        exact λσ' H3 μ3 e3 R3=>p1 σ' H3 μ3 (e2.trans e3) R3
       |stuck=>rw[hb]at p1;exact p1
  |raise _ _=>rw[hm]at p;exact RaP.stmt R p
  |stuck=>rw[hm]at p;exact p⟩
theorem Qhs{body:List Stmt}(hc:PT3 ca X c tc)(hb:PSs3 ca X body m)(hk:X.stack=X.env::X.outer:=by rfl)(hf:X.env.frame=some X.env.locals:=by rfl):PS3 ca X (.While c body [] pos) (QbA tc m) :=
 λpn Φ=>Ye (QiW (X:=xat X ca pn Φ) (Qka hk hf pn Φ) (hc pn Φ) (hb pn Φ)) λE σ H hQ=>by
  obtain⟨σ3,g,μ,R,p⟩:=hQ
  unfold QbA at p
  by_cases hh:∃f,Zx tc m f σ3 g≠.stuck
  ·rw[dif_pos hh]at p
   generalize hh.choose=k at p
   refine⟨λn σ1 H1=>∃σ4 g1 μ1,Ext X.K μ H μ1 H1/\Rep X.K ca μ1 σ4 g1 σ1 H1/\PostS X.K ca Φ E H1 μ1 (Zx tc m n σ4 g1),⟨k,σ3,g,μ,.refl,R,p⟩,?_⟩
   rintro n σ1 H1 ⟨σ4,g1,μ1,e1,R1,p1⟩
   cases n with
   |zero=>exact p1.elim
   |succ n =>
    unfold Zx at p1
    refine⟨σ4,g1,μ1,R1,?_⟩
    cases ht:tc σ4 g1 with
    |ok t g2 =>
     rw[ht]at p1
     cases t with
     |true =>
      dsimp only at p1
      intro H2 μ2 e2 r2
      rw[Ud rfl]
      refine⟨λσ2 H3=>∃σ5 g3 μ3,Ext X.K μ H μ3 H3/\Rep X.K ca μ3 σ5 g3 σ2 H3/\PostS X.K ca Φ E H3 μ3 (Zx tc m n σ5 g3),λσ2 H3 z=>⟨n,TD n,z⟩,σ4,g2,μ2,R1.go e2 r2,?_⟩
      cases hb:m σ4 g2 with
      |nx σ7 g7 =>
       rw[hb]at p1
       exact λσ' H3 μ3 e3 R3=>⟨σ7,g7,μ3,(e1.trans e2).trans e3,R3,PostS.go (e2.trans e3) p1⟩
      |ct σ7 g7 =>
       rw[hb]at p1
       exact λσ' H3 μ3 e3 R3=>⟨σ7,g7,μ3,(e1.trans e2).trans e3,R3,PostS.go (e2.trans e3) p1⟩
      |bk σ7 g7 =>
       rw[hb]at p1
       exact λσ' H3 μ3 e3 R3=>p1 σ' H3 μ3 (e2.trans e3) R3
      |rt d7 g7 =>
       rw[hb]at p1
       exact λv H3 μ3 e3 r3 q3=>p1 v H3 μ3 (e2.trans e3) r3 q3
      |raise _ _ _ =>
       rw[hb]at p1
       exact λσ' H3 μ3 e3 R3=>p1 σ' H3 μ3 (e2.trans e3) R3
      |stuck=>rw[hb]at p1;exact p1
     |false =>
      intro H2 μ2 e2 r2
      rw[Ue Ug]
      exact p1 σ1 H2 μ2 e2 (R1.go e2 r2)
    |raise _ _=>rw[ht]at p1;exact RaP.stmt R1 p1
    |stuck=>rw[ht]at p1;exact p1
  ·rw[dif_neg hh]at p;exact p.elim
end
noncomputable def spM(K:PySem.W.Frag)(ca:Nat->Addr)(n:Nat)(F:MF):Sp:=λvs H Q E=>vs.length=n/\∃ds g μ,GRep K ca μ H g/\Dens K μ H vs ds/\match F ds g with
 |.ok d g'=>∀v H' μ',Ext K μ H μ' H'->GRep K ca μ' H' g'->Den K μ' H' v d->Q v H'
 |.raise x g'=>∀H' μ',Ext K μ H μ' H'->GRep K ca μ' H' g'->E (.int x.1 0) x.2 H'
 |.stuck=>False
theorem QdX{K:PySem.W.Frag}{ca:Nat->Addr}{μ:List Addr}{H:Hp}{g:G}{vs:List V}{ds:List D}(N:List Str)(r:GRep K ca μ H g)(q:Dens K μ H vs ds):Rep K ca μ (ds.map some++List.replicate (N.length-vs.length) none) g (L2.start N vs) H:=by
 unfold L2.start
 refine⟨r,?_,λi d h=>?_⟩
 ·rw[Us,Us,Uw,Uw,q.length,U6,U6]
 ·by_cases hi:i<ds.length
  ·rw[Uy (by simpa using hi),UA]at h
   cases hd:ds[i]? with
   |none=>rw[hd]at h;cases h
   |some d' =>
    rw[hd]at h;cases h
    obtain⟨v,h1,h2⟩:=q.get hd
    refine⟨v,?_,h2⟩
    rw[Uy (by simpa[q.length]using hi),UA,h1];rfl
  ·rw[Uu (by simpa using hi),Re]at h
   split at h <;> cases h
structure FnH(P:Program)(w:World)(K:PySem.W.Frag)(mg:Str->Option Value)(base:Heap)(ca:Nat->Addr)(x:Str)(k n:Nat)(F:MF):Prop where
 ex:∃(f:Addr)(fd:FuncData)(ps:List Str),FnOk P w K mg base (CXW P w ca) k f fd ps (spM K ca n F)/\mg x=some (.ref f)/\keepIn K (.ref f)=true/\Binds K fd ps []
 st:∀ds g,ds.length≠n->F ds g=.stuck
structure MtH(P:Program)(w:World)(K:PySem.W.Frag)(mg:Str->Option Value)(base:Heap)(ca:Nat->Addr)(c:Nat)(x:Str)(k n:Nat)(F:MF):Prop where
 ex:∃(f:Addr)(fd:FuncData)(ps:List Str),FnOk P w K mg base (CXW P w ca) k f fd ps (spM K ca n F)/\Meth K (ca c) x f/\Cls K (ca c)/\Binds K fd ps []
 st:∀ds g,ds.length≠n->F ds g=.stuck
structure MkH(P:Program)(w:World)(K:PySem.W.Frag)(mg:Str->Option Value)(base:Heap)(ca:Nat->Addr)(c:Nat)(x:Str)(k n:Nat)(F:MF):Prop where
 ex:∃(f:Addr)(fd:FuncData)(ps:List Str),FnOk P w K mg base (CXW P w ca) k f fd ps (spM K ca n F)/\Mk K (ca c) f/\mg x=some (.ref (ca c))/\Binds K fd ps []
 st:∀ds g,ds.length≠n->F ds g=.stuck
theorem Qr(k n:Nat)(m:MS):∀ds g,ds.length≠k->mDef k n m ds g=.stuck:=λds g h=>by unfold mDef;rw[Ue h]
theorem FnH.mono{P:Program}{w:World}{K:PySem.W.Frag}{mg:Str->Option Value}{base:Heap}{ca:Nat->Addr}{x:Str}{j k n:Nat}{F:MF}(h:FnH P w K mg base ca x j n F)(hj:j<=k):FnH P w K mg base ca x k n F:=by
 obtain⟨f,fd,ps,a,b⟩:=h.ex
 exact⟨⟨f,fd,ps,a.mono hj,b⟩,h.st⟩
section
variable{P:Program}{w:World}{K:PySem.W.Frag}{mg:Str->Option Value}{base:Heap}{ca:Nat->Addr}
theorem QdY{N:List Str}{qual:Str}{scope:Scope}{f:Addr}{cd:Value}{A:Around}{outer:List Env}{s:Shared}{H:Hp}{E:XK}{body:List Stmt}{t:TS}(h:PSs (xat (cxOf (CXW P w ca) P w K mg base N qual scope f cd A outer s H E) ca [] (λx _ H'=>E (.int x.1 0) x.2 H')) body t):PSs (cxOf (CXW P w ca) P w K mg base N qual scope f cd A outer s H E) body t:=λpins s1 σ H1 D I q =>
 Tf (h pins s1 σ H1 D (Inv.wish I _) q) (λ_ _ z=>SP.unwish (X:=cxOf (CXW P w ca) P w K mg base N qual scope f cd A outer s H E) z) λ_ _ z=>Qi7 z
theorem Zi{x qual:Str}{st:Stmt}{f:Addr}{fd:FuncData}{N ps:List Str}{k n j:Nat}{m:MS}(F:Fun K x qual st f fd)(S:FnScope N ps (Qc st))(hj:ps.length=j)(hn:N.length-ps.length=n)(h:∀(cdv:Value) (A:Around) (outer:List Env) (s:Shared) (H:Hp) (E:XK),Room k (A.deeper (envOfC qual (Qc st) s.heap.objs.size f cdv)) ->
   PSs3 ca (cxOf (CXW P w ca) P w K mg base N qual (Qc st) f cdv A outer s H E) (Qm st) m):FnOk P w K mg base (CXW P w ca) (k+1) f fd ps (spM K ca j (mDef j n m)):=by
 subst hj
 obtain⟨oc,od,kV,doc,pm,an,cdv,ct,osl,rfl,lk,hcd⟩:=F.ex
 refine QkS lk hcd S (λvs H Q E q=>q.1) λA outer s H vs Q E hr hsp=>?_
 obtain⟨hl,ds,g,μ,r,q,p⟩:=hsp
 refine⟨_,QdY (h cdv A outer s H E hr [] _),ds.map some++List.replicate n none,g,μ,?_,?_⟩
 ·have z:=QdX N r q
  rw[hl,hn]at z
  exact z
 ·unfold mDef at p
  rw[Ud (by rw[<-q.length,hl])]at p
  cases hm:m (ds.map some++List.replicate n none) g with
  |nx σ' g'=>rw[hm]at p;exact λσ'' H' μ' e' R'=>p .non H' μ' e' R'.g .non
  |rt d g'=>rw[hm]at p;exact p
  |bk _ _=>rw[hm]at p;exact p.elim
  |ct _ _=>rw[hm]at p;exact p.elim
  |raise _ _ _=>rw[hm]at p;exact λσ'' H' μ' e' R'=>p H' μ' e' R'.g
  |stuck=>rw[hm]at p;exact p.elim
noncomputable def EK(Φ:XS)(σ:L2.St):XK:=λc l H'=>∀x:Xc,c=.int x.1 0->l=x.2->Φ x σ H'
theorem QdZ{F:MF}{n:Nat}{Φ:XS}{σ:L2.St}{Q:VK}{H:Hp}{μ:List Addr}{vs:List V}{ds:List D}{g:G}(st:∀ds g,ds.length≠n->F ds g=.stuck)(r:GRep K ca μ H g)(q:Dens K μ H vs ds)(p:Post K ca Φ σ Q H μ (F ds g)):spM K ca n F vs H Q (EK Φ σ):=by
 have hl:vs.length=n:=by
  rw[q.length]
  apply WE
  intro h
  rw[st ds g h]at p
  exact p
 refine⟨hl,ds,g,μ,r,q,?_⟩
 cases hF:F ds g with
 |ok d g'=>rw[hF]at p;exact p
 |raise x g' =>
  rw[hF]at p
  intro H' μ' e r' y e1 e2
  have:x=y:=by
   obtain⟨a,b⟩:=x
   obtain⟨c,d⟩:=y
   injection e1 with e1
   have e1:(a:Int)=(c:Int):=e1
   have e3:a=c:=by omega
   rw[e3,show b=d from e2]
  rw[<-this]
  exact p H' μ' e r'
 |stuck=>rw[hF]at p;exact p
end
section
variable{X:Cx}{ca:Nat->Addr}{e o:Expr}{es:List Expr}{me mo:ME}{mr:MA}{p pos apos:Pos}{k n:Nat}{F:MF}{pn:List (Addr×Obj)}{Φ:XS}
theorem Qht{f:Addr}{fd:FuncData}{ps:List Str}{pins:List (Addr×Obj)}{σ:L2.St}{H:Hp}{s:Shared}{Q:VK}{us:List Value}{vs:List V}(G:FnOk X.prog X.w X.K X.mg X.base (CXW X.prog X.w ca) k f fd ps (spM X.K ca n F))(hr:Room k X.A)(hb:Binds X.K fd ps [])(I:Inv (xat X ca pn Φ) pins σ H s)(r:Vals vs us)(h:spM X.K ca n F vs H Q (EK Φ σ)):wpAny (model X.prog X.w) X.A (call (.ref f) us) (EP (xat X ca pn Φ) pins σ Q) (xat X ca pn Φ).xe s:=by
 have hl:(us++[]).length=ps.length:=by rw[UJ,<-r.length];exact G.len _ _ _ _ h
 have b:=hb s us I.kIn hl
 rw[UJ]at b
 refine wpAny_call (Wo (G.run X.A X.stack s H ⟨us,[]⟩ us vs Q (EK Φ σ) hr I.env0 b r h) λres s' hq=>?_)
 cases res with
 |error z=>exact QeK I hq
 |ok fl =>
  cases fl with
  |ret u=>exact I.after hq
  |_=>exact False.elim hq
theorem Qq{x:Str}(h:FnH X.prog X.w X.K X.mg X.base ca x k n F)(hr:Room k X.A)(ha:PA3 ca X (e::es) mr)(hg:Gl X x:=by rfl)(hdb:(x == ("__debug__" : Str))=false:=by decide)(he:starEach (e::es) X.env=(false,eval e X.env)::starEach es X.env:=by rfl)(hpl:(backTo pos (starEach es X.env)).any (·.1)=false:=by rfl):PE3 ca X (.Call (.Name x p) (e::es) [] pos) (Qo F mr):=by
 obtain⟨f,fd,ps,F1,m1,k1,b1⟩:=h.ex
 intro pn Φ pins s σ H Q I ⟨σ3,g,μ,R,q⟩
 refine Rg (QaM I hg m1 ?_ hdb)
 have z:upA X.K ca Φ mr σ H λvs H1=>spM X.K ca n F vs H1 Q (EK Φ σ):=Jn (QcF R q) λxs H1 ⟨ds,g1,μ1,e1,R1,q1,p1⟩=>QdZ h.st R1.g q1 p1
 refine RB (h₀:=X.base) I.ok.mod.kin k1 (thn (ha pn Φ pos pins s σ H _ I z) λus s1 ⟨vs,H1,I1,r,q1⟩=>⟨I1.kIn,?_⟩) he hpl
 exact Qht F1 hr b1 I1 r q1
theorem Qhu{K:PySem.W.Frag}{c:Nat}{m:Str}{σ:L2.St}{H:Hp}{Q:VK}{α:Type}{kk:Nat->G->Res α}{R:Res α->Hp->List Addr->Prop}{d:D}{g:G}{μ:List Addr}{v:V}(r:GRep K ca μ H g)(hst:¬R .stuck H μ)(p:R (match d with
   |.ref i=>(match g[i]? with
    |some (.ins c' fs)=>if c'=c/\fs.lookup m=none then kk i g else .stuck
    |_=>.stuck)
   |_=>.stuck) H μ)(q:Den K μ H v d):∃a dx fv i,d=.ref i/\v=.ref a/\μ[i]?=some a/\H a=some (.ins (ca c) dx fv)/\fv.lookup m=none/\R (kk i g) H μ:=by
 cases q with
 |@ref i a hn =>
  dsimp only at p
  cases hg:g[i]? with
  |none=>rw[hg]at p;exact(hst p).elim
  |some ob =>
   rw[hg]at p
   obtain⟨a',ha',orp⟩:=r.addr hg
   rw[hn]at ha';cases ha'
   cases ob with
   |ins c' fs =>
    dsimp only at p
    obtain⟨dx,fv,hH,fr⟩:=orp
    by_cases hc:c'=c/\fs.lookup m=none
    ·rw[Ud hc]at p
     obtain⟨rfl,hl⟩:=hc
     exact⟨a,dx,fv,i,rfl,rfl,hn,hH,fr.no hl,p⟩
    ·rw[Ue hc]at p;exact(hst p).elim
   |_=>exact(hst p).elim
 |_=>exact(hst p).elim
theorem QmN{c:Nat}{m:Str}{pl:Sem Bool}(h:MtH X.prog X.w X.K X.mg X.base ca c m k n F)(hr:Room k X.A)(ho:PE3 ca X o mo)(ha:PA3 ca X (e::es) mr)(hst:starEach (e::es) X.env=(false,eval e X.env)::starEach es X.env:=by rfl)(hpl:(backTo pos (starEach es X.env)).any (·.1)=false:=by rfl)(ht:eval (.Call (.Attribute o m apos) (e::es) [] pos) X.env=(do
   let ov <-eval o X.env
   standAt apos.atName
   let (f,first) <-holding [ov] (getMethod ov m pl)
   callWith pos f first (backTo pos (starEach (e::es) X.env)) (backToKw pos (keywordEach [] X.env))):=by rfl):PE3 ca X (.Call (.Attribute o m apos) (e::es) [] pos) (Qcn c m F mo mr):=by
 obtain⟨f,fd,ps,F1,m1,k1,b1⟩:=h.ex
 intro pn Φ pins s σ H Q I ⟨σ3,g,μ,R,q⟩
 refine Bg (pl:=pl) (thn (ho pn Φ pins s σ H _ I (Jm R q)) λu s1 ⟨x,H1,I1,rx,d,g1,μ1,e1,R1,q1,p1⟩=>?_) ht
 obtain⟨a,dx,fv,i,rfl,rfl,hn,hH,hl,p2⟩:=Qhu (Q:=Q) (σ:=σ) (R:=λr H μ=>Post X.K ca Φ σ Q H μ r) (kk:=λi g=>(mr σ3 g).bind λxs g2=>F (.ref i::xs) g2) R1.g (λz=>z) p1 q1
 obtain rfl:u=Value.ref a:=rx
 refine QcB I1 hH k1 m1 hl ?_
 have z:upA X.K ca Φ mr σ H1 λvs H2=>spM X.K ca n F (.ref a::vs) H2 Q (EK Φ σ):=Jn (QcF R1 p2) λxs H2 ⟨ds,g2,μ2,e2,R2,q2,p3⟩=>QdZ h.st R2.g (.cons (.ref (e2.at hn)) q2) p3
 refine RB (first:=[.ref a]) (h₀:=X.base) I.ok.mod.kin m1.kp (thn (ha pn Φ pos pins s1 σ H1 _ I1 z) λus s2 ⟨vs,H2,I2,r,q2⟩=>⟨I2.kIn,?_⟩) hst hpl
 exact Qht (us:=.ref a::us) (vs:=.ref a::vs) F1 hr b1 I2 (.cons rfl r) q2
theorem QeL{c:Nat}{m:Str}{pl:Sem Bool}(h:MtH X.prog X.w X.K X.mg X.base ca c m k n F)(hr:Room k X.A)(ho:PE3 ca X o mo)(ht:eval (.Call (.Attribute o m apos) [] [] pos) X.env=(do
   let ov <-eval o X.env
   standAt apos.atName
   let (f,first) <-holding [ov] (getMethod ov m pl)
   callWith pos f first (backTo pos (starEach [] X.env)) (backToKw pos (keywordEach [] X.env))):=by rfl):PE3 ca X (.Call (.Attribute o m apos) [] [] pos) (Qcn c m F mo mNil):=by
 obtain⟨f,fd,ps,F1,m1,k1,b1⟩:=h.ex
 intro pn Φ pins s σ H Q I ⟨σ3,g,μ,R,q⟩
 refine Bg (pl:=pl) (thn (ho pn Φ pins s σ H _ I (Jm R q)) λu s1 ⟨x,H1,I1,rx,d,g1,μ1,e1,R1,q1,p1⟩=>?_) ht
 obtain⟨a,dx,fv,i,rfl,rfl,hn,hH,hl,p2⟩:=Qhu (Q:=Q) (σ:=σ) (R:=λr H μ=>Post X.K ca Φ σ Q H μ r) (kk:=λi g=>(mNil σ3 g).bind λxs g2=>F (.ref i::xs) g2) R1.g (λz=>z) p1 q1
 obtain rfl:u=Value.ref a:=rx
 refine QcB I1 hH k1 m1 hl ?_
 exact callWith_K0 (first:=[.ref a]) I1.kIn m1.kp (Qht (us:=[.ref a]) (vs:=[.ref a]) F1 hr b1 I1 (.cons rfl .nil) (QdZ h.st R1.g (.cons (.ref hn) .nil) p2))
theorem QfB{c:Nat}{x:Str}(h:MkH X.prog X.w X.K X.mg X.base ca c x k n F)(hr:Room (k+1) X.A)(ha:PA3 ca X (e::es) mr)(hg:Gl X x:=by rfl)(hdb:(x == ("__debug__" : Str))=false:=by decide)(he:starEach (e::es) X.env=(false,eval e X.env)::starEach es X.env:=by rfl)(hpl:(backTo pos (starEach es X.env)).any (·.1)=false:=by rfl):PE3 ca X (.Call (.Name x p) (e::es) [] pos) (QbB c F mr):=by
 obtain⟨f,fd,ps,F1,m1,k1,b1⟩:=h.ex
 intro pn Φ pins s σ H Q I ⟨σ3,g,μ,R,q⟩
 refine Rg (QaM I hg k1 ?_ hdb)
 have z:upA X.K ca Φ mr σ H λvs H1=>∀y dy,H1 y=none->H1 dy=none->dy≠y->spM X.K ca n F (.ref y::vs) (upd (upd H1 dy (.own y)) y (.ins (ca c) dy [])) (λv H2=>v=.non/\Q (.ref y) H2) (EK Φ σ) :=
  Jn (QcF R q) λxs H1 ⟨ds,g1,μ1,e1,R1,q1,p1⟩ y dy hy hdy ne=>by
   have hy2:(upd H1 dy (.own y)) y=none:=by rw[Qw (Ne.symm ne)];exact hy
   have ex1:Ext X.K μ1 H1 μ1 (upd H1 dy (.own y)):=QZ hdy
   have g2:=R1.g.new (o:=.own y) hdy
   have ex2:Ext X.K μ1 (upd H1 dy (.own y)) (μ1++[y]) (upd (upd H1 dy (.own y)) y (.ins (ca c) dy [])):=Qt hy2
   have g3:GRep X.K ca (μ1++[y]) (upd (upd H1 dy (.own y)) y (.ins (ca c) dy [])) (g1++[.ins c []]):=g2.push hy2 ⟨dy,[],Qp,.nil⟩
   have ey:(μ1++[y])[g1.length]?=some y:=by rw[<-R1.g.len];simp
   refine QdZ (Φ:=Φ) (σ:=σ) h.st g3 (.cons (.ref ey) ((q1.mono ex1).mono ex2)) ?_
   cases hF:F (D.ref g1.length::ds) (g1++[.ins c []]) with
   |stuck=>rw[hF]at p1;exact p1.elim
   |raise _ _=>rw[hF]at p1;exact RaP.go (ex1.trans ex2) p1
   |ok d g4 =>
    rw[hF,Res.bind_ok]at p1
    intro v H' μ' e' r' q'
    cases q' with
    |non=>exact⟨rfl,p1 _ H' μ' ((ex1.trans ex2).trans e') r' (.ref (e'.at ey))⟩
    |_=>exact p1.elim
 refine RB (h₀:=X.base) I.ok.mod.kin m1.kp (thn (ha pn Φ pos pins s σ H _ I z) λus s1 ⟨vs,H1,I1,r,q1⟩=>⟨I1.kIn,?_⟩) he hpl
 have hq:=q1 (s1.heap.objs.size+1) s1.heap.objs.size (I1.hok.fresh (R0 _)) (I1.hok.fresh (Uc _)) (UF (TD _))
 have I2:=Inv.made (C:=ca c) I1
 have r2:Vals (V.ref (s1.heap.objs.size+1)::vs) (Value.ref (s1.heap.objs.size+1)::us):=.cons rfl r
 have hl:(Value.ref (s1.heap.objs.size+1)::us++[]).length=ps.length:=by
  have w:=r2.length
  rw[F1.len _ _ _ _ hq]at w
  rw[UJ]
  exact w.symm
 have b2:=b1 _ (Value.ref (s1.heap.objs.size+1)::us) I2.kIn hl
 rw[UJ]at b2
 refine wpAny_call (Qi1 (f:=f) I1.kIn m1.makes m1.init (TR.mp m1.fn) (Wo (F1.run _ X.stack _ _ ⟨Value.ref (s1.heap.objs.size+1)::us,[]⟩ (Value.ref (s1.heap.objs.size+1)::us) _ _ (EK Φ σ) (hr.make (ca c) us [])
  (I2.env0.make (ca c) us []) b2 r2 hq) λres s' hq'=>?_))
 cases res with
 |error z=>exact QeK I2 hq'
 |ok fl =>
  cases fl with
  |ret u =>
   obtain⟨v,H',I3,rv,ev,q3⟩:=I2.after hq'
   subst ev
   exact⟨rv,⟨V.ref (s1.heap.objs.size+1),H',I3,rfl,q3⟩⟩
  |_=>exact False.elim hq'
end
section
variable{X:Cx}{ca:Nat->Addr}{tg e:Expr}{me:ME}{mr:MA}{p pos:Pos}
theorem QeM{X:Cx}{tg iter:Expr}{t t':TI}(h:PI X tg iter t)(i:∀σ H R,t' σ H R->t σ H R):PI X tg iter t':=λpins s σ H R I q=>h pins s σ H R I (i σ H R q)
theorem Qhv(K:PySem.W.Frag)(μ:List Addr)(H:Hp)(lo:Int)(n:Nat):Sim K ca μ H (QX lo n) (Itr lo n):=by
 intro i H1 μ1 g1 e r
 unfold QX
 dsimp only
 by_cases h:i<n
 ·rw[Ud h]
  exact⟨h,λx H' y=>by obtain⟨rfl,rfl⟩:=y;exact⟨.refl,r,.int _⟩⟩
 ·rw[Ue h]
  exact RT h
theorem Qk3{K:PySem.W.Frag}{μ:List Addr}{H:Hp}{a:Addr}{vs:List V}{ds:List D}(h:SqT K H a vs)(q:Dens K μ H vs ds):Sim K ca μ H ⟨λ_ i=>some ds[i]?,ds.length⟩ (Itt K a):=by
 intro i H1 μ1 g1 e r
 dsimp only
 cases hd:ds[i]? with
 |none =>
  refine⟨vs,e.tup _ _ h,?_⟩
  rw[q.length]
  exact UZ.mp hd
 |some d =>
  obtain⟨v,h1,h2⟩:=q.get hd
  refine⟨⟨vs,v,e.tup _ _ h,h1⟩,λx H' y=>?_⟩
  obtain⟨rfl,y⟩:=y
  have:=y vs (e.tup _ _ h)
  rw[h1]at this;cases this
  exact⟨.refl,r,h2.mono e⟩
theorem Qk4{K:PySem.W.Frag}{μ:List Addr}{H:Hp}{a:Addr}{n t:Nat}(hn:μ[n]?=some a):Sim K ca μ H ⟨λg i=>(match g[n]? with|some (.lst es)=>some es[i]? | _=>none),t⟩ (Itl K a):=by
 intro i H1 μ1 g1 e r
 dsimp only
 cases hg:g1[n]? with
 |none=>trivial
 |some o =>
  cases o with
  |lst ds =>
   dsimp only
   obtain⟨a',ha',vs,hH,q⟩:=r.addr hg
   rw[e.at hn]at ha';cases ha'
   cases hd:ds[i]? with
   |none =>
    refine⟨vs,.of hH,?_⟩
    rw[q.length]
    exact UZ.mp hd
   |some d =>
    obtain⟨v,h1,h2⟩:=q.get hd
    refine⟨⟨vs,v,.of hH,h1⟩,λx H' y=>?_⟩
    obtain⟨rfl,y⟩:=y
    have:=y vs (.of hH)
    rw[h1]at this;cases this
    exact⟨.refl,r,h2⟩
  |_=>trivial
theorem QmO{K:PySem.W.Frag}{μ:List Addr}{H:Hp}{a:Addr}{vs:List V}{ds:List D}(h:SqF K H a vs)(q:Dens K μ H vs ds):Sim K ca μ H ⟨λ_ i=>some ds[i]?,ds.length⟩ (Itl K a):=by
 intro i H1 μ1 g1 e r
 dsimp only
 have sq:SqL K H1 a vs:=(e.fl _ _ h).sq
 cases hd:ds[i]? with
 |none =>
  refine⟨vs,sq,?_⟩
  rw[q.length]
  exact UZ.mp hd
 |some d =>
  obtain⟨v,h1,h2⟩:=q.get hd
  refine⟨⟨vs,v,sq,h1⟩,λx H' y=>?_⟩
  obtain⟨rfl,y⟩:=y
  have:=y vs sq
  rw[h1]at this;cases this
  exact⟨.refl,r,h2.mono e⟩
theorem QmP{l:Expr}{tl:TE}(hl:PE X l tl):PI X tg l (λσ H R=>tl σ H λx H1=>(∃a,x=.ref a/\(∃xs,SqL X.K H1 a xs)/\R (Itl X.K a) H1)\/∃a,x=.ref a/\(∃xs,SqT X.K H1 a xs)/\R (Itt X.K a) H1):=by
 intro pins s σ H R I h
 refine thn (hl pins s σ H _ I h) λv s1 ⟨x,H1,I1,r1,q1⟩=>?_
 rcases q1 with⟨a,e,⟨xs,hq⟩,q⟩|⟨a,e,⟨xs,hq⟩,q⟩
 ·subst e
  cases r1
  obtain⟨its,rv,p,hz⟩:=I1.list hq
  refine RJ p.isList ?_
  refine⟨s1.heap.objs.size,[s1.heap.objs.size],_,_,H1,rfl,I1.kept (t':=s1.toks) λb o e=>Ub _ e,Qg3 a _,⟨_,Uo _ rfl,rfl,rfl⟩,λb hb=>?_,q⟩
  have e:b=s1.heap.objs.size:=by simpa using hb
  subst e
  exact I1.fpOk (Uc _) (I1.hok.fresh (Uc _))
 ·subst e
  cases r1
  obtain⟨its,rv,p,hz⟩:=I1.tuple hq
  refine wpAny_pyIter_tuple (show s1.heap.IsTuple a its.toArray from p) ?_
  refine⟨s1.heap.objs.size,[s1.heap.objs.size],_,_,H1,rfl,I1.kept (t':=s1.toks) λb o e=>Ub _ e,Qgf a _,⟨_,Uo _ rfl,rfl,rfl⟩,λb hb=>?_,q⟩
  have e:b=s1.heap.objs.size:=by simpa using hb
  subst e
  exact I1.fpOk (Uc _) (I1.hok.fresh (Uc _))
theorem JI(he:PE3 ca X e me):PI3 ca X tg e (Zy me) :=
 λpn Φ=>QeM (QmP (X:=xat X ca pn Φ) (he pn Φ)) λσ H R hQ=>by
  obtain⟨σ3,g,μ,Rp,p⟩:=hQ
  unfold Zy at p
  refine⟨σ3,g,μ,Rp,?_⟩
  cases hm:me σ3 g with
  |raise _ _=>rw[hm]at p;exact p
  |stuck=>rw[hm]at p;exact p.elim
  |ok d g1 =>
   rw[hm,Res.bind_ok]at p
   intro v H1 μ1 e1 r1 q1
   unfold Qa3 at p
   cases q1 with
   |@tup a vs ds ht hs =>
    exact .inr ⟨a,rfl,⟨vs,ht⟩,p _ H1 μ1 e1 r1 (Qk3 ht hs)⟩
   |@fl a vs ds ht hs=>exact .inl ⟨a,rfl,⟨vs,ht.sq⟩,p _ H1 μ1 e1 r1 (QmO ht hs)⟩
   |@ref n a hn =>
    dsimp only at p
    cases hg:g1[n]? with
    |none=>rw[hg]at p;exact p.elim
    |some o =>
     rw[hg]at p
     obtain⟨a',ha',orp⟩:=r1.addr hg
     rw[hn]at ha';cases ha'
     cases o with
     |lst ds=>obtain⟨vs,hH,q⟩:=orp;exact .inl ⟨a,rfl,⟨vs,.of hH⟩,p _ H1 μ1 e1 r1 (Qk4 hn)⟩
     |_=>exact p.elim
   |_=>exact p.elim
theorem YS(hm:X.mg "range" = none)(he:PE3 ca X e me)(hg:Gl X "range":=by rfl)(hs:starEach [e] X.env=[(false,eval e X.env)]:=by rfl):PI3 ca X tg (.Call (.Name "range" p) [e] [] pos) (Qx me) :=
 λpn Φ=>QeM (Qg4 (X:=xat X ca pn Φ) hg hm (Yv he Qj hs pn Φ) hs) λσ H R hQ=>by
  obtain⟨σ3,g,μ,Rp,p⟩:=hQ
  refine⟨σ3,g,μ,Rp,?_⟩
  unfold Qx at p
  unfold Qb mNil
  cases hm:me σ3 g with
  |raise _ _=>rw[hm]at p;exact p
  |stuck=>rw[hm]at p;exact p.elim
  |ok d g1 =>
   rw[hm,Res.bind_ok]at p
   rw[Res.bind_ok,Res.bind_ok]
   intro vs H1 μ1 e1 r1 q1
   cases q1 with
   |cons h1 h2 =>
    cases h2
    cases h1 with
    |int j =>
     dsimp only at p
     by_cases hj:inR j
     ·rw[Ud hj]at p
      exact⟨j,rfl,hj.1,hj.2,p _ H1 μ1 e1 r1 (Qhv X.K μ1 H1 0 j.toNat)⟩
     ·rw[Ue hj]at p;exact p.elim
    |_=>exact p.elim
end
noncomputable def blk(X:Cx)(scope:Scope)(cl:List (Str×Addr))(C:Addr)(Nb:List Str)(s3:Shared)(H3:Hp)(ex:List Addr):Cx :=
 {X with env:=compEnvC scope cl C X.env,N:=Nb,s₀:=s3,H₀:=H3,outer:=X.stack,stack:=X.stack,ex:=ex,fn:=λ_=>false,pn:=[],xe:=λ_ _=>False}
structure BScope(X:Cx)(scope:Scope)(Nb:List Str)(no:Nat)(cap:List Nat):Prop where
 kind:scope.kind=.function
 cell:∀y∈scope.names,y.2≠.cell
 loc:∀y∈scope.names,y.2=.local->scope.names.lookup y.1=some .local
 free:∀y∈scope.names,y.2=.free->X.env.kindOf y.1=some .cell\/X.env.kindOf y.1=some .free
 len:Nb.length=no+cap.length
 cap:∀(j i:Nat),cap[j]?=some i->∃x,Nb[no+j]?=some x/\X.N[i]?=some x/\scope.names.lookup x=some .free/\Vis X.env.scope x/\X.env.kindOf x≠some .local
noncomputable def clOf(cells:List (Str×Addr)):List (Str×NameKind)->List (Str×Addr)->Option (List (Str×Addr))
 |[],cs=>some cs
 | (n,k)::r,cs=>if (k == .free)=true then (match cells.lookup n with
  |some a=>clOf cells r ((n,a)::cs)
  |none=>none) else clOf cells r cs
theorem QaQ{env:Env}:∀(names:List (Str×NameKind))(cs cl:List (Str×Addr)),clOf env.cells names cs=some cl ->
  (forIn names cs λ(x:Str×NameKind)(r:List (Str×Addr))=>(match x with
   | (name,kind)=>if (kind == .free)=true then (do let a <-cellOf env name;pure (ForInStep.yield ((name,a)::r))) else pure (ForInStep.yield r):Sem (ForInStep (List (Str×Addr)))))=(pure cl:Sem (List (Str×Addr)))
 |[],cs,cl,h=>by cases h;rfl
 | (n,k)::r,cs,cl,h=>by
  unfold clOf at h
  rw[Wd]
  by_cases hk:(k == .free)=true
  ·rw[Ud hk]at h
   cases hl:env.cells.lookup n with
   |none=>rw[hl]at h;cases h
   |some a =>
    rw[hl]at h
    dsimp only at h ⊢
    rw[Ud hk]
    unfold cellOf
    rw[hl]
    exact QaQ r _ cl h
  ·rw[Ue hk]at h
   dsimp only
   rw[Ue hk]
   exact QaQ r _ cl h
theorem Qc4{scope:Scope}{env:Env}{cl:List (Str×Addr)}(h:clOf env.cells scope.names []=some cl):closureFor scope env=pure cl:=by
 have q:=QaQ (env:=env) scope.names [] cl h
 unfold closureFor
 exact Rb (λt=>t >>= λr=>(pure r:Sem _)) q
theorem QbJ{cells:List (Str×Addr)}:∀(names:List (Str×NameKind))(cs:List (Str×Addr)),(∀y∈names,y.2=.free->∃c,cells.lookup y.1=some c)->∃cl,clOf cells names cs=some cl
 |[],cs,_=>⟨cs,rfl⟩
 | (n,k)::r,cs,h=>by
  unfold clOf
  by_cases hk:(k == .free)=true
  ·rw[Ud hk]
   obtain⟨c,e⟩:=h (n,k) Uv (TR.mp hk)
   rw[show cells.lookup n=some c from e]
   exact QbJ r _ λy hy=>h y (Ux _ hy)
  ·rw[Ue hk]
   exact QbJ r _ λy hy=>h y (Ux _ hy)
theorem YT{cells:List (Str×Addr)}:∀(names:List (Str×NameKind))(cs cl:List (Str×Addr)),clOf cells names cs=some cl->(∀x c,cs.lookup x=some c->cells.lookup x=some c)->∀x c,cl.lookup x=some c->cells.lookup x=some c
 |[],cs,cl,h,hc=>by cases h;exact hc
 | (n,k)::r,cs,cl,h,hc=>by
  unfold clOf at h
  by_cases hk:(k == .free)=true
  ·rw[Ud hk]at h
   cases hl:cells.lookup n with
   |none=>rw[hl]at h;cases h
   |some a =>
    rw[hl]at h
    refine YT r _ cl h λx c e=>?_
    by_cases z:x=n
    ·subst z
     simp only[List.lookup,RU]at e
     cases e
     exact hl
    ·have zb:(x == n)=false:=Tg.mpr z
     simp only[List.lookup,zb]at e
     exact hc x c e
  ·rw[Ue hk]at h
   exact YT r _ cl h hc
theorem Qbj{cells:List (Str×Addr)}:∀(names:List (Str×NameKind))(cs cl:List (Str×Addr)),clOf cells names cs=some cl->∀x,(x∈names.filterMap λy=>if (y.2 == .free)=true then some y.1 else none)\/(∃c,cs.lookup x=some c)->∃c,cl.lookup x=some c
 |[],cs,cl,h,x,hx=>by
  cases h
  rcases hx with hx|hx
  ·simp at hx
  ·exact hx
 | (n,k)::r,cs,cl,h,x,hx=>by
  unfold clOf at h
  by_cases hk:(k == .free)=true
  ·rw[Ud hk]at h
   cases hl:cells.lookup n with
   |none=>rw[hl]at h;cases h
   |some a =>
    rw[hl]at h
    refine Qbj r _ cl h x ?_
    by_cases z:x=n
    ·subst z
     exact .inr ⟨a,by simp[List.lookup]⟩
    ·have zb:(x == n)=false:=Tg.mpr z
     rcases hx with hx|⟨c,hx⟩
     ·rw[TN]at hx
      simp only[hk,Wj]at hx
      rcases UD.mp hx with e|e
      ·exact absurd e z
      ·exact .inl e
     ·exact .inr ⟨c,by simp only[List.lookup,zb];exact hx⟩
  ·rw[Ue hk]at h
   refine Qbj r _ cl h x ?_
   rcases hx with hx|hx
   ·rw[TN]at hx
    simp only[hk]at hx
    exact .inl (by simpa using hx)
   ·exact .inr hx
theorem QbK{names:List (Str×NameKind)}{x:Str}(h:names.lookup x=some .free):x∈names.filterMap λy=>if (y.2 == .free)=true then some y.1 else none :=
 Wt.mpr ⟨(x,.free),TQ h,by simp⟩
theorem JJ{env:Env}:∀{names:List (Str×NameKind)}{x:Str}{k:NameKind},(∀y∈names,y.2≠.cell) ->
  (names.map λ(n,k)=>if (k == NameKind.free && env.scope.kind == .function && env.kindOf n == some .cell) then (n,NameKind.cell) else (n,k)).lookup x=some k->(k=.cell\/k=.free)->names.lookup x=some .free
 |[],_,_,_,h,_=>by cases h
 | (n,k0)::r,x,k,hn,h,hk=>by
  have ih:=@JJ env r x k λy hy=>hn y (Ux _ hy)
  rw[UH]at h
  by_cases hc:(k0 == NameKind.free && env.scope.kind == .function && env.kindOf n == some .cell)=true
  ·have k0f:k0=.free:=by
    simp only[UR]at hc
    exact TR.mp hc.1.1
   dsimp only at h
   rw[Ud hc]at h
   cases hx:x == n with
   |true=>simp only[List.lookup,hx];rw[k0f]
   |false=>simp only[List.lookup,hx]at h ⊢;exact ih h hk
  ·dsimp only at h
   rw[Ue hc]at h
   cases hx:x == n with
   |true =>
    simp only[List.lookup,hx]at h ⊢
    cases h
    rcases hk with e|e
    ·exact absurd e (hn (n,k0) Uv)
    ·rw[e]
   |false=>simp only[List.lookup,hx]at h ⊢;exact ih h hk
theorem Qd0{prog:Program}{w:World}{A:Around}{R:Result->Shared->Prop}{s:Shared}{elt target iter:Expr}{ifs:List Expr}{scope:Scope}{pos:Pos}{it acc:Value}{env:Env}(I:Nat->Shared->Prop)(turn:∀n s,I n s->wpAny (model prog w) A (pyNext it) (λr s₁=>match r with
   |none=>R (.ok .next) s₁
   |some v=>wpAny (model prog w) A (letOwnedTupleGo target it v) (λ_ s1'=>wpAny (model prog w) A (assign target env v) (λ_ s₂ =>
     wpAny (model prog w) A (forIn ifs true λc r=>if r=true then do let ok <-isTrue c env (eval c env);pure (ForInStep.yield ok) else pure (ForInStep.yield r)) (λok s₃ =>
      if ok=true then wpAny (model prog w) A (eval elt env) (λx s₄ =>
       wpAny (model prog w) A (call (.builtin "list.append") [acc,x]) (λ_ s₅=>∃m,m<n/\I m s₅) (λ_ _=>False) s₄) (λ_ _=>False) s₃
      else ∃m,m<n/\I m s₃) (λ_ _=>False) s₂) (λ_ _=>False) s1') (λ_ _=>False) s₁) (λ_ _=>False) s)(n:Nat)(h:I n s):codeAny (model prog w) A (.compLoop (.ListComp elt [⟨target,iter,ifs,0⟩] scope pos) 0 it acc env) R s:=by
 refine codeAny_loop rfl I (λn s hI=>?_) n h
 show wpAny _ A ((compTurn (.ListComp elt [⟨target,iter,ifs,0⟩] scope pos) 0 it acc env).onRaise (λx=>do noteFrame x env;theTreesLotGoes x)) _ _ s
 refine wpAny_noted ?_
 rw[compTurn_list]
 refine Ua (wpAny_standAt (Ua (Tf (turn n s hI) (λr s₁ h₁=>?_) λ_ _ h'=>h'.elim)))
 cases r with
 |none=>exact Uj h₁
 |some v =>
  refine Ua (Tf h₁ (λ_ s1' h1'=>?_) λ_ _ h'=>h'.elim)
  refine Ua (Tf h1' (λ_ s₂ h₂=>Ua (Tf h₂ (λok s₃ h₃=>?_) λ_ _ h'=>h'.elim)) λ_ _ h'=>h'.elim)
  cases ok with
  |false=>exact Uj ⟨rfl,h₃⟩
  |true =>
   exact Ua (Ua (Tf h₃ (λx s₄ h₄=>Ua (Tf h₄ (λ_ s₅ h₅=>Uj (Uj ⟨rfl,h₅⟩)) λ_ _ h'=>h'.elim)) λ_ _ h'=>h'.elim))
theorem Inv.track{X:Cx}{pins:List (Addr×Obj)}{σ:L2.St}{H:Hp}{s:Shared}{a:Addr}{o:HO}(I:Inv X pins σ H s)(ha:FpOk X pins H a)(new:ObjOk X.prog X.w (upd H a o) s.heap a o):Inv X pins σ (upd H a o) s:=by
 obtain⟨f0,f1,f2,f3,f4,f5⟩:=ha
 have ne:∀b u,H b=some u->b≠a:=λb u e=>QT e f0
 refine I.step (h':=s.heap) (g':=s.gens) (t':=s.toks) (d':=s.drawn) (ch:=[a]) (λb hb=>?_) (λb o _ _ _ e _=>e) (λb o _ _ _ e _=>⟨o.slots,e⟩) (λb o hb e n=>?_) (λb o _ e=>⟨o,e⟩)
  (λb xs e=>by rw[Qw (ne b _ e)];exact e) (λb o u e=>by rw[Qw (ne b _ e)];exact e) (λb ps e=>⟨#[],by rw[Qw (ne b _ e),e];simp⟩) (λ_ h=>h) (λb u e=>?_) I.bare
 ·have e:b=a:=by simpa using hb
  subst e
  exact⟨f3,f1,f4,f5⟩
 ·rw[Qw (λz=>hb (by simp[z]))];exact n
 ·by_cases hb:b=a
  ·subst hb;rw[Qp]at e;cases e;exact new
  ·rw[Qw hb]at e
   exact(I.hok b u e).stay (λ_ _ _ q=>q) (λc q=>by rw[Qw (ne c _ q)];exact q) λc xs q=>by rw[Qw (ne c _ q)];exact q
theorem FpOk.mono{X:Cx}{pins:List (Addr×Obj)}{H H':Hp}{b:Addr}(h:FpOk X pins H b)(n:H' b=none):FpOk X pins H' b:=⟨n,h.2⟩
noncomputable abbrev F0:XS:=λ_ _ _=>False
theorem noX{α:Type}{M:Model}{A:Around}{X:Cx}{ca:Nat->Addr}{t:Sem α}{Q:α->Shared->Prop}{s:Shared}(h:wpAny M A t Q (XE X ca F0) s):wpAny M A t Q (λ_ _=>False) s:=Tf h (λ_ _ z=>z) λ_ _ ⟨_,_,_,_,_,_,_,z⟩=>z
noncomputable def PIf(ca:Nat->Addr)(X:Cx)(ifs:List Expr)(m:MT):Prop :=
 ∀(pins:List (Addr×Obj))(s:Shared)(σ:L2.St)(H:Hp)(Q:Bool->Hp->Prop),Inv (xat X ca [] F0) pins σ H s->upT X.K ca F0 m σ H Q ->
  wpAny (model X.prog X.w) X.A (forIn ifs true λc r=>if r=true then do let ok <-isTrue c X.env (eval c X.env);pure (ForInStep.yield ok) else pure (ForInStep.yield r)) (TP (xat X ca [] F0) pins σ Q) (λ_ _=>False) s
theorem QeN{X:Cx}{ca:Nat->Addr}:PIf ca X [] YM:=by
 intro pins s σ H Q I ⟨_,_,μ,R,p⟩
 rw[WA]
 exact Uj ⟨H,I,p H μ .refl R.g⟩
section
variable{X:Cx}{ca:Nat->Addr}{pn:List (Addr×Obj)}
theorem QmQ{scope:Scope}{Nb:List Str}{no:Nat}{cap:List Nat}{cl:List (Str×Addr)}{pins:List (Addr×Obj)}{σ:L2.St}{H:Hp}{s:Shared}{ex:List Addr}(B:BScope X scope Nb no cap)(hcl:clOf X.env.cells scope.names []=some cl)(I:Inv (xat X ca pn F0) pins σ H s)(hex:∀b∈ex,FpOk (xat X ca pn F0) pins H b)(hlt:∀b∈ex,b<s.heap.objs.size):(xat (blk X scope cl s.heap.objs.size Nb s H ex) ca [] F0).Ok where
 mod:=I.ok.mod
 kind:=B.kind
 glob:=I.ok.glob
 blt:=I.ok.blt
 above:=Uc _
 inj:=λx y c h1 h2=>I.ok.inj x y c (YT _ _ _ hcl (λ_ _ z=>by cases z) x c h1) (YT _ _ _ hcl (λ_ _ z=>by cases z) y c h2)
 has:=λx hx=>Qbj _ _ _ hcl x (.inl (QbK (by
  rcases hx with hx|hx
  ·exact JJ B.cell hx (.inl rfl)
  ·exact JJ B.cell hx (.inr rfl))))
 cab:=λ_ _ z=>by cases z
 hd:=I.ok.hd
 frames:=I.ok.frames
 stk:=.inl rfl
 exf:=λb hb=>⟨UF (hlt b hb),λx c e z=>(hex b hb).2.2.2.2.1 x c (YT _ _ _ hcl (λ_ _ z=>by cases z) x c e) z⟩
 bs:=I.bs
 bsz:=Ut I.ok.bsz I.sz
 noex:=λb o e hb=>by
  rcases(hex b hb).2.2.2.1 with z|z
  ·exact I.ok.noex b o e z
  ·exact absurd (Ur (Uk e) (Ut I.ok.bsz z)) (Tc _)
 exfs:=λb hb z=>by
  rcases UD.mp (I.stkSub b z) with e|e
  ·exact(hex b hb).2.1 e
  ·exact(hex b hb).2.2.1 e
 funs:=I.stack
 frf:=I.stkFree
theorem Jb{env:Env}:∀{names:List (Str×NameKind)}{x:Str},names.lookup x=some .free ->
  (names.map λ(n,k)=>if (k == NameKind.free && env.scope.kind == .function && env.kindOf n == some .cell) then (n,NameKind.cell) else (n,k)).lookup x=some .local->False
 |[],_,h,_=>by cases h
 | (n,k0)::r,x,h,h'=>by
  have ih:=@Jb env r x
  rw[UH]at h'
  dsimp only at h'
  by_cases hc:(k0 == NameKind.free && env.scope.kind == .function && env.kindOf n == some .cell)=true
  ·rw[Ud hc]at h'
   cases hx:x == n with
   |true=>simp only[List.lookup,hx]at h';cases h'
   |false=>simp only[List.lookup,hx]at h h';exact ih h h'
  ·rw[Ue hc]at h'
   cases hx:x == n with
   |true=>simp only[List.lookup,hx]at h h';rw[h']at h;cases h
   |false=>simp only[List.lookup,hx]at h h';exact ih h h'
theorem Qi8{K:PySem.W.Frag}{ca:Nat->Addr}{μ2:List Addr}{σ3:S3}{g1:G}{σ:L2.St}{H2:Hp}(no:Nat)(cap:List Nat)(R2:Rep K ca μ2 σ3 g1 σ H2):Rep K ca μ2 (capt no cap σ3) g1 (List.replicate no none++cap.map λi=>(σ[i]?).getD none) H2:=by
 refine⟨R2.g,?_,λi d h=>?_⟩
 ·unfold capt
  rw[Us,Us,U6,U6,Uw,Uw]
 ·unfold capt at h
  have hi:no<=i:=by
   apply RT
   intro hlt
   rw[Uy (by simpa using hlt),Re,Ud hlt]at h
   cases h
  rw[Uu (by simpa using hi),U6,UA]at h ⊢
  cases hcp:cap[i-no]? with
  |none=>rw[hcp]at h;cases h
  |some j =>
   rw[hcp]at h
   have h:(σ3[j]?).getD none=some d:=by simpa using h
   have hs:σ3[j]?=some (some d):=by
    cases z:σ3[j]? with
    |none=>rw[z]at h;cases h
    |some w=>rw[z]at h;have h:w=some d:=h;rw[h]
   obtain⟨v,h1,h2⟩:=R2.st j d hs
   exact⟨v,by simp[h1],h2⟩
theorem Qhw{tg iter elt:Expr}{ifs:List Expr}{scope:Scope}{pos:Pos}{Nb:List Str}{no:Nat}{cap:List Nat}{cl:List (Str×Addr)}{f:MG}{tc:MT}{me:ME}{src:Src}{pins:List (Addr×Obj)}{σ:L2.St}{σ3:S3}{H2:Hp}{s2:Shared}{μ2:List Addr}{g1 g2:G}{ds:List D}{it:Addr}{fp:List Addr}{tn:Nat->Heap->Prop}{J:It}{RR:Value->Addr->Result->Shared->Prop}{E:Value->Shared->Prop}(B:BScope X scope Nb no cap)(hc:X.calm=true)(hb:∀cl C s3 H3 ex,PG3 ca (blk X scope cl C Nb s3 H3 ex) tg f/\PIf ca (blk X scope cl C Nb s3 H3 ex) ifs tc/\PE3 ca (blk X scope cl C Nb s3 H3 ex) elt me)(hcl:clOf X.env.cells scope.names []=some cl)(I2:Inv (xat X ca pn F0) pins σ H2 s2)(T:Turn X.prog X.w X.K tg J fp it tn)(st2:tn 0 s2.heap)(f2:∀b∈fp,FpOk (xat X ca pn F0) pins H2 b)(R2:Rep X.K ca μ2 σ3 g1 σ H2)(sim:Sim X.K ca μ2 H2 src J)(hz:src.top<=SZ)(hL:JB src f tc me (src.top+1) 0 (capt no cap σ3) g1 []=.ok ds g2)(fin:∀(D C:Addr) (s':Shared) (H4:Hp) (μ4:List Addr) (accV:List V) (its:List Value) (k:Nat),Inv (xat X ca pn F0) pins σ H4 s'->(∃m,s'.heap.Ns C m)->FpOk (xat X ca pn F0) pins H4 C->FpOk (xat X ca pn F0) pins H4 D->D≠C ->
   s'.heap.get? D=some {cls:=.type "list",data:=.seq its.toArray k}->Vals accV its->accV.length<=sizeLine->Ext X.K μ2 H2 μ4 H4->GRep X.K ca μ4 H4 g2->Dens X.K μ4 H4 accV ds->RR (.ref D) C (.ok .next) s'):
  wpAny (model X.prog X.w) X.A (newList []) (λacc s₃=>wpAny (model X.prog X.w) X.A (newFunctionEnv scope X.env.globals cl [] X.env.qual none .none (some X.env)) (λcenv s₄ =>
   codeAny (model X.prog X.w) X.A (.compStart (.ListComp elt [⟨tg,iter,ifs,0⟩] scope pos) 0 (.ref it) acc {cenv with scope:=relabel scope X.env}) (RR acc cenv.locals) s₄) E s₃) E s2:=by
 refine U7 (wpAny_newFunctionEnv B.cell (by intro y hy;simp at hy) (λh₁ hns₁ hsb₁=>?_) B.kind)
 dsimp only at hns₁ hsb₁ ⊢
 generalize hH2:s2.heap.push {cls:=.type "list",dict:=none,data:=.seq ([]:List Value).toArray}=hp at hns₁ hsb₁ ⊢
 have hC:hp.objs.size=s2.heap.objs.size+1:=by rw[<-hH2,Tu]
 have I3:Inv (xat X ca pn F0) pins σ H2 {s2 with heap:=hp}:=by rw[<-hH2];exact I2.kept (t':=s2.toks) λb o e=>Ub _ e
 have hD3:hp.get? s2.heap.objs.size=some {cls:=.type "list",data:=.seq ([]:List Value).toArray}:=by rw[<-hH2];exact Uo _ rfl
 have fD:FpOk (xat X ca pn F0) pins H2 s2.heap.objs.size:=I2.fpOk (Uc _) (I2.hok.fresh (Uc _))
 have fC:FpOk (xat X ca pn F0) pins H2 hp.objs.size:=I3.fpOk (Uc _) (I3.hok.fresh (Uc _))
 have fplt:∀b∈fp,b<s2.heap.objs.size:=λb hb=>by
  obtain⟨o,e,_⟩:=T.obj 0 _ st2 b hb
  exact Uk e
 have DnF:s2.heap.objs.size∉fp:=λh=>Tc _ (fplt _ h)
 have DnC:s2.heap.objs.size≠hp.objs.size:=by rw[hC];exact UF (TD _)
 have exOk:∀b∈s2.heap.objs.size::fp,FpOk (xat X ca pn F0) pins H2 b:=λb hb=>by
  rcases UD.mp hb with e|e
  ·rw[e];exact fD
  ·exact f2 b e
 have exLt:∀b∈s2.heap.objs.size::fp,b<hp.objs.size:=λb hb=>by
  rcases UD.mp hb with e|e
  ·rw[e,hC];exact TD _
  ·rw[hC];exact Nat.lt_succ_of_lt (fplt b e)
 have okb:(xat (blk X scope cl hp.objs.size Nb {s2 with heap:=hp} H2 (s2.heap.objs.size::fp)) ca [] F0).Ok:=QmQ (s:={s2 with heap:=hp}) B hcl I3 exOk exLt
 obtain⟨hgB,hiB,heB⟩:=hb cl hp.objs.size {s2 with heap:=hp} H2 (s2.heap.objs.size::fp)
 have old:∀b o,hp.get? b=some o->h₁.get? b=some o:=λb o e=>hsb₁.extBut b o (UF (Uk e)) (Ub _ e)
 -- the block's first state
 have Ib:Inv (xat (blk X scope cl hp.objs.size Nb {s2 with heap:=hp} H2 (s2.heap.objs.size::fp)) ca [] F0) [] (List.replicate no none++cap.map λi=>(σ[i]?).getD none) H2 {s2 with heap:=h₁,toks:=s2.toks+([]:List (Str×Value)).length}:=by
  refine⟨okb,rfl,I3.bare,Un.kept old,⟨_,hns₁,λi x v h1 h2 h3=>?_⟩,λx c e=>?_,fC.1,λx c e=>?_,λp hp=>absurd (show p∈([]:List (Addr×Obj)) from hp) (by simp),I3.hok.kept old,?_⟩
  ·have hi:no<=i:=by
    apply RT
    intro hlt
    rw[Uy (by simpa using hlt),Re,Ud hlt]at h2
    cases h2
   rw[Uu (by simpa using hi),U6,UA]at h2
   cases hcp:cap[i-no]? with
   |none=>rw[hcp]at h2;cases h2
   |some j =>
    rw[hcp]at h2
    have h2:(σ[j]?).getD none=some v:=by simpa using h2
    have hs:σ[j]?=some (some v):=by
     cases z:σ[j]? with
     |none=>rw[z]at h2;cases h2
     |some w=>rw[z]at h2;have h2:w=some v:=h2;rw[h2]
    obtain⟨y,n1,n2,n3,n4,n5⟩:=B.cap (i-no) j hcp
    have e0:no+(i-no)=i:=by omega
    rw[e0]at n1
    have h1:Nb[i]?=some x:=h1
    have hxy:y=x:=Option.some.inj (n1.symm.trans h1)
    subst hxy
    obtain⟨m,hn,hl⟩:=I3.loc
    obtain⟨u,ru,lk⟩:=hl j y v n2 hs n4
    refine⟨u,ru,.inr ⟨?_,?_⟩⟩
    ·rcases h3 with z|z|z
     ·exact(Jb n3 z).elim
     ·exact .inl z
     ·exact .inr z
    ·rcases lk with⟨k1,_⟩|⟨_,c,k2,k3⟩
     ·exact absurd k1 n5
     ·obtain⟨c',hc'⟩:=Qbj _ _ _ hcl y (.inl (QbK n3))
      have:=YT _ _ _ hcl (λ_ _ z=>by cases z) y c' hc'
      have k2:X.env.cells.lookup y=some c:=k2
      have hcc:c'=c:=Option.some.inj (this.symm.trans k2)
      subst hcc
      exact⟨c',hc',k3.keeps old⟩
  ·obtain⟨v,z⟩:=I3.cell x c (YT _ _ _ hcl (λ_ _ z=>by cases z) x c e)
   exact⟨v,z.keeps old⟩
  ·exact I3.freeC x c (YT _ _ _ hcl (λ_ _ z=>by cases z) x c e)
  ·rw[Us,U6,Uw];exact B.len.symm
 have RbR:=Qi8 no cap R2
 have eK:(xat (blk X scope cl hp.objs.size Nb {s2 with heap:=hp} H2 (s2.heap.objs.size::fp)) ca [] F0).K=X.K:=rfl
 have eP:(xat (blk X scope cl hp.objs.size Nb {s2 with heap:=hp} H2 (s2.heap.objs.size::fp)) ca [] F0).prog=X.prog:=rfl
 have eW:(xat (blk X scope cl hp.objs.size Nb {s2 with heap:=hp} H2 (s2.heap.objs.size::fp)) ca [] F0).w=X.w:=rfl
 have eA:(xat (blk X scope cl hp.objs.size Nb {s2 with heap:=hp} H2 (s2.heap.objs.size::fp)) ca [] F0).A=X.A:=rfl
 have eE:(xat (blk X scope cl hp.objs.size Nb {s2 with heap:=hp} H2 (s2.heap.objs.size::fp)) ca [] F0).env=compEnvC scope cl hp.objs.size X.env:=rfl
 have eC:(xat (blk X scope cl hp.objs.size Nb {s2 with heap:=hp} H2 (s2.heap.objs.size::fp)) ca [] F0).calm=true:=hc
 have eX:∀b∈s2.heap.objs.size::fp,b∈(xat (blk X scope cl hp.objs.size Nb {s2 with heap:=hp} H2 (s2.heap.objs.size::fp)) ca [] F0).ex:=λb hb=>hb
 have eN:∀{pl:List (Addr×Obj)}{p:Addr×Obj},p∈(xat (blk X scope cl hp.objs.size Nb {s2 with heap:=hp} H2 (s2.heap.objs.size::fp)) ca [] F0).pn++pl->p∈pl:=λh=>h
 have toUn:∀{pl:List (Addr×Obj)}{σ':L2.St}{H':Hp}{s':Shared},Inv (xat (blk X scope cl hp.objs.size Nb {s2 with heap:=hp} H2 (s2.heap.objs.size::fp)) ca [] F0) pl σ' H' s'->Un (frs (xat X ca pn F0).stack) (s2.heap.objs.size::fp) H2 H' hp s'.heap:=λI=>I.base
 have toOs:∀{pl:List (Addr×Obj)}{σ':L2.St}{H':Hp}{s':Shared},Inv (xat (blk X scope cl hp.objs.size Nb {s2 with heap:=hp} H2 (s2.heap.objs.size::fp)) ca [] F0) pl σ' H' s'->s'.os=s2.os:=λI=>I.os
 generalize blk X scope cl hp.objs.size Nb {s2 with heap:=hp} H2 (s2.heap.objs.size::fp)=Xb at okb hgB hiB heB Ib eK eP eW eA eE eC eX eN toUn toOs
 -- the iterator's records,through the block
 have FpB:∀{H:Hp}{pl:List (Addr×Obj)},(∀b∈fp,H b=none)->(∀p∈pl,p.1∉fp)->∀b∈fp,FpOk (xat Xb ca [] F0) pl H b:=λ{H pl} hn hpl b hb=>by
  have e0:=okb.exf b (eX b (Ux _ hb))
  refine⟨hn b hb,e0.1,?_,.inl (eX b (Ux _ hb)),e0.2,λp hp z=>?_⟩
  ·exact okb.exfs b (eX b (Ux _ hb))
  ·have hp':p∈pl:=eN hp
   exact hpl p hp' (z ▸ hb)
 have FpD:∀{H:Hp},H s2.heap.objs.size=none->FpOk (xat Xb ca [] F0) [] H s2.heap.objs.size:=λ{H} hn=>by
  have e0:=okb.exf s2.heap.objs.size (eX _ Uv)
  refine⟨hn,e0.1,?_,.inl (eX _ Uv),e0.2,λp hp=>?_⟩
  ·exact okb.exfs s2.heap.objs.size (eX _ Uv)
  ·exact absurd (eN hp) (by simp)
 have st4:tn 0 h₁:=T.keep _ _ _ st2 λb hb o e=>old b o (by rw[<-hH2];exact Ub _ e)
 -- the invariant
 have loop:∀s4:Shared,s4 = {s2 with heap:=h₁,toks:=s2.toks+([]:List (Str×Value)).length} ->
   codeAny (model X.prog X.w) X.A (.compLoop (.ListComp elt [⟨tg,iter,ifs,0⟩] scope pos) 0 (.ref it) (.ref s2.heap.objs.size) (compEnvC scope cl hp.objs.size X.env)) (RR (.ref s2.heap.objs.size) hp.objs.size) s4:=by
  rintro s4 rfl
  refine Qd0 (λn s'=>∃(i:Nat)(σ4:S3)(g4:G)(μ4:List Addr)(σ5:L2.St)(H4:Hp)(acc:List D)(accV:List V)(its:List Value)(k:Nat),Inv (xat Xb ca [] F0) [] σ5 H4 s'/\tn i s'.heap/\(∀b∈fp,H4 b=none)/\H4 s2.heap.objs.size=none /\
   s'.heap.get? s2.heap.objs.size=some {cls:=.type "list",data:=.seq its.toArray k}/\Vals accV its/\Ext X.K μ2 H2 μ4 H4/\Rep X.K ca μ4 σ4 g4 σ5 H4/\Dens X.K μ4 H4 accV acc/\JB src f tc me n i σ4 g4 acc=.ok ds g2 /\
   acc.length<=i/\i+n<=SZ+1) ?_ (src.top+1) ⟨0,capt no cap σ3,g1,μ2,_,H2,[],[],[],_,Ib,st4,λb hb=>(f2 b hb).1,fD.1,old _ _ hD3,.nil,.refl,RbR,.nil,hL,Uc _,by omega⟩
  rintro n s5 ⟨i,σ4,g4,μ4,σ5,H4,acc,accV,its,k,I5,st5,fr5,frD,hD5,va,e5,R5,da,hl5,ha5,hn5⟩
  cases n with
  |zero=>cases hl5
  |succ n =>
   unfold JB at hl5
   have s1:=sim i H4 μ4 g4 e5 R5.g
   have pinD:Inv (xat Xb ca [] F0) [(s2.heap.objs.size,{cls:=.type "list",data:=.seq its.toArray k})] σ5 H4 s5:=I5.pins_of λp hp=>by
    rw[Uz.mp hp]
    have z:=FpD frD
    exact⟨hD5,frD,z.2.1,z.2.2.1,λv q=>by cases q⟩
   have nofp:∀p∈[(s2.heap.objs.size,({cls:=.type "list",data:=.seq its.toArray k}:Obj))],p.1∉fp:=λp hp=>by rw[Uz.mp hp];exact DnF
   have getD:∀{σ':L2.St}{H':Hp}{s':Shared}{pl:List (Addr×Obj)},Inv (xat Xb ca [] F0) ([(s2.heap.objs.size,({cls:=.type "list",data:=.seq its.toArray k}:Obj))]++pl) σ' H' s'->s'.heap.get? s2.heap.objs.size=some {cls:=.type "list",data:=.seq its.toArray k}/\H' s2.heap.objs.size=none:=λ{σ' H' s' pl} I'=>by
    have z:=I'.pin (s2.heap.objs.size,{cls:=.type "list",data:=.seq its.toArray k}) (UK _ (Ro _ (Uz.mpr rfl)))
    exact⟨z.1,z.2.1⟩
   cases hat:src.at' g4 i with
   |none=>rw[hat]at hl5;cases hl5
   |some od =>
    rw[hat]at hl5 s1
    cases od with
    |none =>
     cases hl5
     have dn:=T.done (xat Xb ca [] F0) eP eW eK eC i _ s5 σ5 H4 (λ_ _=>False) pinD (FpB fr5 nofp) st5 s1
     rw[eA]at dn
     refine thn dn λr s6 ⟨hr,I6⟩=>?_
     subst hr
     obtain⟨hD6,frD6⟩:=getD (pl:=[]) (by rw[UJ];exact I6)
     have un:Un (frs (xat X ca pn F0).stack) (s2.heap.objs.size::fp) H2 H4 hp s6.heap:=toUn I6
     have hok:HOk (xat X ca pn F0).prog (xat X ca pn F0).w H4 s6.heap:=by have:=I6.hok;rw[eP,eW]at this;exact this
     have os:s6.os=s2.os:=toOs I6
     have I7:Inv (xat X ca pn F0) pins σ H4 s6:=Inv.call' (s':=s6) (ch:=s2.heap.objs.size::fp) I3 os un hok I6.bare λb hb=>⟨(exOk b hb).2.2.2.1,(exOk b hb).2.1,(exOk b hb).2.2.2.2.1,(exOk b hb).2.2.2.2.2⟩
     have hCn:H4 hp.objs.size=none:=by have:=I6.free;rw[eE]at this;exact this
     have nsC:∃m,s6.heap.Ns hp.objs.size m:=by obtain⟨m,hm,_⟩:=I6.loc;rw[eE]at hm;exact⟨m,hm⟩
     refine fin _ _ s6 H4 μ4 accV its k I7 nsC (FpOk.mono fC hCn) (FpOk.mono fD frD6) DnC hD6 va ?_ e5 R5.g da
     rw[da.length]
     have:=Y4
     omega
    |some d =>
     obtain⟨go,yl⟩:=s1
     dsimp only at hl5
     cases hf:f d σ4 with
     |none=>rw[hf]at hl5;cases hl5
     |some σ6 =>
      rw[hf]at hl5
      dsimp only at hl5
      have im:=T.item (xat Xb ca [] F0) eP eW eK eC i _ s5 σ5 H4 (λ_ _=>False) pinD (FpB fr5 nofp) st5 go
      rw[eA]at im
      refine thn im λr s6 ⟨u,hr,h6⟩=>?_
      subst hr
      refine thn h6 λ_ s7 ⟨x,H7,I7,r7,y7,st7,fr7⟩=>?_
      obtain⟨e7,g7,q7⟩:=yl x H7 y7
      have I7':=I7.pinned (FpB fr7 nofp) (T.obj _ _ st7)
      have R7:=R5.go e7 g7
      have asg:=hgB [] F0 _ s7 σ5 H7 x u (λσ' H'=>H'=H7/\Rep X.K ca μ4 σ6 g4 σ' H7) I7' r7 (by
       have:Xb.K=X.K:=eK
       rw[this]
       exact⟨σ4,g4,μ4,d,σ6,R7,q7,hf,λσ' R'=>⟨rfl,R'⟩⟩)
      rw[eP,eW,eA,eE]at asg
      refine thn (noX asg) λ_ s8 ⟨σ8,H8,I8,e8,R8⟩=>?_
      subst e8
      cases ht:tc σ6 g4 with
      |raise _ _=>rw[ht]at hl5;cases hl5
      |stuck=>rw[ht]at hl5;cases hl5
      |ok b g9 =>
       rw[ht]at hl5
       have hl5:(if b=true then (match me σ6 g9 with | .ok y g2=>JB src f tc me n (i+1) σ6 g2 (acc++[y])|_=>.stuck) else JB src f tc me n (i+1) σ6 g9 acc)=.ok ds g2:=hl5
       have tst:=hiB _ s8 σ8 _ (λb' H'=>b'=b/\∃μ9,Ext X.K μ4 H8 μ9 H'/\Rep X.K ca μ9 σ6 g9 σ8 H') I8 (by
        have:Xb.K=X.K:=eK
        rw[this]
        refine⟨σ6,g4,μ4,R8,?_⟩
        rw[ht]
        exact λH' μ' e' r'=>⟨rfl,μ',e',R8.go e' r'⟩)
       have eP':Xb.prog=X.prog:=eP
       have eW':Xb.w=X.w:=eW
       have eA':Xb.A=X.A:=eA
       have eE':Xb.env=compEnvC scope cl hp.objs.size X.env:=eE
       rw[eP',eW',eA',eE']at tst
       refine thn tst λok s9 ⟨H9,I9,eb,μ9,e9,R9⟩=>?_
       subst eb
       have again:∀{σ':L2.St}{H':Hp}{s':Shared},Inv (xat Xb ca [] F0) ([(s2.heap.objs.size,({cls:=.type "list",data:=.seq its.toArray k}:Obj))]++QdJ fp s7.heap) σ' H' s'->Inv (xat Xb ca [] F0) [] σ' H' s'/\tn (i+1) s'.heap/\∀b∈fp,H' b=none:=λ{σ' H' s'} I'=>by
        refine⟨I'.pins_of λp hp=>absurd hp (by simp),T.keep _ _ _ st7 λb hb o e=>(I'.pin (b,o) (UK _ (UK _ (JW hb e)))).1,λb hb=>?_⟩
        obtain⟨o,e,_⟩:=T.obj _ _ st7 b hb
        exact(I'.pin (b,o) (UK _ (UK _ (JW hb e)))).2.1
       cases ok with
       |false =>
        rw[Ue Ug]at hl5 ⊢
        obtain⟨J1,J2,J3⟩:=again I9
        obtain⟨K1,K2⟩:=getD I9
        refine⟨n,TD n,i+1,σ6,g9,μ9,σ8,H9,acc,accV,its,k,J1,J2,J3,K2,K1,va,(e5.trans e7).trans e9,R9,(da.mono e7).mono e9,hl5,by omega,by omega⟩
       |true =>
        rw[Ud rfl]at hl5 ⊢
        cases hm:me σ6 g9 with
        |raise _ _=>rw[hm]at hl5;cases hl5
        |stuck=>rw[hm]at hl5;cases hl5
        |ok y g10 =>
         rw[hm]at hl5
         have hl5:JB src f tc me n (i+1) σ6 g10 (acc++[y])=.ok ds g2:=hl5
         have el:=heB [] F0 _ s9 σ8 H9 (λvy H'=>∃μ10,Ext X.K μ9 H9 μ10 H'/\Rep X.K ca μ10 σ6 g10 σ8 H'/\Den X.K μ10 H' vy y) I9 (by
          have:Xb.K=X.K:=eK
          rw[this]
          refine⟨σ6,g9,μ9,R9,?_⟩
          rw[hm]
          exact λv H' μ' e' r' q'=>⟨μ',e',R9.go e' r',q'⟩)
         rw[eP,eW,eA,eE]at el
         refine thn (noX el) λuy s10 ⟨vy,H10,I10,ry,μ10,e10,R10,qy⟩=>?_
         obtain⟨K1,K2⟩:=getD I10
         obtain⟨J1,J2,J3⟩:=again I10
         have hlen:its.length=acc.length:=by rw[<-va.length,da.length]
         refine WD F.slot_list_append ⟨_,K1,rfl⟩ F.entry_list_append (F.args_list_append_2 _ _) (PySem.list_append s2.heap.objs.size its.toArray k uy (by rw[Uf,WR];have:SZ=1000000:=rfl;omega)) ⟨K1,?_⟩
         have up:=PySem.IsL.update K1 (·.push uy)
         rw[show its.toArray.push uy=(its++[uy]).toArray by simp]at up
         have upo:∀b o,b≠s2.heap.objs.size->s10.heap.get? b=some o->(s10.heap.update s2.heap.objs.size (Obj.mapSeq (·.push uy))).get? b=some o:=λb o hb e=>(U1 s10.heap (Obj.mapSeq (·.push uy)) (Ne.symm hb)).trans e
         obtain⟨d0,d1,d2,d3,d4,d5⟩:=FpD K2
         refine⟨n,TD n,i+1,σ6,g10,μ10,σ8,H10,acc++[y],accV++[vy],its++[uy],_,J1.turned (t':=s10.toks) upo d0 d1 d3 d4 d5,T.keep _ _ _ J2 λb hb o e=>upo b o (λz=>DnF (z ▸ hb)) e,J3,K2,up,va.append (.cons ry .nil),
          ((e5.trans e7).trans e9).trans e10,R10,((da.mono e7).mono e9).mono e10 |>.append (.cons qy .nil),hl5,by rw[Us,Be];omega,by omega⟩
 exact codeAny_compStart_list (loop _ rfl) (T.self _ 0 _ _ _ st4 (loop _ rfl))
end
section
variable{X:Cx}{ca:Nat->Addr}
theorem Qi9{K:PySem.W.Frag}{Φ:XS}{σ:L2.St}{Q:VK}{H:Hp}{μ:List Addr}{mi:MI}{no:Nat}{cap:List Nat}{f:MG}{tc:MT}{me:ME}{σ3:S3}{g:G}(p:Post K ca Φ σ Q H μ (JC mi no cap f tc me σ3 g)):
  ∃src g1 ds g2,mi σ3 g=.ok src g1/\src.top<=SZ/\JB src f tc me (src.top+1) 0 (capt no cap σ3) g1 []=.ok ds g2/\Post K ca Φ σ Q H μ (.ok (.ref g2.length) (g2++[.lst ds])):=by
 unfold JC at p
 cases hm:mi σ3 g with
 |raise _ _=>rw[hm]at p;exact p.elim
 |stuck=>rw[hm]at p;exact p.elim
 |ok src g1 =>
  rw[hm]at p
  dsimp only at p
  by_cases hz:src.top<=SZ
  ·rw[Ud hz]at p
   cases hL:JB src f tc me (src.top+1) 0 (capt no cap σ3) g1 []with
   |raise _ _=>rw[hL]at p;exact p.elim
   |stuck=>rw[hL]at p;exact p.elim
   |ok ds g2=>rw[hL]at p;exact⟨src,g1,ds,g2,rfl,hz,hL,p⟩
  ·rw[Ue hz]at p;exact p.elim
theorem QbL{tg iter elt:Expr}{ifs:List Expr}{scope:Scope}{pos:Pos}{Nb:List Str}{no:Nat}{cap:List Nat}{mi:MI}{f:MG}{tc:MT}{me:ME}(B:BScope X scope Nb no cap)(hc:X.calm=true)(hi:PI3 ca X tg iter mi)(hb:∀cl C s3 H3 ex,PG3 ca (blk X scope cl C Nb s3 H3 ex) tg f/\PIf ca (blk X scope cl C Nb s3 H3 ex) ifs tc/\PE3 ca (blk X scope cl C Nb s3 H3 ex) elt me)(hs:∀x,foldedSetIterable iter X.env x=pure x:=by intro _;rfl):PE3 ca X (.ListComp elt [⟨tg,iter,ifs,0⟩] scope pos) (JC mi no cap f tc me):=by
 intro pn Φ pins s σ H Q I' ⟨σ3,g,μ,R,p⟩
 obtain⟨src,g1,ds,g2,hm,hz,hL,p⟩:=Qi9 p
 have I:Inv (xat X ca pn F0) pins σ H s:=Inv.wish I' _
 suffices hh:wpAny (model X.prog X.w) X.A (eval (.ListComp elt [⟨tg,iter,ifs,0⟩] scope pos) X.env) (EP (xat X ca pn F0) pins σ Q) (λ_ _=>False) s from
  Tf hh (λu s' ⟨v,H',J,r,q⟩=>⟨v,H',Inv.wish J _,r,q⟩) λ_ _ z=>z.elim
 obtain⟨cl,hcl⟩:=QbJ (cells:=X.env.cells) scope.names [] λy hy hf=>I.ok.has y.1 (B.free y hy hf)
 rw[eval_ListComp]
 refine wpAny_comprehension_free (env:=X.env) (use:=none) rfl hs (Qc4 hcl) B.kind B.loc ?_
 refine thn (noX (hi pn F0 pins s σ H (λJ H'=>∃μ',Ext X.K μ H μ' H'/\GRep X.K ca μ' H' g1/\Sim X.K ca μ' H' src J) I ⟨σ3,g,μ,R,?_⟩)) λv s1 h1=>thn (noX h1) λitv s2 h2=>?_
 ·rw[hm]
  exact λJ H' μ' e r sm=>⟨μ',e,r,sm⟩
 ·obtain⟨it,fp,tn,J,H2,e,I2,T,st2,f2,μ2,e2,r2,sim⟩:=h2
  subst e
  refine Qhw (X:=X) (pn:=pn) (RR:=λacc C=>compPost (model X.prog X.w) X.A (λ_ _=>False) none (EP (xat X ca pn F0) pins σ Q) acc C) B hc hb hcl I2 T st2 f2 (R.go e2 r2) sim hz hL ?_
  intro D C s' H4 μ4 accV its k I4 nsC fC fD dc hD va hl e4 r4 da
  obtain⟨m,nsC⟩:=nsC
  refine⟨m,nsC,λh'' hs''=>?_⟩
  have I5:Inv (xat X ca pn F0) pins σ H4 {s' with heap:=h''}:=I4.turned (t':=s'.toks) (λb o hb e=>hs''.extBut b o hb e) fC.1 fC.2.1 fC.2.2.2.1 fC.2.2.2.2.1 fC.2.2.2.2.2
  have hD':=hs''.extBut _ _ dc hD
  have I6:=Inv.track (o:=.lst accV) I5 fD ⟨hl,its,k,va,hD'⟩
  refine⟨.ref D,_,I6,rfl,p _ _ (μ4++[D]) ((e2.trans e4).trans (Qt fD.1)) (r4.push fD.1 ⟨accV,Qp,da.mono (Qt fD.1)⟩) (.ref ?_)⟩
  rw[<-r4.len];simp
end
section
variable{X:Cx}{ca:Nat->Addr}{a b:Expr}{ma mb:ME}{pos:Pos}
theorem Qja:OpR X (binaryOp .Add) (λx y H Q=>∃a b ys,x=.ref a/\y=.ref b/\SqT X.K H a []/\SqT X.K H b ys/\Q (.ref b) H):=by
 intro pins s σ H x y v u Q I rx ry h
 obtain⟨a,b,ys,rfl,rfl,ha,hb,q⟩:=h
 cases rx
 cases ry
 obtain⟨us,r1,p1,_⟩:=I.tuple ha
 obtain⟨ts,r2,p2,_⟩:=I.tuple hb
 cases r1
 obtain⟨⟨cls,dd,data,sl⟩,ho,hc,n,hd⟩:=id p1
 obtain⟨⟨cls2,dd2,data2,sl2⟩,ho2,hc2,n2,hd2⟩:=id p2
 simp only at hc hd hc2 hd2
 subst hc hd hc2 hd2
 exact concat_meets ⟨_,ho,rfl⟩ ⟨_,ho2,rfl⟩ WX seq_tuple_add RH RC (Rx _ _)
   (tuple_addW0 a b _ _ n n2 dd dd2 sl sl2 (by simp)) ⟨ho,ho2,⟨.ref b,H,I,rfl,q⟩⟩
theorem Qjb{K:PySem.W.Frag}:Jo K ca (λx y H Q=>(((∃i j,x=.int i/\y=.int j/\Q (.int (i+j)) H)\/Qmx K x y H Q)\/rCat x y H Q)\/(∃a b ys,x=.ref a/\y=.ref b/\SqT K H a []/\SqT K H b ys/\Q (.ref b) H)) pAdd:=by
 intro Φ σ H μ g x y dx dy Q r qx qy p
 unfold pAdd at p
 cases qx with
 |int i =>
  cases qy with
  |int j=>exact .inl (.inl (.inl ⟨i,j,rfl,rfl,p _ H μ .refl r (.int _)⟩))
  |_=>exact p.elim
 |@tup ax xs dsx hx hsx =>
  cases qy with
  |@tup ay ys dsy hy hsy =>
   dsimp only at p
   by_cases z:dsx.length+dsy.length<=SZ
   ·rw[Ud z]at p
    by_cases hx0:dsx=[]
    ·subst hx0
     cases hsx
     exact .inr ⟨ax,ay,ys,rfl,rfl,hx,hy,p _ H μ .refl r (.tup hy hsy)⟩
    ·refine .inl (.inl (.inr ⟨ax,ay,xs,ys,rfl,rfl,hx,hy,?_,by rw[hsx.length,hsy.length];exact Ut z Y4,λe=>?_,λ_ t ht=>p _ _ μ (QZ ht) (r.new ht) (.tup (.of Qp) ((hsx.append hsy).mono (QZ ht)))⟩))
     ·rintro rfl
      cases hsx
      exact hx0 rfl
     ·subst e
      cases hsy
      rw[UJ]at p
      exact p _ H μ .refl r (.tup hx hsx)
   ·rw[Ue z]at p;exact p.elim
  |_=>exact p.elim
 |@ref n an hn =>
  cases qy with
  |@ref m am hm =>
   dsimp only at p
   cases hg:g[n]? with
   |none=>rw[hg]at p;exact p.elim
   |some o =>
    cases hg2:g[m]? with
    |none=>rw[hg,hg2]at p;cases o <;> exact p.elim
    |some o2 =>
     rw[hg,hg2]at p
     obtain⟨a1,ha1,or1⟩:=r.addr hg
     obtain⟨a2,ha2,or2⟩:=r.addr hg2
     rw[hn]at ha1;cases ha1
     rw[hm]at ha2;cases ha2
     cases o with
     |lst xs =>
      cases o2 with
      |lst ys =>
       dsimp only at p
       obtain⟨vs,hH,q⟩:=or1
       obtain⟨ws,hH2,q2⟩:=or2
       by_cases z:xs.length+ys.length<=SZ
       ·rw[Ud z]at p
        refine .inl (.inr ⟨an,am,vs,ws,rfl,rfl,hH,hH2,by rw[q.length,q2.length];exact Ut z Y4,λt ht=>p _ _ (μ++[t]) (Qt ht) (r.push ht ⟨_,Qp,(q.append q2).mono (Qt ht)⟩) (.ref ?_)⟩)
        rw[<-r.len];simp
       ·rw[Ue z]at p;exact p.elim
      |_=>exact p.elim
     |_=>cases o2 <;> exact p.elim
  |_=>exact p.elim
 |_=>cases qy <;> exact p.elim
theorem JK(ha:PE3 ca X a ma)(hb:PE3 ca X b mb):PE3 ca X (.BinOp a .Add b pos) (mOp2 pAdd ma mb) :=
 Qgp (λ_ _=>((op_add.or QkW).or QmD).or Qja) Qjb ha hb
theorem QeO{K:PySem.W.Frag}{C:Int->Int->Prop}{h:Int->Int->V}{f:D->D->G->Res D}(hf:∀Φ σ i j g Q H μ,GRep K ca μ H g->Post K ca Φ σ Q H μ (f (.int i) (.int j) g)->C i j/\Q (h i j) H)(hn:∀Φ σ x y g Q H μ,Post K ca Φ σ Q H μ (f x y g)->∃i j,x=.int i/\y=.int j):Jo K ca (rI C h) f:=by
 intro Φ σ H μ g x y dx dy Q r qx qy p
 obtain⟨i,j,rfl,rfl⟩:=hn Φ σ dx dy g Q H μ p
 cases qx
 cases qy
 obtain⟨c,q⟩:=hf Φ σ i j g Q H μ r p
 exact⟨i,j,rfl,rfl,c,q⟩
theorem QfC{K:PySem.W.Frag}{h:Int->Int->V}{f:D->D->G->Res D}(hf:∀Φ σ i j g Q H μ,GRep K ca μ H g->Post K ca Φ σ Q H μ (f (.int i) (.int j) g)->Q (h i j) H)(hn:∀Φ σ x y g Q H μ,Post K ca Φ σ Q H μ (f x y g)->∃i j,x=.int i/\y=.int j):Jo K ca (rI0 h) f:=by
 intro Φ σ H μ g x y dx dy Q r qx qy p
 obtain⟨i,j,rfl,rfl⟩:=hn Φ σ dx dy g Q H μ p
 cases qx
 cases qy
 exact⟨i,j,rfl,rfl,hf Φ σ i j g Q H μ r p⟩
theorem Qat{K:PySem.W.Frag}{f:D->D->G->Res D}(h:∀x y g,(∃i j,x=D.int i/\y=D.int j)\/f x y g=.stuck)(Φ:XS)(σ:L2.St)(x y:D)(g:G)(Q:VK)(H:Hp)(μ:List Addr)(p:Post K ca Φ σ Q H μ (f x y g)):∃i j,x=.int i/\y=.int j:=by
 rcases h x y g with z|z
 ·exact z
 ·rw[z]at p;exact p.elim
theorem Qau(ha:PE3 ca X a ma)(hb:PE3 ca X b mb):PE3 ca X (.BinOp a .Sub b pos) (mOp2 pSub ma mb) :=
 Qgp (λ_ _=>Qmk) (QfC (λΦ σ i j g Q H μ r p=>p _ H μ .refl r (.int _)) (Qat λx y g=>by cases x <;> cases y <;> first|exact .inl ⟨_,_,rfl,rfl⟩|exact .inr rfl)) ha hb
theorem Qad(ha:PE3 ca X a ma)(hb:PE3 ca X b mb):PE3 ca X (.BinOp a .FloorDiv b pos) (mOp2 Z6 ma mb) :=
 Qgp (λ_ _=>QkL) (QeO (λΦ σ i j g Q H μ r p=>by
  unfold Z6 at p
  by_cases z:0<j/\j<1073741824
  ·dsimp only at p;rw[Ud z]at p;exact⟨z,p _ H μ .refl r (.int _)⟩
  ·dsimp only at p;rw[Ue z]at p;exact p.elim) (Qat λx y g=>by cases x <;> cases y <;> first|exact .inl ⟨_,_,rfl,rfl⟩|exact .inr rfl)) ha hb
theorem Yf(ha:PE3 ca X a ma)(hb:PE3 ca X b mb):PE3 ca X (.BinOp a .Mod b pos) (mOp2 pMod ma mb) :=
 Qgp (λ_ _=>Qml) (QeO (λΦ σ i j g Q H μ r p=>by
  unfold pMod at p
  by_cases z:0<j
  ·dsimp only at p;rw[Ud z]at p;exact⟨z,p _ H μ .refl r (.int _)⟩
  ·dsimp only at p;rw[Ue z]at p;exact p.elim) (Qat λx y g=>by cases x <;> cases y <;> first|exact .inl ⟨_,_,rfl,rfl⟩|exact .inr rfl)) ha hb
theorem Dens.rep{K:PySem.W.Frag}{μ:List Addr}{H:Hp}{vs:List V}{ds:List D}(h:Dens K μ H vs ds):∀k:Nat,Dens K μ H (List.replicate k vs).flatten (List.replicate k ds).flatten
 |0=>.nil
 |k+1=>by rw[UX,UX,Ra,Ra];exact h.append (Dens.rep h k)
theorem Qjc{K:PySem.W.Frag}:Jo K ca (λx y H Q=>(∃i j,x=.int i/\y=.int j/\(cM i\/cM j)/\Q (.int (i*j)) H)\/rRep x y H Q) pMul:=by
 intro Φ σ H μ g x y dx dy Q r qx qy p
 unfold pMul at p
 cases qx with
 |int i =>
  cases qy with
  |int j =>
   dsimp only at p
   by_cases z:cM i\/cM j
   ·rw[Ud z]at p;exact .inl ⟨i,j,rfl,rfl,z,p _ H μ .refl r (.int _)⟩
   ·rw[Ue z]at p;exact p.elim
  |_=>exact p.elim
 |@ref n an hn =>
  cases qy with
  |int k =>
   dsimp only at p
   cases hg:g[n]? with
   |none=>rw[hg]at p;exact p.elim
   |some o =>
    rw[hg]at p
    obtain⟨a1,ha1,or1⟩:=r.addr hg
    rw[hn]at ha1;cases ha1
    cases o with
    |lst xs =>
     obtain⟨vs,hH,q⟩:=or1
     dsimp only at p
     by_cases z:(0<=k/\k<1073741824)/\xs.length*k.toNat<=SZ
     ·rw[Ud z]at p
      refine .inr ⟨an,k,vs,rfl,rfl,hH,by omega,by omega,by rw[q.length];exact Ut z.2 Y4,λt ht=>p _ _ (μ++[t]) (Qt ht) (r.push ht ⟨_,Qp,(q.rep k.toNat).mono (Qt ht)⟩) (.ref ?_)⟩
      rw[<-r.len];simp
     ·rw[Ue z]at p;exact p.elim
    |_=>exact p.elim
  |_=>exact p.elim
 |_=>cases qy <;> exact p.elim
theorem Qd1(ha:PE3 ca X a ma)(hb:PE3 ca X b mb):PE3 ca X (.BinOp a .Mult b pos) (mOp2 pMul ma mb) :=
 Qgp (λ_ _=>op_mul.or QmE) Qjc ha hb
theorem Qd2(ha:PE3 ca X a ma):PE3 ca X (.UnaryOp .USub a pos) (mOp1 pNeg ma) :=
 r_un (λ_ _=>Qmn) (λΦ σ H μ g x dx Q r qx p=>by
  cases qx with
  |int i=>exact⟨i,rfl,p _ H μ .refl r (.int _)⟩
  |_=>exact p.elim) ha
theorem YU{K:PySem.W.Frag}(r:Int->Int->Bool):Jo K ca (rI0 λi j=>.bl (r i j)) (pCmp r) :=
 QfC (λΦ σ i j g Q H μ r p=>p _ H μ .refl r (.bl _)) (Qat λx y g=>by cases x <;> cases y <;> first|exact .inl ⟨_,_,rfl,rfl⟩|exact .inr rfl)
theorem r_gt(ha:PE3 ca X a ma)(hb:PE3 ca X b mb):PE3 ca X (.Compare a [.Gt] [b] pos) (mOp2 pGt ma mb):=Qhp (λ_ _=>Qmq) (YU _) ha hb (Jy b)
theorem r_ge(ha:PE3 ca X a ma)(hb:PE3 ca X b mb):PE3 ca X (.Compare a [.GtE] [b] pos) (mOp2 pGe ma mb):=Qhp (λ_ _=>Qmr) (YU _) ha hb (Jy b)
theorem QmR(ha:PE3 ca X a ma)(hb:PE3 ca X b mb):PT3 ca X (.Compare a [.Lt] [b] pos) (Qk (mOp2 pLt ma mb)):=JF (λ_ _=>Qmo) (YU _) ha hb (Jy b)
theorem Qom(ha:PE3 ca X a ma)(hb:PE3 ca X b mb):PT3 ca X (.Compare a [.LtE] [b] pos) (Qk (mOp2 pLe ma mb)):=JF (λ_ _=>Qmp) (YU _) ha hb (Jy b)
theorem Qcr(ha:PE3 ca X a ma)(hb:PE3 ca X b mb):PT3 ca X (.Compare a [.Gt] [b] pos) (Qk (mOp2 pGt ma mb)):=JF (λ_ _=>Qmq) (YU _) ha hb (Jy b)
theorem QmS(ha:PE3 ca X a ma)(hb:PE3 ca X b mb):PT3 ca X (.Compare a [.GtE] [b] pos) (Qk (mOp2 pGe ma mb)):=JF (λ_ _=>Qmr) (YU _) ha hb (Jy b)
end
section
variable{X:Cx}{ca:Nat->Addr}{pins:List (Addr×Obj)}{σ:L2.St}{H:Hp}{s:Shared}{μ:List Addr}{g:G}
theorem Qav{eq:D->D->Option Bool}:∀(xs ys:List D)(b:Bool),eqGs eq xs ys=some b->∃e:Nat->Bool,(∀(j:Nat)(x y:D),xs[j]?=some x->ys[j]?=some y->eq x y=some (e j)) /\
  b=((List.range (min xs.length ys.length)).all e && (xs.length == ys.length))
 |[],[],b,h=>by cases h;exact⟨λ_=>true,λj x y h=>by simp at h,by simp⟩
 |[],_::ys,b,h=>by cases h;exact⟨λ_=>true,λj x y h=>by simp at h,by simp⟩
 |_::xs,[],b,h=>by cases h;exact⟨λ_=>true,λj x y _ h=>by simp at h,by simp⟩
 |x::xs,y::ys,b,h=>by
  unfold eqGs at h
  cases h1:eq x y with
  |none=>rw[h1]at h;cases h
  |some c =>
   cases h2:eqGs eq xs ys with
   |none=>rw[h1,h2]at h;cases h
   |some d =>
    rw[h1,h2]at h
    cases h
    obtain⟨e,e1,e2⟩:=Qav xs ys d h2
    refine⟨λj=>match j with|0=>c|j+1=>e j,λj x' y' hx hy=>?_,?_⟩
    ·cases j with
     |zero =>
      simp at hx hy
      subst hx hy
      exact h1
     |succ j =>
      simp at hx hy
      exact e1 j x' y' hx hy
    ·rw[UQ,UQ,Nat.add_min_add_right,List.range_succ_eq_map,RX,List.all_map,e2]
     simp[Function.comp_def,Bool.and_assoc]
theorem Qbk{A:Around}{eq:D->D->Option Bool}{vs ws:List V}{ds es:List D}{us ts:List Value}{e:Nat->Bool}(qv:Dens X.K μ H vs ds)(qw:Dens X.K μ H ws es)(rv:Vals vs us)(rw':Vals ws ts)(he:∀(j:Nat) (x y:D),ds[j]?=some x->es[j]?=some y->eq x y=some (e j))(ih:∀{v w:V} {d d':D} {u t:Value} {b:Bool},Den X.K μ H v d->Den X.K μ H w d'->RelV v u->RelV w t->eq d d'=some b->SeqAt.EqAt A s u t b):
  ∀(j:Nat)(h1:j<us.toArray.size)(h2:j<ts.toArray.size),SeqAt.EqAt A s us.toArray[j] ts.toArray[j] (e j):=by
 intro j h1 h2
 have l1:j<us.length:=by simpa using h1
 have l2:j<ts.length:=by simpa using h2
 have l3:j<vs.length:=by rw[rv.length];exact l1
 have l4:j<ws.length:=by rw[rw'.length];exact l2
 obtain⟨x,hx,qx⟩:=qv.getV (i:=j) (v:=vs[j]) (by simp[l3])
 obtain⟨y,hy,qy⟩:=qw.getV (i:=j) (v:=ws[j]) (by simp[l4])
 obtain⟨u,hu,ru⟩:=rv.get (i:=j) (x:=vs[j]) (by simp[l3])
 obtain⟨t,ht,rt⟩:=rw'.get (i:=j) (x:=ws[j]) (by simp[l4])
 have eu:us.toArray[j]=u:=by
  have:us[j]?=some us[j]:=by simp[l1]
  rw[this]at hu;simpa using hu
 have et:ts.toArray[j]=t:=by
  have:ts[j]?=some ts[j]:=by simp[l2]
  rw[this]at ht;simpa using ht
 rw[eu,et]
 exact ih qx qy ru rt (he j x y hx hy)
theorem Qhx{A:Around}{eq:D->D->Option Bool}{a c:Addr}{vs ws:List V}{ds es:List D}{b:Bool}(hu:A.units<cLine)(I:Inv X pins σ H s)(h1:SqT X.K H a vs)(q1:Dens X.K μ H vs ds)(h2:SqT X.K H c ws)(q2:Dens X.K μ H ws es)(ih:∀{v w:V} {d d':D} {u t:Value} {b:Bool},Den X.K μ H v d->Den X.K μ H w d'->RelV v u->RelV w t->eq d d'=some b->SeqAt.EqAt A.in1 s u t b)(h:eqGs eq ds es=some b):SeqAt.RcAt A s (.ref a) (.ref c) b:=by
 obtain⟨us,r1,p1,_⟩:=I.tuple h1
 obtain⟨ts,r2,p2,_⟩:=I.tuple h2
 obtain⟨e,e1,e2⟩:=Qav ds es b h
 have q:=SeqAt.RcAt.tuples (A:=A) p1 p2 hu (e:=e) (Qbk q1 q2 r1 r2 e1 ih)
 have l1:us.toArray.size=ds.length:=by rw[Uf,<-r1.length,q1.length]
 have l2:ts.toArray.size=es.length:=by rw[Uf,<-r2.length,q2.length]
 rw[l1,l2]at q
 rw[e2]
 exact q
theorem Qk5{A:Around}{eq:D->D->Option Bool}{a c:Addr}{vs ws:List V}{ds es:List D}{b:Bool}(hu:A.units<cLine)(I:Inv X pins σ H s)(h1:SqL X.K H a vs)(q1:Dens X.K μ H vs ds)(h2:SqL X.K H c ws)(q2:Dens X.K μ H ws es)(ih:∀{v w:V} {d d':D} {u t:Value} {b:Bool},Den X.K μ H v d->Den X.K μ H w d'->RelV v u->RelV w t->eq d d'=some b->SeqAt.EqAt A.in1 s u t b)(h:(if ds.length=es.length then eqGs eq ds es else some false)=some b):SeqAt.RcAt A s (.ref a) (.ref c) b:=by
 obtain⟨us,r1,p1,_⟩:=I.list h1
 obtain⟨ts,r2,p2,_⟩:=I.list h2
 have l1:us.toArray.size=ds.length:=by rw[Uf,<-r1.length,q1.length]
 have l2:ts.toArray.size=es.length:=by rw[Uf,<-r2.length,q2.length]
 by_cases hl:ds.length=es.length
 ·rw[Ud hl]at h
  obtain⟨e,e1,e2⟩:=Qav ds es b h
  have q:=SeqAt.RcAt.lists (A:=A) p1.isList p2.isList (by rw[l1,l2,hl]) hu (e:=e) (Qbk q1 q2 r1 r2 e1 ih)
  rw[l1]at q
  rw[e2,<-hl,Nat.min_self]
  simpa using q
 ·rw[Ue hl]at h
  cases h
  exact SeqAt.RcAt.lists_lengths p1.isList p2.isList (by rw[l1,l2];simpa using hl) hu
theorem Qd3{K:PySem.W.Frag}{μ:List Addr}{H:Hp}:∀{vs:List V}{ds:List D}{ns:List Int},Dens K μ H vs ds->QdT ds=some ns->vs=ns.map V.int
 |_,_,ns,.nil,h=>by cases h;rfl
 |_,_,ns,.cons (ds:=ds) h1 h2,h=>by
  cases h1 with
  |int i =>
   unfold QdT at h
   cases hr:QdT ds with
   |none=>rw[hr]at h;cases h
   |some ms=>rw[hr]at h;cases h;rw[UH,Qd3 h2 hr]
  |_=>cases h
theorem QfD(I:Inv X pins σ H s):∀(f:Nat){v:V}{d e:D}{b:Bool},Den X.K μ H v d->Den X.K μ H v e->eqI f d e=some b->b=true
 |0,v,d,e,b,h1,h2,h=>by
  cases h1 with
  |int i=>cases h2;cases h;simp
  |_=>cases h
 |f+1,v,d,e,b,h1,h2,h=>by
  cases h1 with
  |int i=>cases h2;cases h;simp
  |tup t1 q1 =>
   cases h2 with
   |tup t2 q2 =>
    have ev:=I.tuple_inj t1 t2
    subst ev
    have h:eqGs (eqI f) _ _=some b:=h
    have key:∀{vs:List V}{ds es:List D}{b:Bool},Dens X.K μ H vs ds->Dens X.K μ H vs es->eqGs (eqI f) ds es=some b->b=true:=by
     intro vs
     induction vs with
     |nil=>intro ds es b a1 a2 a3;cases a1;cases a2;cases a3;rfl
     |cons w ws ih =>
      intro ds es b a1 a2 a3
      cases a1 with
      |cons c1 c2=>cases a2 with
       |cons c3 c4 =>
        rename_i x xs y ys
        unfold eqGs at a3
        cases h1:eqI f x y with
        |none=>rw[h1]at a3;cases a3
        |some b1 =>
         cases h2:eqGs (eqI f) xs ys with
         |none=>rw[h1,h2]at a3;cases a3
         |some b2 =>
          rw[h1,h2]at a3
          cases a3
          rw[QfD I f c1 c3 h1,ih c2 c4 h2];rfl
    exact key q1 q2 h
   |_=>cases h
  |_=>cases h2 <;> cases h
theorem QfE(I:Inv X pins σ H s):∀(f:Nat){A:Around}{v w:V}{d e:D}{u t:Value}{b:Bool},A.units+f<cLine->Den X.K μ H v d->Den X.K μ H w e->RelV v u->RelV w t->eqI f d e=some b->SeqAt.EqAt A s u t b
 |0,A,v,w,d,e,u,t,b,hu,qv,qw,rv,rw',h=>by
  cases qv with
  |int i =>
   cases qw with
   |int j=>obtain⟨y,rfl⟩:=rv;obtain⟨z,rfl⟩:=rw';cases h;exact Ww _ _ _ _
   |_=>cases h
  |_=>cases h
 |f+1,A,v,w,d,e,u,t,b,hu,qv,qw,rv,rw',h=>by
  cases qv with
  |int i =>
   cases qw with
   |int j=>obtain⟨y,rfl⟩:=rv;obtain⟨z,rfl⟩:=rw';cases h;exact Ww _ _ _ _
   |_=>cases h
  |tup h1 q1 =>
   cases qw with
   |tup h2 q2 =>
    cases rv;cases rw'
    rename_i a1 vs ds a2 ws es
    by_cases ea:a1=a2
    ·subst ea
     rw[QfD I (f+1) (.tup h1 q1) (.tup h2 q2) h]
     exact SeqAt.EqAt.same _
    ·exact SeqAt.EqAt.of_refs ea (Qhx (by omega) I h1 q1 h2 q2 (λa1 a2 a3 a4 a5=>QfE I f (by show A.units+1+f<cLine;omega) a1 a2 a3 a4 a5) h)
   |_=>cases h
  |_=>cases qw <;> cases h
noncomputable def rEqI(K:PySem.W.Frag):R2:=λx y H Q=>∃(μ:List Addr)(a c:Addr)(vs ws:List V)(ds es:List D)(b:Bool),x=.ref a/\y=.ref c/\Dens K μ H vs ds/\Dens K μ H ws es/\((SqT K H a vs/\SqT K H c ws/\eqGs (eqI 2) ds es=some b)\/(SqL K H a vs/\SqL K H c ws/\(if ds.length=es.length then eqGs (eqI 2) ds es else some false)=some b))/\Q (.bl b) H
theorem Qkb(hu:X.A.units+16<cLine):OpR X (compareOp .Eq) (rEqI X.K):=by
 intro pins s σ H x y v u Q I rx ry h
 obtain⟨μ,a,c,vs,ws,ds,es,b,rfl,rfl,q1,q2,h,q⟩:=h
 cases rx;cases ry
 have ih:∀{v w:V}{d d':D}{u t:Value}{b:Bool},Den X.K μ H v d->Den X.K μ H w d'->RelV v u->RelV w t->eqI 2 d d'=some b->SeqAt.EqAt X.A.in1 s u t b:=λa1 a2 a3 a4 a5=>QfE I 2 (by show X.A.units+1+2<cLine;omega) a1 a2 a3 a4 a5
 rcases h with⟨h1,h2,h3⟩|⟨h1,h2,h3⟩
 ·exact(Qhx (A:=X.A) (by omega) I h1 q1 h2 q2 ih h3) _ _ _ _ ⟨.bl b,H,I,rfl,q⟩
 ·exact(Qk5 (A:=X.A) (by omega) I h1 q1 h2 q2 ih h3) _ _ _ _ ⟨.bl b,H,I,rfl,q⟩
noncomputable def QmT(K:PySem.W.Frag):R2:=λx y H Q=>∃(a:Addr)(vs:List V)(t:Str),x=.ref a/\y=.str t/\SqT K H a vs/\Q (.bl false) H
theorem Qhy(hu:X.A.units+16<cLine):OpR X (compareOp .Eq) (QmT X.K):=by
 intro pins s σ H x y v u Q I rx ry h
 obtain⟨a,vs,t,rfl,rfl,hq,q⟩:=h
 cases rx
 obtain⟨z,rfl⟩:=ry
 obtain⟨its,_,p1,_⟩:=I.tuple hq
 exact(SeqAt.RcAt.tuple_str (A:=X.A) t z p1 (by omega)) _ _ _ _ ⟨.bl false,H,I,rfl,q⟩
theorem Qhz{K:PySem.W.Frag}:Jo K ca (λx y H Q=>(rEq x y H Q\/rEqI K x y H Q)\/QmT K x y H Q) pEq:=by
 intro Φ σ H μ g x y dx dy Q r qx qy p
 unfold pEq eqT at p
 cases qx with
 |non =>
  cases qy with
  |int j=>exact .inl (.inl ⟨rfl,by rw[show decide (V.non=V.int j)=false by simp];exact p _ H μ .refl r (.bl _)⟩)
  |_=>exact p.elim
 |int i =>
  cases qy with
  |int j=>exact .inl (.inl ⟨rfl,by rw[QcW];exact p _ H μ .refl r (.bl _)⟩)
  |_=>exact p.elim
 |str i =>
  cases qy with
  |str j=>exact .inl (.inl ⟨rfl,by rw[QcX];exact p _ H μ .refl r (.bl _)⟩)
  |_=>exact p.elim
 |bl i =>
  cases qy with
  |bl j=>exact .inl (.inl ⟨rfl,by rw[Qfo];exact p _ H μ .refl r (.bl _)⟩)
  |_=>exact p.elim
 |tup h1 q1 =>
  cases qy with
  |tup h2 q2 =>
   rename_i a vs ds c ws es
   dsimp only at p
   cases e:eqGs (eqI 2) ds es with
   |none=>rw[e]at p;exact p.elim
   |some b=>rw[e]at p;exact .inl (.inr ⟨μ,a,c,vs,ws,ds,es,b,rfl,rfl,q1,q2,.inl ⟨h1,h2,e⟩,p _ H μ .refl r (.bl _)⟩)
  |str t=>rename_i a vs ds;exact .inr ⟨a,vs,t,rfl,rfl,h1,p _ H μ .refl r (.bl _)⟩
  |_=>exact p.elim
 |@ref n a hn =>
  cases qy with
  |@ref m c hm =>
   dsimp only at p
   cases hg:g[n]? with
   |none=>rw[hg]at p;exact p.elim
   |some o1 =>
    cases hg2:g[m]? with
    |none=>rw[hg,hg2]at p;cases o1 <;> exact p.elim
    |some o2 =>
     rw[hg,hg2]at p
     obtain⟨b1,hb1,ob1⟩:=r.addr hg
     obtain⟨b2,hb2,ob2⟩:=r.addr hg2
     rw[hn]at hb1;cases hb1
     rw[hm]at hb2;cases hb2
     cases o1 with
     |lst xs =>
      cases o2 with
      |lst ys =>
       obtain⟨vs,hH1,q1⟩:=ob1
       obtain⟨ws,hH2,q2⟩:=ob2
       dsimp only at p
       cases e:(if xs.length=ys.length then eqGs (eqI 2) xs ys else some false) with
       |none=>rw[e]at p;exact p.elim
       |some b=>rw[e]at p;exact .inl (.inr ⟨μ,a,c,vs,ws,xs,ys,b,rfl,rfl,q1,q2,.inr ⟨.of hH1,.of hH2,e⟩,p _ H μ .refl r (.bl _)⟩)
      |_=>exact p.elim
     |_=>cases o2 <;> exact p.elim
  |_=>exact p.elim
 |_=>cases qy <;> exact p.elim
theorem QhA{A:Around}{eq:D->D->Option Bool}{a c:Addr}{vs ws:List V}{ds es:List D}{b:Bool}(hu:A.units<cLine)(I:Inv X pins σ H s)(h1:SqL X.K H a vs)(q1:Dens X.K μ H vs ds)(h2:SqL X.K H c ws)(q2:Dens X.K μ H ws es)(ih:∀{v w:V} {d d':D} {u t:Value} {b:Bool},Den X.K μ H v d->Den X.K μ H w d'->RelV v u->RelV w t->eq d d'=some b->SeqAt.EqAt A.in1 s u t b)(h:(if ds.length=es.length then eqGs eq ds es else some false)=some b):SeqAt.RcNeAt A s (.ref a) (.ref c) (!b):=by
 obtain⟨us,r1,p1,_⟩:=I.list h1
 obtain⟨ts,r2,p2,_⟩:=I.list h2
 have l1:us.toArray.size=ds.length:=by rw[Uf,<-r1.length,q1.length]
 have l2:ts.toArray.size=es.length:=by rw[Uf,<-r2.length,q2.length]
 by_cases hl:ds.length=es.length
 ·rw[Ud hl]at h
  obtain⟨e,e1,e2⟩:=Qav ds es b h
  have q:=SeqAt.RcNeAt.lists (A:=A) p1.isList p2.isList (by rw[l1,l2,hl]) hu (e:=e) (Qbk q1 q2 r1 r2 e1 ih)
  rw[l1]at q
  rw[e2,<-hl,Nat.min_self]
  simpa using q
 ·rw[Ue hl]at h
  cases h
  exact SeqAt.RcNeAt.lists_lengths p1.isList p2.isList (by rw[l1,l2];simpa using hl) hu
noncomputable def rNeI(K:PySem.W.Frag):R2:=λx y H Q=>∃(μ:List Addr)(a c:Addr)(vs ws:List V)(ds es:List D)(b:Bool),x=.ref a/\y=.ref c/\Dens K μ H vs ds/\Dens K μ H ws es/\SqL K H a vs/\SqL K H c ws/\(if ds.length=es.length then eqGs (eqI 2) ds es else some false)=some b/\Q (.bl (!b)) H
theorem QmU(hu:X.A.units+16<cLine):OpR X (compareOp .NotEq) (rNeI X.K):=by
 intro pins s σ H x y v u Q I rx ry h
 obtain⟨μ,a,c,vs,ws,ds,es,b,rfl,rfl,q1,q2,h1,h2,h3,q⟩:=h
 cases rx;cases ry
 have ih:∀{v w:V}{d d':D}{u t:Value}{b:Bool},Den X.K μ H v d->Den X.K μ H w d'->RelV v u->RelV w t->eqI 2 d d'=some b->SeqAt.EqAt X.A.in1 s u t b:=λa1 a2 a3 a4 a5=>QfE I 2 (by show X.A.units+1+2<cLine;omega) a1 a2 a3 a4 a5
 exact(QhA (A:=X.A) (by omega) I h1 q1 h2 q2 ih h3) _ _ _ _ ⟨.bl (!b),H,I,rfl,q⟩
theorem QhB{A:Around}{eq:D->D->Option Bool}{a c:Addr}{vs ws:List V}{ds es:List D}{b:Bool}(hu:A.units<cLine)(I:Inv X pins σ H s)(h1:SqT X.K H a vs)(q1:Dens X.K μ H vs ds)(h2:SqT X.K H c ws)(q2:Dens X.K μ H ws es)(ih:∀{v w:V} {d d':D} {u t:Value} {b:Bool},Den X.K μ H v d->Den X.K μ H w d'->RelV v u->RelV w t->eq d d'=some b->SeqAt.EqAt A.in1 s u t b)(h:eqGs eq ds es=some b):SeqAt.RcNeAt A s (.ref a) (.ref c) (!b):=by
 obtain⟨us,r1,p1,_⟩:=I.tuple h1
 obtain⟨ts,r2,p2,_⟩:=I.tuple h2
 obtain⟨e,e1,e2⟩:=Qav ds es b h
 have q:=SeqAt.RcNeAt.tuples (A:=A) p1 p2 hu (e:=e) (Qbk q1 q2 r1 r2 e1 ih)
 have l1:us.toArray.size=ds.length:=by rw[Uf,<-r1.length,q1.length]
 have l2:ts.toArray.size=es.length:=by rw[Uf,<-r2.length,q2.length]
 rw[l1,l2]at q
 rw[e2]
 exact q
noncomputable def rNeT(K:PySem.W.Frag):R2:=λx y H Q=>∃(μ:List Addr)(a c:Addr)(vs ws:List V)(ds es:List D)(b:Bool),x=.ref a/\y=.ref c/\Dens K μ H vs ds/\Dens K μ H ws es/\SqT K H a vs/\SqT K H c ws/\eqGs (eqI 2) ds es=some b/\Q (.bl (!b)) H
theorem QmV(hu:X.A.units+16<cLine):OpR X (compareOp .NotEq) (rNeT X.K):=by
 intro pins s σ H x y v u Q I rx ry h
 obtain⟨μ,a,c,vs,ws,ds,es,b,rfl,rfl,q1,q2,h1,h2,h3,q⟩:=h
 cases rx;cases ry
 have ih:∀{v w:V}{d d':D}{u t:Value}{b:Bool},Den X.K μ H v d->Den X.K μ H w d'->RelV v u->RelV w t->eqI 2 d d'=some b->SeqAt.EqAt X.A.in1 s u t b:=λa1 a2 a3 a4 a5=>QfE I 2 (by show X.A.units+1+2<cLine;omega) a1 a2 a3 a4 a5
 exact(QhB (A:=X.A) (by omega) I h1 q1 h2 q2 ih h3) _ _ _ _ ⟨.bl (!b),H,I,rfl,q⟩
theorem Qk6{K:PySem.W.Frag}:Jo K ca (λx y H Q=>(rNe x y H Q\/rNeI K x y H Q)\/rNeT K x y H Q) pNe:=by
 intro Φ σ H μ g x y dx dy Q r qx qy p
 unfold pNe neT at p
 cases qx with
 |int i =>
  cases qy with
  |non=>exact .inl (.inl ⟨rfl,by rw[show decide (V.int i=V.non)=false by simp];exact p _ H μ .refl r (.bl _)⟩)
  |int j=>exact .inl (.inl ⟨rfl,by rw[QcW];exact p _ H μ .refl r (.bl _)⟩)
  |_=>exact p.elim
 |str i =>
  cases qy with
  |str j=>exact .inl (.inl ⟨rfl,by rw[QcX];exact p _ H μ .refl r (.bl _)⟩)
  |_=>exact p.elim
 |tup h1 q1 =>
  cases qy with
  |tup h2 q2 =>
   rename_i a vs ds c ws es
   dsimp only at p
   cases e:eqGs (eqI 2) ds es with
   |none=>rw[e]at p;exact p.elim
   |some b=>rw[e]at p;exact .inr ⟨μ,a,c,vs,ws,ds,es,b,rfl,rfl,q1,q2,h1,h2,e,p _ H μ .refl r (.bl _)⟩
  |_=>exact p.elim
 |bl i =>
  cases qy with
  |bl j=>exact .inl (.inl ⟨rfl,by rw[Qfo];exact p _ H μ .refl r (.bl _)⟩)
  |_=>exact p.elim
 |@ref n a hn =>
  cases qy with
  |@ref m c hm =>
   dsimp only at p
   cases hg:g[n]? with
   |none=>rw[hg]at p;exact p.elim
   |some o1 =>
    cases hg2:g[m]? with
    |none=>rw[hg,hg2]at p;cases o1 <;> exact p.elim
    |some o2 =>
     rw[hg,hg2]at p
     obtain⟨b1,hb1,ob1⟩:=r.addr hg
     obtain⟨b2,hb2,ob2⟩:=r.addr hg2
     rw[hn]at hb1;cases hb1
     rw[hm]at hb2;cases hb2
     cases o1 with
     |lst xs =>
      cases o2 with
      |lst ys =>
       obtain⟨vs,hH1,q1⟩:=ob1
       obtain⟨ws,hH2,q2⟩:=ob2
       dsimp only at p
       cases e:(if xs.length=ys.length then eqGs (eqI 2) xs ys else some false) with
       |none=>rw[e]at p;exact p.elim
       |some b=>rw[e]at p;exact .inl (.inr ⟨μ,a,c,vs,ws,xs,ys,b,rfl,rfl,q1,q2,.of hH1,.of hH2,e,p _ H μ .refl r (.bl _)⟩)
      |_=>exact p.elim
     |_=>cases o2 <;> exact p.elim
  |_=>exact p.elim
 |_=>cases qy <;> exact p.elim
end
section
variable{X:Cx}{ca:Nat->Addr}{a b e:Expr}{ma mb me:ME}{pos p:Pos}{k:Nat}
theorem hu16{A:Around}(hr:Room k A):A.units+16<cLine:=by have:=hr.units;omega
theorem r_eq(hr:Room k X.A)(ha:PE3 ca X a ma)(hb:PE3 ca X b mb):PE3 ca X (.Compare a [.Eq] [b] pos) (mOp2 pEq ma mb):=Qhp (λpn Φ=>(op_eq.or (Qkb (X:=xat X ca pn Φ) (hu16 hr))).or (Qhy (X:=xat X ca pn Φ) (hu16 hr))) Qhz ha hb (Jy b)
theorem Qa8(hr:Room k X.A)(ha:PE3 ca X a ma)(hb:PE3 ca X b mb):PT3 ca X (.Compare a [.Eq] [b] pos) (Qk (mOp2 pEq ma mb)):=JF (λpn Φ=>(op_eq.or (Qkb (X:=xat X ca pn Φ) (hu16 hr))).or (Qhy (X:=xat X ca pn Φ) (hu16 hr))) Qhz ha hb (Jy b)
theorem Qa9(hr:Room k X.A)(ha:PE3 ca X a ma)(hb:PE3 ca X b mb):PT3 ca X (.Compare a [.NotEq] [b] pos) (Qk (mOp2 pNe ma mb)):=JF (λpn Φ=>(op_ne.or (QmU (X:=xat X ca pn Φ) (hu16 hr))).or (QmV (X:=xat X ca pn Φ) (hu16 hr))) Qk6 ha hb (Jy b)
theorem QfF{K:PySem.W.Frag}{μ:List Addr}{H:Hp}{x:V}{d:D}(q:Den K μ H x d):decide (x=.non)=isNon d:=by cases q <;> simp[isNon]
theorem QhC{K:PySem.W.Frag}:Jo K ca (λx y H Q=>y=.non/\Q (.bl (decide (x=.non))) H) pIs:=by
 intro Φ σ H μ g x y dx dy Q r qx qy p
 cases qy with
 |non=>exact⟨rfl,p _ H μ .refl r (by rw[QfF qx];exact .bl _)⟩
 |_=>exact p.elim
theorem Qgq{K:PySem.W.Frag}:Jo K ca (λx y H Q=>y=.non/\Q (.bl (!decide (x=.non))) H) Qaq:=by
 intro Φ σ H μ g x y dx dy Q r qx qy p
 cases qy with
 |non=>exact⟨rfl,p _ H μ .refl r (by rw[QfF qx];exact .bl _)⟩
 |_=>exact p.elim
theorem r_is(ha:PE3 ca X a ma)(hb:PE3 ca X b mb):PE3 ca X (.Compare a [.Is] [b] pos) (mOp2 pIs ma mb):=Qhp (λ_ _=>Qj3) QhC ha hb (Jy b)
theorem QhD(ha:PE3 ca X a ma)(hb:PE3 ca X b mb):PT3 ca X (.Compare a [.Is] [b] pos) (Qk (mOp2 pIs ma mb)):=JF (λ_ _=>Qj3) QhC ha hb (Jy b)
theorem QfG(ha:PE3 ca X a ma)(hb:PE3 ca X b mb):PT3 ca X (.Compare a [.IsNot] [b] pos) (Qk (mOp2 Qaq ma mb)):=JF (λ_ _=>QkM) Qgq ha hb (Jy b)
theorem Qc5{K:PySem.W.Frag}{μ:List Addr}{H:Hp}{vs:List V}{ds:List D}{i:Int}{d:D}(q:Dens K μ H vs ds)(h:atD ds i=some d):∃v,atI vs i=some v/\Den K μ H v d:=by
 unfold atD at h
 cases hj:ixD ds.length i with
 |none=>rw[hj]at h;cases h
 |some j =>
  rw[hj]at h
  obtain⟨v,h1,h2⟩:=q.get (show ds[j]?=some d from h)
  refine⟨v,?_,h2⟩
  unfold atI
  rw[q.length,show ixN ds.length i=some j from hj]
  exact h1
theorem Qk7{K:PySem.W.Frag}:Jo K ca (rIx K) pIx:=by
 intro Φ σ H μ g x y dx dy Q r qx qy p
 unfold pIx at p
 cases qx with
 |tup ht hs =>
  cases qy with
  |int i =>
   dsimp only at p
   rename_i a vs ds
   cases h:atD ds i with
   |none=>rw[h]at p;exact p.elim
   |some d =>
    rw[h]at p
    obtain⟨v,h1,h2⟩:=Qc5 hs h
    exact .inr (.inl ⟨a,vs,i,v,rfl,rfl,ht,h1,p v H μ .refl r h2⟩)
  |_=>exact p.elim
 |fl ht hs =>
  cases qy with
  |int i =>
   dsimp only at p
   rename_i a vs ds
   cases h:atD ds i with
   |none=>rw[h]at p;exact p.elim
   |some d =>
    rw[h]at p
    obtain⟨v,h1,h2⟩:=Qc5 hs h
    exact .inl ⟨a,vs,i,v,rfl,rfl,ht.sq,h1,p v H μ .refl r h2⟩
  |_=>exact p.elim
 |@ref n a hn =>
  cases qy with
  |int i =>
   dsimp only at p
   cases hg:g[n]? with
   |none=>rw[hg]at p;exact p.elim
   |some o =>
    rw[hg]at p
    obtain⟨a',ha',ob⟩:=r.addr hg
    rw[hn]at ha';cases ha'
    cases o with
    |lst ds =>
     obtain⟨vs,hH,hs⟩:=ob
     dsimp only at p
     cases h:atD ds i with
     |none=>rw[h]at p;exact p.elim
     |some d =>
      rw[h]at p
      obtain⟨v,h1,h2⟩:=Qc5 hs h
      exact .inl ⟨a,vs,i,v,rfl,rfl,.of hH,h1,p v H μ .refl r h2⟩
    |_=>exact p.elim
  |_=>exact p.elim
 |str s =>
  cases qy with
  |int i =>
   dsimp only at p
   by_cases z:s.length<=SZ
   ·rw[Ud z]at p
    cases h:atD s.cps.toList i with
    |none=>rw[h]at p;exact p.elim
    |some c =>
     rw[h]at p
     exact .inr (.inr ⟨s,i,c,rfl,rfl,Ut z Y4,h,p _ H μ .refl r (.str _)⟩)
   ·rw[Ue z]at p;exact p.elim
  |_=>exact p.elim
 |_=>cases qy <;> exact p.elim
theorem Qi(ha:PE3 ca X a ma)(hb:PE3 ca X b mb)(hs:QcZ b:=by exact λ_ _=>rfl):PE3 ca X (.Subscript a b pos) (mOp2 pIx ma mb):=r_ix (λ_ _=>Qmz) Qk7 ha hb hs
theorem Qjd{x:Str}{id:String}{r:List V->Hp->VK->Prop}{f:D->G->Res D}(hc:∀pn Φ,CallR (xat X ca pn Φ) (.builtin id) r)(hm:X.mg x=none)(hv:bootBuiltins x=some (.builtin id))(hp:∀(Φ:XS) (σ:L2.St) (H:Hp) (μ:List Addr) (g:G) (y:V) (d:D) (Q:VK),GRep X.K ca μ H g->Den X.K μ H y d->Post X.K ca Φ σ Q H μ (f d g)->r [y] H Q)(he:PE3 ca X e me)(hg:Gl X x)(hn:x ≠ "__name__")(hdb:(x == ("__debug__" : Str))=false)(hs:starEach [e] X.env=[(false,eval e X.env)])(hpl:(backTo pos (starEach [] X.env)).any (·.1)=false):PE3 ca X (.Call (.Name x p) [e] [] pos) (mOp1 f me) :=
 λpn Φ=>Q6 (Qbh (X:=xat X ca pn Φ) (hc pn Φ) hg hm hv (Yv he Qj hs pn Φ) hn hdb hs hpl) λσ H Q hQ=>by
  obtain⟨σ3,g,μ,R,q⟩:=hQ
  refine⟨σ3,g,μ,R,?_⟩
  unfold mOp1 at q
  unfold Qb mNil
  cases hm:me σ3 g with
  |raise _ _=>rw[hm]at q;exact q
  |stuck=>rw[hm]at q;exact q.elim
  |ok d g1 =>
   rw[hm,Res.bind_ok]at q
   rw[Res.bind_ok,Res.bind_ok]
   intro vs H1 μ1 e1 r1 q1
   cases q1 with
   |cons h1 h2 =>
    cases h2
    exact hp Φ σ H1 μ1 g1 _ d Q r1 h1 (q.go e1)
end
section
variable{X:Cx}{ca:Nat->Addr}{a b e o:Expr}{ma mb me mo:ME}{pos p apos:Pos}{k:Nat}
theorem r_ty{x:Str}{T:String}{r:List V->Hp->VK->Prop}{f:D->G->Res D}(hc:∀pn Φ,CallR (xat X ca pn Φ) (.type T) r)(hm:X.mg x=none)(hv:bootBuiltins x=some (.type T))(hp:∀(Φ:XS) (σ:L2.St) (H:Hp) (μ:List Addr) (g:G) (y:V) (d:D) (Q:VK),GRep X.K ca μ H g->Den X.K μ H y d->Post X.K ca Φ σ Q H μ (f d g)->r [y] H Q)(he:PE3 ca X e me)(hg:Gl X x)(hn:x ≠ "__name__")(hdb:(x == ("__debug__" : Str))=false)(hs:starEach [e] X.env=[(false,eval e X.env)])(hpl:(backTo pos (starEach [] X.env)).any (·.1)=false):PE3 ca X (.Call (.Name x p) [e] [] pos) (mOp1 f me) :=
 λpn Φ=>Q6 (Qhc (X:=xat X ca pn Φ) (hc pn Φ) hg hm hv (Yv he Qj hs pn Φ) hn hdb hs hpl) λσ H Q hQ=>by
  obtain⟨σ3,g,μ,R,q⟩:=hQ
  refine⟨σ3,g,μ,R,?_⟩
  unfold mOp1 at q
  unfold Qb mNil
  cases hm:me σ3 g with
  |raise _ _=>rw[hm]at q;exact q
  |stuck=>rw[hm]at q;exact q.elim
  |ok d g1 =>
   rw[hm,Res.bind_ok]at q
   rw[Res.bind_ok,Res.bind_ok]
   intro vs H1 μ1 e1 r1 q1
   cases q1 with
   |cons h1 h2 =>
    cases h2
    exact hp Φ σ H1 μ1 g1 _ d Q r1 h1 (q.go e1)
theorem Yg(hm:X.mg "len" = none)(he:PE3 ca X e me)(hg:Gl X "len":=by rfl)(hs:starEach [e] X.env=[(false,eval e X.env)]:=by rfl)(hpl:(backTo pos (starEach [] X.env)).any (·.1)=false:=by rfl):
  PE3 ca X (.Call (.Name "len" p) [e] [] pos) (mOp1 pLen me) :=
 Qjd (r:=λxs H Q=>∃p ys,xs=[V.ref p]/\(SqL X.K H p ys\/SqT X.K H p ys)/\Q (V.int (ys.length:Int)) H) (λ_ _=>QdP) hm boot_len (λΦ σ H μ g y d Q r q pp=>by
  unfold pLen at pp
  cases q with
  |@tup t vs ds ht hs=>exact⟨t,vs,rfl,.inr ht,pp _ H μ .refl r (by rw[hs.length];exact .int _)⟩
  |@fl t vs ds ht hs=>exact⟨t,vs,rfl,.inl ht.sq,pp _ H μ .refl r (by rw[hs.length];exact .int _)⟩
  |@ref n t hn =>
   dsimp only at pp
   cases hgn:g[n]? with
   |none=>rw[hgn]at pp;exact pp.elim
   |some ob =>
    rw[hgn]at pp
    obtain⟨t',ht',orp⟩:=r.addr hgn
    rw[hn]at ht';cases ht'
    cases ob with
    |lst ds=>obtain⟨vs,hH,q⟩:=orp;exact⟨t,vs,rfl,.inl (.of hH),pp _ H μ .refl r (by rw[q.length];exact .int _)⟩
    |_=>exact pp.elim
  |_=>exact pp.elim) he hg (by decide) (by decide) hs hpl
theorem Qc6(hm:X.mg "tuple" = none)(he:PE3 ca X e me)(hg:Gl X "tuple":=by rfl)(hs:starEach [e] X.env=[(false,eval e X.env)]:=by rfl)(hpl:(backTo pos (starEach [] X.env)).any (·.1)=false:=by rfl):
  PE3 ca X (.Call (.Name "tuple" p) [e] [] pos) (mOp1 YR me) :=
 r_ty (r:=λxs H Q=>∃p ys,xs=[V.ref p]/\((SqL X.K H p ys/\∀l,H l=none->Q (.ref l) (upd H l (.tup ys)))\/(SqT X.K H p ys/\Q (.ref p) H))) (λ_ _=>Qc2) hm boot_tuple (λΦ σ H μ g y d Q r q pp=>by
  unfold YR at pp
  cases q with
  |@tup t vs ds ht hs=>exact⟨t,vs,rfl,.inr ⟨ht,pp _ H μ .refl r (.tup ht hs)⟩⟩
  |@fl t vs ds ht hs=>exact⟨t,vs,rfl,.inl ⟨ht.sq,λl hl=>pp _ _ μ (QZ hl) (r.new hl) (.tup (.of Qp) (hs.mono (QZ hl)))⟩⟩
  |@ref n t hn =>
   dsimp only at pp
   cases hgn:g[n]? with
   |none=>rw[hgn]at pp;exact pp.elim
   |some ob =>
    rw[hgn]at pp
    obtain⟨t',ht',orp⟩:=r.addr hgn
    rw[hn]at ht';cases ht'
    cases ob with
    |lst ds=>obtain⟨vs,hH,q⟩:=orp;exact⟨t,vs,rfl,.inl ⟨.of hH,λl hl=>pp _ _ μ (QZ hl) (r.new hl) (.tup (.of Qp) (q.mono (QZ hl)))⟩⟩
    |_=>exact pp.elim
  |_=>exact pp.elim) he hg (by decide) (by decide) hs hpl
theorem QmW(hm:X.mg "list" = none)(he:PE3 ca X e me)(hg:Gl X "list":=by rfl)(hs:starEach [e] X.env=[(false,eval e X.env)]:=by rfl)(hpl:(backTo pos (starEach [] X.env)).any (·.1)=false:=by rfl):
  PE3 ca X (.Call (.Name "list" p) [e] [] pos) (mOp1 Qhk me) :=
 r_ty (r:=λxs H Q=>∃p ys,xs=[V.ref p]/\(SqL X.K H p ys\/SqT X.K H p ys)/\∀l,H l=none->Q (.ref l) (upd H l (.lst ys))) (λ_ _=>QdQ) hm boot_list (λΦ σ H μ g y d Q r q pp=>by
  have el:∀l:Addr,(μ++[l])[g.length]?=some l:=λl=>by rw[<-r.len];simp
  unfold Qhk at pp
  cases q with
  |@fl t vs ds ht hs=>exact⟨t,vs,rfl,.inl ht.sq,λl hl=>pp _ _ (μ++[l]) (Qt hl) (r.push hl ⟨vs,Qp,hs.mono (Qt hl)⟩) (.ref (el l))⟩
  |@tup t vs ds ht hs=>exact⟨t,vs,rfl,.inr ht,λl hl=>pp _ _ (μ++[l]) (Qt hl) (r.push hl ⟨vs,Qp,hs.mono (Qt hl)⟩) (.ref (el l))⟩
  |@ref n t hn =>
   dsimp only at pp
   cases hgn:g[n]? with
   |none=>rw[hgn]at pp;exact pp.elim
   |some ob =>
    rw[hgn]at pp
    obtain⟨t',ht',orp⟩:=r.addr hgn
    rw[hn]at ht';cases ht'
    cases ob with
    |lst ds=>obtain⟨vs,hH,q⟩:=orp;exact⟨t,vs,rfl,.inl (.of hH),λl hl=>pp _ _ (μ++[l]) (Qt hl) (r.push hl ⟨vs,Qp,q.mono (Qt hl)⟩) (.ref (el l))⟩
    |_=>exact pp.elim
  |_=>exact pp.elim) he hg (by decide) (by decide) hs hpl
theorem Qbl(ho:PE3 ca X o mo)(he:PE3 ca X e me)(hbase:attributeBase o "append" X.env (eval o X.env)=eval o X.env:=by rfl)(hfew:((backTo pos (starEach [e] X.env)).all (λx=>!x.1) && (backToKw pos (keywordEach [] X.env)).all (λx=>x.1.isSome) && decide ([e].length+([]:List Keyword).length+(if ([]:List Keyword).isEmpty then 0 else 1)<30))=true:=by rfl)(hline:(apos.endLine == pos.line)=true:=by rfl)(hs:starEach [e] X.env=(false,eval e X.env)::starEach [] X.env:=by rfl)(hplain:(backTo pos (starEach [] X.env)).any (·.1)=false:=by rfl):
  PE3 ca X (.Call (.Attribute o "append" apos) [e] [] pos) (Yu mo me) :=
 λpn Φ=>Q6 (Qi5 (X:=xat X ca pn Φ) RD PySem.F.slot_list_append PySem.F.type_list_append Qhg (ho pn Φ) (Yv he Qj hs pn Φ) hbase hfew hline hs hplain) λσ H Q ⟨σ3,g,μ,R,q⟩=>Q5 (Jm R q) λx H1 hQ=>by
  obtain⟨d,g1,μ1,e1,R1,q1,p1⟩:=hQ
  cases q1 with
  |@ref n t hn =>
   dsimp only at p1
   cases hgn:g1[n]? with
   |none=>rw[hgn]at p1;exact p1.elim
   |some ob =>
    rw[hgn]at p1
    obtain⟨t',ht',orp⟩:=R1.g.addr hgn
    rw[hn]at ht';cases ht'
    cases ob with
    |lst ds0 =>
     obtain⟨vs0,hH0,_⟩:=orp
     dsimp only at p1
     refine⟨.inl ⟨rfl,_,.of hH0⟩,σ3,g1,μ1,R1,?_⟩
     unfold Qb mNil
     cases hm:me σ3 g1 with
     |raise _ _=>rw[hm]at p1;exact p1
     |stuck=>rw[hm]at p1;exact p1.elim
     |ok y g2 =>
      rw[hm,Res.bind_ok]at p1
      rw[Res.bind_ok,Res.bind_ok]
      intro vs H2 μ2 e2 r2 q2
      cases q2 with
      |@cons vy _ _ _ h1 h2 =>
       cases h2
       cases hg2:g2[n]? with
       |none=>rw[hg2]at p1;exact p1.elim
       |some ob2 =>
        rw[hg2]at p1
        obtain⟨t',ht',orp⟩:=r2.addr hg2
        rw[e2.at hn]at ht';cases ht'
        cases ob2 with
        |lst ds =>
         obtain⟨ws,hH,qs⟩:=orp
         dsimp only at p1
         by_cases z:ds.length<SZ
         ·rw[Ud z]at p1
          have ex:Ext X.K μ2 H2 μ2 (upd H2 t (.lst (ws++[vy]))):=JE hH (by intro _ z;cases z) (by intro _ _ z;cases z)
          refine⟨t,ws,_,rfl,rfl,hH,by rw[qs.length];exact Ur z Y4,p1 _ _ μ2 (e2.trans ex) ?_ .non⟩
          exact r2.set (e2.at hn) hH (by intro _ z;cases z) (by intro _ _ z;cases z) ⟨_,Qp,(qs.mono ex).append (.cons (h1.mono ex) .nil)⟩
         ·rw[Ue z]at p1;exact p1.elim
        |_=>exact p1.elim
    |_=>exact p1.elim
  |_=>exact p1.elim
theorem Dens.dropLast{K:PySem.W.Frag}{μ:List Addr}{H:Hp}{vs:List V}{ds:List D}(h:Dens K μ H vs ds):Dens K μ H vs.dropLast ds.dropLast:=by
 rw[Bh,Bh,h.length]
 exact h.take _
theorem Qon(ho:PE3 ca X o mo)(hbase:attributeBase o "pop" X.env (eval o X.env)=eval o X.env:=by rfl)(hline:(apos.endLine == pos.line)=true:=by rfl):PE3 ca X (.Call (.Attribute o "pop" apos) [] [] pos) (mOp1 pPop mo) :=
 λpn Φ=>Q6 (QmB (X:=xat X ca pn Φ) RD PySem.F.slot_list_pop PySem.F.type_list_pop QmC (ho pn Φ) hbase hline) λσ H Q ⟨σ3,g,μ,R,q⟩=>Q5 (Jm R q) λx H1 hQ=>by
  obtain⟨d,g1,μ1,e1,R1,q1,p1⟩:=hQ
  unfold pPop at p1
  cases q1 with
  |@ref n t hn =>
   dsimp only at p1
   cases hgn:g1[n]? with
   |none=>rw[hgn]at p1;exact p1.elim
   |some ob =>
    rw[hgn]at p1
    obtain⟨t',ht',orp⟩:=R1.g.addr hgn
    rw[hn]at ht';cases ht'
    cases ob with
    |lst ds =>
     obtain⟨ws,hH,qs⟩:=orp
     dsimp only at p1
     cases hl:ds[ds.length-1]? with
     |none=>rw[hl]at p1;exact p1.elim
     |some y =>
      rw[hl]at p1
      obtain⟨v,h1,h2⟩:=qs.get hl
      have ex:Ext X.K μ1 H1 μ1 (upd H1 t (.lst ws.dropLast)):=JE hH (by intro _ z;cases z) (by intro _ _ z;cases z)
      refine⟨.inl ⟨rfl,_,.of hH⟩,t,ws,v,rfl,rfl,hH,by rw[qs.length];exact h1,p1 v _ μ1 ex ?_ (h2.mono ex)⟩
      exact R1.g.set hn hH (by intro _ z;cases z) (by intro _ _ z;cases z) ⟨_,Qp,(qs.mono ex).dropLast⟩
    |_=>exact p1.elim
  |_=>exact p1.elim
end
noncomputable def IsIt(b:Bool)(h:Heap)(i l:Addr)(k:Nat):Prop:=if b=true then h.IsListIter i l k else h.IsTupleIter i l k
noncomputable def IsSq(b:Bool)(h:Heap)(l:Addr)(xs:Array Value):Prop:=if b=true then h.IsList l xs else h.IsTuple l xs
theorem IsIt.at{b:Bool}{h h':Heap}{i l:Addr}{k:Nat}(x:IsIt b h i l k)(hk:∀o,h.get? i=some o->h'.get? i=some o):IsIt b h' i l k:=by
 cases b
 ·exact Heap.IsTupleIter.at (show h.IsTupleIter i l k from x) hk
 ·exact Heap.IsListIter.at (show h.IsListIter i l k from x) hk
theorem IsSq.at{b:Bool}{h h':Heap}{l:Addr}{xs:Array Value}(x:IsSq b h l xs)(hk:∀o,h.get? l=some o->h'.get? l=some o):IsSq b h' l xs:=by
 cases b
 ·obtain⟨o,e,c⟩:=(show h.IsTuple l xs from x);exact⟨o,hk o e,c⟩
 ·obtain⟨o,e,c⟩:=(show h.IsList l xs from x);exact⟨o,hk o e,c⟩
theorem IsIt.lt{b:Bool}{h:Heap}{i l:Addr}{k:Nat}(x:IsIt b h i l k):i<h.objs.size:=by
 cases b
 ·obtain⟨o,e,_⟩:=(show h.IsTupleIter i l k from x);exact Uk e
 ·obtain⟨o,e,_⟩:=(show h.IsListIter i l k from x);exact Uk e
theorem IsIt.rec{b:Bool}{h:Heap}{i l:Addr}{k:Nat}(x:IsIt b h i l k):∃o,h.get? i=some o/\∀v,o.data≠.cell v:=by
 cases b
 ·obtain⟨o,e,c,d⟩:=(show h.IsTupleIter i l k from x);exact⟨o,e,λv z=>by rw[d]at z;cases z⟩
 ·obtain⟨o,e,c,d⟩:=(show h.IsListIter i l k from x);exact⟨o,e,λv z=>by rw[d]at z;cases z⟩
theorem IsSq.lt{b:Bool}{h:Heap}{l:Addr}{xs:Array Value}(x:IsSq b h l xs):l<h.objs.size:=by
 cases b
 ·obtain⟨o,e,_⟩:=(show h.IsTuple l xs from x);exact Uk e
 ·obtain⟨o,e,_⟩:=(show h.IsList l xs from x);exact Uk e
section
variable{prog:Program}{w:World}{A:Around}{E:Value->Shared->Prop}{s:Shared}
theorem Qgr{it t:Addr}{i:Nat}{items:Array Value}{x:Value}{Q:Value->Shared->Prop}(hit:s.heap.IsTupleIter it t i)(ht:s.heap.IsTuple t items)(hx:items[i]?=some x)(hQ:∀h',h'.IsTupleIter it t (i+1)->Heap.SameBut it s.heap h'->Q x {s with heap:=h'}):
  wpAny (model prog w) A (Builtin.SmallTypes.nextOf (.ref it)) Q E s:=by
 obtain⟨o,ho,hc,hd⟩:=id hit;obtain⟨ol,hol,_,nl,hdl⟩:=ht;unfold Builtin.SmallTypes.nextOf
 refine Ua (Tm (name:=Str.ofString "__next__") hit.typeIs TY (TV TY hit.typeIs Wm ?_ (Wa _)))
 show wpAny _ _ (field (.ref it) 0 >>= _) _ _ s;refine Ua (UT ho hd (x:=.ref t) rfl ?_)
 show wpAny _ _ (if (Value.ref t == Value.none)=true then _ else _) _ _ s;rw[Ue (show ¬((Value.ref t == Value.none)=true) from Ug)]
 show wpAny _ _ (field (.ref it) 1 >>= _) _ _ s;refine Ua (UT ho hd (x:=.int i 0) rfl ?_)
 show wpAny _ _ (seqItems? (.ref t) >>= _) _ _ s;refine Ua (TH hol hdl ?_);simp only[WN,hx]
 refine Ua (RL ho hd (by simp) (Uj ⟨x,rfl,Uj (hQ _ ⟨_,Rj _ ho (Obj.isFreed_of_fields (RA hd _)),(Obj.cls_mapFields ..).trans hc,by rw[RA hd];simp[rawInt]⟩ (Heap.SameBut.update ..))⟩))
theorem Qc7{it t:Addr}{i:Nat}{items:Array Value}{Q:Value->Shared->Prop}(hh:A.handled=none)(hit:s.heap.IsTupleIter it t i)(ht:s.heap.IsTuple t items)(hx:items[i]?=none)(hE:∀h' e,Heap.ExtBut it s.heap h'->(∃o,h'.get? e=some o/\o.cls=.type "StopIteration")->E (.ref e) {s with heap:=h'}):wpAny (model prog w) A (Builtin.SmallTypes.nextOf (.ref it)) Q E s:=by
 obtain⟨o,ho,hc,hd⟩:=id hit;obtain⟨ol,hol,_,nl,hdl⟩:=ht;unfold Builtin.SmallTypes.nextOf
 refine Ua (Tm (name:=Str.ofString "__next__") hit.typeIs TY (TV TY hit.typeIs Wm ?_ (Wa _)))
 show wpAny _ _ (field (.ref it) 0 >>= _) _ _ s;refine Ua (UT ho hd (x:=.ref t) rfl ?_)
 show wpAny _ _ (if (Value.ref t == Value.none)=true then _ else _) _ _ s;rw[Ue (show ¬((Value.ref t == Value.none)=true) from Ug)]
 show wpAny _ _ (field (.ref it) 1 >>= _) _ _ s;refine Ua (UT ho hd (x:=.int i 0) rfl ?_)
 show wpAny _ _ (seqItems? (.ref t) >>= _) _ _ s;refine Ua (TH hol hdl ?_);simp only[WN,hx]
 refine Ua (Ri (Ua (RL ho hd (by simp) ?_)))
 show wpAny _ _ (newExc (.type "StopIteration") [] >>= _) _ _ _;refine Ua ?_;simp only[newExc,newTuple];refine Ua (U7 ?_ (by size_fits))
 refine Ua (m:=firstArgMember _ _) (wpAny_of_eq (a:=Value.none) (by first|rfl|(simp only[firstArgMember];rfl)) ?_);refine U7 ?_ (by size_fits);simp only[raiseNew]
 refine Ua (wpAny_handled ?_);(first|rw[show A.in1.handled=none from hh]|rw[hh]);refine Ua (Uj (wpAny_throw ?_))
 exact hE _ _ (((Heap.SameBut.update ..).extBut.push _).push _) ⟨_,Uo _ rfl,rfl⟩
theorem QhE{b:Bool}{it l:Addr}{i:Nat}{xs:Array Value}{x:Value}{Q:Value->Shared->Prop}(hit:IsIt b s.heap it l i)(hl:IsSq b s.heap l xs)(hx:xs[i]?=some x)(hQ:∀h',IsIt b h' it l (i+1)->Heap.SameBut it s.heap h'->Q x {s with heap:=h'}):
  wpAny (model prog w) A (Builtin.SmallTypes.nextOf (.ref it)) Q E s:=by
 cases b
 ·exact Qgr hit hl hx hQ
 ·exact wpAny_nextOf_list_item hit hl hx hQ
theorem QhF{b:Bool}{it l:Addr}{i:Nat}{xs:Array Value}{Q:Value->Shared->Prop}(hh:A.handled=none)(hit:IsIt b s.heap it l i)(hl:IsSq b s.heap l xs)(hx:xs[i]?=none)(hE:∀h' e,Heap.ExtBut it s.heap h'->(∃o,h'.get? e=some o/\o.cls=.type "StopIteration")->E (.ref e) {s with heap:=h'}):wpAny (model prog w) A (Builtin.SmallTypes.nextOf (.ref it)) Q E s:=by
 cases b
 ·exact Qc7 hh hit hl hx hE
 ·exact wpAny_nextOf_list_end hh hit hl hx hE
theorem Qk8{b1 b2:Bool}{z TI TO i1 i2 l1 l2:Addr}{k:Nat}{xs ys:Array Value}{x y a b:Value}{Q:Value->Shared->Prop}(D:ZipApart z TI TO i1 i2 l1 l2)(hz:IsZip s.heap z TI TO .none)(hTI:IsPair s.heap TI (.ref i1) (.ref i2))(hTO:IsPair s.heap TO a b)(h1:IsIt b1 s.heap i1 l1 k)(h2:IsIt b2 s.heap i2 l2 k)(hl1:IsSq b1 s.heap l1 xs)(hl2:IsSq b2 s.heap l2 ys)(hx:xs[k]?=some x)(hy:ys[k]?=some y)(hQ:∀h',IsZip h' z TI TO (rawInt s.heap.objs.size)->IsPair h' TO x y->IsIt b1 h' i1 l1 (k+1)->IsIt b2 h' i2 l2 (k+1)->IsPair h' s.heap.objs.size x y->h'.objs.size=s.heap.objs.size+1 ->
   (∀c o,c≠z->c≠TO->c≠i1->c≠i2->s.heap.get? c=some o->h'.get? c=some o)->Q (.ref s.heap.objs.size) {s with heap:=h'}):
  wpAny (model prog w) A (Builtin.«zip.__next__» ⟨[.ref z],[]⟩) (λfin s'=>∃v,fin=.done (.ret v)/\Q v s') E s:=by
 show wpAny _ _ (field (.ref z) 2 >>= _) _ _ _;refine Ua (UT hz rfl (x:=.bool false) rfl ?_)
 show wpAny _ _ (field (.ref z) 3 >>= _) _ _ _;refine Ua (UT hz rfl (x:=.ref TI) rfl ?_);refine Ua (TH hTI rfl ?_)
 show wpAny _ _ (Builtin.SmallTypes.ownedTupleIsFree (.ref z) >>= _) _ _ _;refine Ua ?_;unfold Builtin.SmallTypes.ownedTupleIsFree
 refine Ua (UT hz rfl (x:=.none) rfl (Uj ?_));simp only[Wj];refine Ua (Ri ?_);refine Ua (UT hz rfl (x:=.ref TO) rfl ?_)
 refine Ua (TZ hz (by simp) λg1 hz1 hs1=>?_);replace hz1:IsZip g1 z TI TO .ellipsis:=hz1
 refine Ua ?_;simp only[List.zipIdx_cons,List.zipIdx_nil,Wd,WA];refine Ua (Ua (WS ?_))
 show wpAny _ _ (Builtin.SmallTypes.nextOf (.ref i1) >>= _) _ _ _
 refine Ua (QhE (h1.at λo e=>hs1.extBut _ o D.i1z e) (hl1.at λo e=>hs1.extBut _ o D.l1z e) hx λg2 h12 hs2=>Uj ?_)
 have hTO2:IsPair g2 TO a b:=hs2.extBut _ _ D.TOi1 (hs1.extBut _ _ D.TOz hTO)
 refine Ua (TH hTO2 rfl ?_);refine Ua (RY hTO2 λg3 hTO3 hs3=>?_);replace hTO3:IsPair g3 TO x b:=hTO3
 refine Ua (Bx (Uj ?_));refine Ua (Ua (WS ?_))
 show wpAny _ _ (Builtin.SmallTypes.nextOf (.ref i2) >>= _) _ _ _
 refine Ua (QhE (h2.at λo e=>hs3.extBut _ o D.TOi2.symm (hs2.extBut _ o D.i12.symm (hs1.extBut _ o D.i2z e))) (hl2.at λo e=>hs3.extBut _ o D.l2TO (hs2.extBut _ o D.l2i1 (hs1.extBut _ o D.l2z e))) hy λg4 h24 hs4=>Uj ?_)
 have hTO4:IsPair g4 TO x b:=hs4.extBut _ _ D.TOi2 hTO3
 refine Ua (TH hTO4 rfl ?_);refine Ua (RY hTO4 λg5 hTO5 hs5=>?_);replace hTO5:IsPair g5 TO x y:=hTO5
 refine Ua (Bx (Uj (Uj ?_)));refine Ua (TH hTO5 rfl ?_);refine Ua (wpAny_newTuple ?_)
 have hsz:g5.objs.size=s.heap.objs.size:=by rw[hs5.1,hs4.1,hs3.1,hs2.1,hs1.1]
 have hz5:IsZip g5 z TI TO .ellipsis:=hs5.extBut _ _ D.TOz.symm (hs4.extBut _ _ D.i2z.symm (hs3.extBut _ _ D.TOz.symm (hs2.extBut _ _ D.i1z.symm hz1)))
 have hk5:∀c o,c≠z->c≠TO->c≠i1->c≠i2->s.heap.get? c=some o->g5.get? c=some o:=λc o c1 c2 c3 c4 e=>hs5.extBut _ _ c2 (hs4.extBut _ _ c4 (hs3.extBut _ _ c2 (hs2.extBut _ _ c3 (hs1.extBut _ _ c1 e))))
 have h15:IsIt b1 g5 i1 l1 (k+1):=h12.at λo e=>hs5.extBut _ o D.TOi1.symm (hs4.extBut _ o D.i12 (hs3.extBut _ o D.TOi1.symm e))
 have h25:IsIt b2 g5 i2 l2 (k+1):=h24.at λo e=>hs5.extBut _ o D.TOi2.symm e
 have hzlt:z<g5.objs.size:=Uk hz5
 show wpAny _ _ (Builtin.SmallTypes.ownedTupleHandOut (.ref z) (.ref g5.objs.size) >>= _) _ _ _
 refine Ua ?_;unfold Builtin.SmallTypes.ownedTupleHandOut
 have hz6:IsZip (g5.push {cls:=.type "tuple",data:=.seq #[x,y]}) z TI TO .ellipsis:=Ub _ hz5
 refine Ua (TZ hz6 (by simp) λg7 hz7 hs7=>?_);replace hz7:IsZip g7 z TI TO (rawInt g5.objs.size):=hz7
 refine TZ hz7 (by simp) λg8 hz8 hs8=>?_;replace hz8:IsZip g8 z TI TO (rawInt g5.objs.size):=hz8
 have upz:∀c o,c≠z->g5.get? c=some o->g8.get? c=some o:=λc o c1 e=>hs8.extBut _ _ c1 (hs7.extBut _ _ c1 (Ub _ e))
 have hT8:IsPair g8 g5.objs.size x y:=hs8.extBut _ _ (Wn hzlt) (hs7.extBut _ _ (Wn hzlt) (Uo _ rfl))
 have hsz8:g8.objs.size=g5.objs.size+1:=by rw[hs8.1,hs7.1,Tu]
 rw[hsz]at hz8 hT8 hsz8;refine Uj ⟨_,rfl,?_⟩;show Q (.ref g5.objs.size) _;rw[hsz]
 exact hQ g8 hz8 (upz _ _ D.TOz hTO5) (h15.at λo e=>upz _ o D.i1z e) (h25.at λo e=>upz _ o D.i2z e) hT8 hsz8 λc o c1 c2 c3 c4 e=>upz c o c1 (hk5 c o c1 c2 c3 c4 e)
theorem QmX{b1 b2:Bool}{z TI TO i1 i2 l1 l2:Addr}{k:Nat}{xs ys:Array Value}{a b:Value}{Q:Fin->Shared->Prop}(hh:A.handled=none)(D:ZipApart z TI TO i1 i2 l1 l2)(hz:IsZip s.heap z TI TO .none)(hTI:IsPair s.heap TI (.ref i1) (.ref i2))(hTO:IsPair s.heap TO a b)(h1:IsIt b1 s.heap i1 l1 k)(h2:IsIt b2 s.heap i2 l2 k)(hl1:IsSq b1 s.heap l1 xs)(hl2:IsSq b2 s.heap l2 ys)(hend:xs[k]?=none\/ys[k]?=none)(hE:∀h' e,(∀c o,c≠z->c≠TO->c≠i1->c≠i2->s.heap.get? c=some o->h'.get? c=some o)->(∃o,h'.get? e=some o/\o.cls=.type "StopIteration")->E (.ref e) {s with heap:=h'}):
  wpAny (model prog w) A (Builtin.«zip.__next__» ⟨[.ref z],[]⟩) Q E s:=by
 show wpAny _ _ (field (.ref z) 2 >>= _) _ _ _;refine Ua (UT hz rfl (x:=.bool false) rfl ?_)
 show wpAny _ _ (field (.ref z) 3 >>= _) _ _ _;refine Ua (UT hz rfl (x:=.ref TI) rfl ?_);refine Ua (TH hTI rfl ?_)
 show wpAny _ _ (Builtin.SmallTypes.ownedTupleIsFree (.ref z) >>= _) _ _ _;refine Ua ?_;unfold Builtin.SmallTypes.ownedTupleIsFree
 refine Ua (UT hz rfl (x:=.none) rfl (Uj ?_));simp only[Wj];refine Ua (Ri ?_);refine Ua (UT hz rfl (x:=.ref TO) rfl ?_)
 refine Ua (TZ hz (by simp) λg1 hz1 hs1=>?_);replace hz1:IsZip g1 z TI TO .ellipsis:=hz1
 refine Ua ?_;simp only[List.zipIdx_cons,List.zipIdx_nil,Wd,WA];refine Ua (Ua (WS ?_))
 show wpAny _ _ (Builtin.SmallTypes.nextOf (.ref i1) >>= _) _ _ _
 cases hx:xs[k]? with
 |none =>
  refine Ua (QhF hh (h1.at λo e=>hs1.extBut _ o D.i1z e) (hl1.at λo e=>hs1.extBut _ o D.l1z e) hx λg2 e hs2 he=>?_)
  obtain⟨oe,hoe,hce⟩:=he;have hz2:IsZip g2 z TI TO .ellipsis:=hs2 _ _ D.i1z.symm hz1
  have hez:e≠z:=λq=>by subst q;rw[hz2]at hoe;cases hoe;simp at hce
  refine TZ hz2 (by simp) λg3 _ hs3=>hE g3 e (λc o c1 _ c3 _ q=>hs3.extBut _ _ c1 (hs2 _ _ c3 (hs1.extBut _ _ c1 q))) ⟨oe,hs3.extBut _ _ hez hoe,hce⟩
 |some x =>
  have hy:ys[k]?=none:=by rcases hend with q|q;(· rw[hx]at q;cases q);exact q
  refine Ua (QhE (h1.at λo e=>hs1.extBut _ o D.i1z e) (hl1.at λo e=>hs1.extBut _ o D.l1z e) hx λg2 h12 hs2=>Uj ?_)
  have hTO2:IsPair g2 TO a b:=hs2.extBut _ _ D.TOi1 (hs1.extBut _ _ D.TOz hTO)
  refine Ua (TH hTO2 rfl ?_);refine Ua (RY hTO2 λg3 hTO3 hs3=>?_);refine Ua (Bx (Uj ?_));refine Ua (Ua (WS ?_))
  show wpAny _ _ (Builtin.SmallTypes.nextOf (.ref i2) >>= _) _ _ _
  refine Ua (QhF hh (h2.at λo e=>hs3.extBut _ o D.TOi2.symm (hs2.extBut _ o D.i12.symm (hs1.extBut _ o D.i2z e))) (hl2.at λo e=>hs3.extBut _ o D.l2TO (hs2.extBut _ o D.l2i1 (hs1.extBut _ o D.l2z e))) hy λg4 e hs4 he=>?_)
  obtain⟨oe,hoe,hce⟩:=he;have hz4:IsZip g4 z TI TO .ellipsis:=hs4 _ _ D.i2z.symm (hs3.extBut _ _ D.TOz.symm (hs2.extBut _ _ D.i1z.symm hz1))
  have hez:e≠z:=λq=>by subst q;rw[hz4]at hoe;cases hoe;simp at hce
  refine TZ hz4 (by simp) λg5 _ hs5=>hE g5 e (λc o c1 c2 c3 c4 q=>hs5.extBut _ _ c1 (hs4 _ _ c4 (hs3.extBut _ _ c2 (hs2.extBut _ _ c3 (hs1.extBut _ _ c1 q))))) ⟨oe,hs5.extBut _ _ hez hoe,hce⟩
theorem Qgs{b1 b2:Bool}{z TI TO i1 i2 l1 l2:Addr}{k:Nat}{xs ys:Array Value}{x y a b:Value}{Q:Option Value->Shared->Prop}(D:ZipApart z TI TO i1 i2 l1 l2)(hz:IsZip s.heap z TI TO .none)(hTI:IsPair s.heap TI (.ref i1) (.ref i2))(hTO:IsPair s.heap TO a b)(h1:IsIt b1 s.heap i1 l1 k)(h2:IsIt b2 s.heap i2 l2 k)(hl1:IsSq b1 s.heap l1 xs)(hl2:IsSq b2 s.heap l2 ys)(hx:xs[k]?=some x)(hy:ys[k]?=some y)(hQ:∀h',IsZip h' z TI TO (rawInt s.heap.objs.size)->IsPair h' TO x y->IsIt b1 h' i1 l1 (k+1)->IsIt b2 h' i2 l2 (k+1)->IsPair h' s.heap.objs.size x y->h'.objs.size=s.heap.objs.size+1 ->
   (∀c o,c≠z->c≠TO->c≠i1->c≠i2->s.heap.get? c=some o->h'.get? c=some o)->Q (some (.ref s.heap.objs.size)) {s with heap:=h'}):wpAny (model prog w) A (pyNext (.ref z)) Q E s:=by
 have hT:s.TypeIs (.ref z) "zip":=⟨_,hz,rfl⟩;unfold pyNext
 exact Ua (wpAny_attempt (Tm (name:=Str.ofString "__next__") hT We (TV We hT F.entry_zip_next (Qk8 D hz hTI hTO h1 h2 hl1 hl2 hx hy λh' a1 a2 a3 a4 a5 a6 a7=>Uj (hQ h' a1 a2 a3 a4 a5 a6 a7)) (F.args_zip_next_1 _))))
theorem Qc8{b1 b2:Bool}{z TI TO i1 i2 l1 l2:Addr}{k:Nat}{xs ys:Array Value}{a b:Value}{Q:Option Value->Shared->Prop}(hh:A.handled=none)(D:ZipApart z TI TO i1 i2 l1 l2)(hz:IsZip s.heap z TI TO .none)(hTI:IsPair s.heap TI (.ref i1) (.ref i2))(hTO:IsPair s.heap TO a b)(h1:IsIt b1 s.heap i1 l1 k)(h2:IsIt b2 s.heap i2 l2 k)(hl1:IsSq b1 s.heap l1 xs)(hl2:IsSq b2 s.heap l2 ys)(hend:xs[k]?=none\/ys[k]?=none)(hQ:∀h',(∀c o,c≠z->c≠TO->c≠i1->c≠i2->s.heap.get? c=some o->h'.get? c=some o)->Q none {s with heap:=h'}):wpAny (model prog w) A (pyNext (.ref z)) Q E s:=by
 have hT:s.TypeIs (.ref z) "zip":=⟨_,hz,rfl⟩;unfold pyNext
 refine Ua (wpAny_attempt (Tm (name:=Str.ofString "__next__") hT We (TV We hT F.entry_zip_next (QmX hh D hz hTI hTO h1 h2 hl1 hl2 hend λh' e hk he=>?_) (F.args_zip_next_1 _))))
 obtain⟨o,ho,hc⟩:=he;refine Ua (WY (T:="StopIteration") (b:=true) ⟨o,ho,hc⟩ isSubtype_stop ?_);exact Uj (hQ _ hk)
noncomputable def QmY(b:Bool):String:=if b=true then "list_iterator" else "tuple_iterator"
noncomputable def Qc9(b:Bool)(l:Addr):Obj:={cls:=.type (QmY b),data:=.fields #[.ref l,.int 0 0]}
theorem Qd4{b:Bool}{l:Addr}{xs:Array Value}{Q:Value->Shared->Prop}(hl:IsSq b s.heap l xs)(h:Q (.ref s.heap.objs.size) {s with heap:=s.heap.push (Qc9 b l)}):wpAny (model prog w) A (pyIter (.ref l)) Q E s:=by
 cases b
 ·exact wpAny_pyIter_tuple hl h
 ·exact RJ hl h
theorem IsSq.push{b:Bool}{h:Heap}{l:Addr}{xs:Array Value}(x:IsSq b h l xs)(o:Obj):IsSq b (h.push o) l xs:=x.at λ_ e=>Ub _ e
noncomputable abbrev zH1(b1:Bool)(h:Heap)(l1:Addr):Heap:=h.push (Qc9 b1 l1)
noncomputable abbrev zH2(b1 b2:Bool)(h:Heap)(l1 l2:Addr):Heap:=(zH1 b1 h l1).push (Qc9 b2 l2)
noncomputable abbrev zH3(b1 b2:Bool)(h:Heap)(l1 l2:Addr):Heap:=(zH2 b1 b2 h l1 l2).push {cls:=.type "tuple",data:=.seq #[.ref h.objs.size,.ref (zH1 b1 h l1).objs.size]}
noncomputable abbrev zH4(b1 b2:Bool)(h:Heap)(l1 l2:Addr):Heap:=(zH3 b1 b2 h l1 l2).push {cls:=.type "tuple",data:=.seq #[.none,.none]}
noncomputable abbrev zH5(b1 b2:Bool)(h:Heap)(l1 l2:Addr):Heap:=(zH4 b1 b2 h l1 l2).push {cls:=.type "zip",data:=.fields #[.none,.bool false,.bool false,.ref (zH2 b1 b2 h l1 l2).objs.size,.ref (zH3 b1 b2 h l1 l2).objs.size]}
theorem Qk9(b1 b2:Bool)(l1 l2:Addr)(xs ys:Array Value):Meets (Builtin.«zip.__new__» ⟨[.type "zip",.ref l1,.ref l2],[]⟩) (λ_ R s=>IsSq b1 s.heap l1 xs/\IsSq b2 s.heap l2 ys/\R (.ok (.ret (.ref (zH4 b1 b2 s.heap l1 l2).objs.size))) {s with heap:=zH5 b1 b2 s.heap l1 l2}) :=
 .of_wp λprog w A R s h=>by
  obtain⟨hp,g,d,tk,os⟩:=s;obtain⟨hl1,hl2,h⟩:=h;have hsub:=sub_zip
  have hL1:IsSq b1 (Shared.heap ⟨hp,g,d,tk,os⟩) l1 xs:=hl1
  have hL2:IsSq b2 (Shared.heap ⟨hp.push (Qc9 b1 l1),g,d,tk,os⟩) l2 ys:=hl2.push _
  wp_walk using Qd4 hL1,Qd4 hL2
  exact⟨_,rfl,h⟩
theorem itAt(b:Bool){h:Heap}{i l:Addr}(e:h.get? i=some (Qc9 b l)):IsIt b h i l 0:=by
 cases b
 ·exact⟨_,e,rfl,rfl⟩
 ·exact⟨_,e,rfl,rfl⟩
theorem Qje{b1 b2:Bool}{l1 l2:Addr}{xs ys:Array Value}{Q:Value->Shared->Prop}(hl1:IsSq b1 s.heap l1 xs)(hl2:IsSq b2 s.heap l2 ys)(h:∀h',IsZip h' (s.heap.objs.size+4) (s.heap.objs.size+2) (s.heap.objs.size+3) .none->IsPair h' (s.heap.objs.size+2) (.ref s.heap.objs.size) (.ref (s.heap.objs.size+1))->IsPair h' (s.heap.objs.size+3) .none .none ->
   IsIt b1 h' s.heap.objs.size l1 0->IsIt b2 h' (s.heap.objs.size+1) l2 0->h'.objs.size=s.heap.objs.size+5->(∀c o,s.heap.get? c=some o->h'.get? c=some o)->Q (.ref (s.heap.objs.size+4)) {s with heap:=h'}):
  wpAny (model prog w) A (call (.type "zip") [.ref l1,.ref l2]) Q E s:=by
 refine callType_new F.called_zip (by decide) (F.typeCall_zip_2 _ _) (F.newCall_zip_2 _ _) (λobj=>F.args_object_init_3 obj _ _) F.entry_zip_new (Qk9 b1 b2 l1 l2 xs ys) ⟨hl1,hl2,?_⟩
 have z1:(zH1 b1 s.heap l1).objs.size=s.heap.objs.size+1:=Tu ..
 have z2:(zH2 b1 b2 s.heap l1 l2).objs.size=s.heap.objs.size+2:=by rw[Tu,z1]
 have z3:(zH3 b1 b2 s.heap l1 l2).objs.size=s.heap.objs.size+3:=by rw[Tu,z2]
 have z4:(zH4 b1 b2 s.heap l1 l2).objs.size=s.heap.objs.size+4:=by rw[Tu,z3]
 have z5:(zH5 b1 b2 s.heap l1 l2).objs.size=s.heap.objs.size+5:=by rw[Tu,z4]
 have g5:(zH5 b1 b2 s.heap l1 l2).get? (zH4 b1 b2 s.heap l1 l2).objs.size=some _:=Uo _ rfl
 have g4:(zH5 b1 b2 s.heap l1 l2).get? (zH3 b1 b2 s.heap l1 l2).objs.size=some _:=Ub _ (Uo _ rfl)
 have g3:(zH5 b1 b2 s.heap l1 l2).get? (zH2 b1 b2 s.heap l1 l2).objs.size=some _:=Ub _ (Ub _ (Uo _ rfl))
 have g2:(zH5 b1 b2 s.heap l1 l2).get? (zH1 b1 s.heap l1).objs.size=some (Qc9 b2 l2):=Ub _ (Ub _ (Ub _ (Uo _ (by unfold Qc9;rfl))))
 have g1:(zH5 b1 b2 s.heap l1 l2).get? s.heap.objs.size=some (Qc9 b1 l1):=Ub _ (Ub _ (Ub _ (Ub _ (Uo _ (by unfold Qc9;rfl)))))
 show _/\_
 rw[z2,z3,z4]at g5;rw[z1,z2]at g3;rw[z3]at g4;rw[z1]at g2;rw[z4]
 exact⟨⟨_,g5,rfl⟩,h _ g5 g3 g4 (itAt b1 g1) (itAt b2 g2) z5 λc o q=>Ub _ (Ub _ (Ub _ (Ub _ (Ub _ q))))⟩
end
noncomputable def Sq(b:Bool)(K:PySem.W.Frag)(H:Hp)(a:Addr)(xs:List V):Prop:=if b=true then SqL K H a xs else SqT K H a xs
theorem Sq.real{b:Bool}{X:Cx}{pins:List (Addr×Obj)}{σ:L2.St}{H:Hp}{s:Shared}{a:Addr}{xs:List V}(I:Inv X pins σ H s)(h:Sq b X.K H a xs):∃its:List Value,Vals xs its/\IsSq b s.heap a its.toArray:=by
 cases b
 ·obtain⟨its,r,p,_⟩:=I.tuple (show SqT X.K H a xs from h);exact⟨its,r,p⟩
 ·obtain⟨its,r,p,_⟩:=I.list (show SqL X.K H a xs from h);exact⟨its,r,p.isList⟩
theorem Sq.inj{b:Bool}{X:Cx}{pins:List (Addr×Obj)}{σ:L2.St}{H:Hp}{s:Shared}{a:Addr}{xs ys:List V}(I:Inv X pins σ H s)(h:Sq b X.K H a xs)(h':Sq b X.K H a ys):xs=ys:=by
 cases b
 ·exact I.tuple_inj h h'
 ·exact I.list_inj h h'
noncomputable def Itz(K:PySem.W.Frag)(b1 b2:Bool)(a1 a2:Addr):It :=
  ⟨λi H=>∃xs ys x y,Sq b1 K H a1 xs/\Sq b2 K H a2 ys/\xs[i]?=some x/\ys[i]?=some y,
   λi H v H'=>∃p x y,H p=none/\v=.ref p/\H'=upd H p (.tup [x,y])/\(∀xs,Sq b1 K H a1 xs->xs[i]?=some x)/\∀ys,Sq b2 K H a2 ys->ys[i]?=some y,
   λi H=>∃xs ys,Sq b1 K H a1 xs/\Sq b2 K H a2 ys/\(xs.length<=i\/ys.length<=i)⟩
noncomputable def Qoo(b1 b2:Bool)(z TI TO i1 i2 l1 l2:Addr)(i:Nat)(h:Heap):Prop :=
 IsZip h z TI TO .none/\IsPair h TI (.ref i1) (.ref i2)/\(∃a b,IsPair h TO a b)/\IsIt b1 h i1 l1 i/\IsIt b2 h i2 l2 i
theorem Qjf{P:Program}{w:World}{K:PySem.W.Frag}{elts:List Expr}{kk:Nat}{tp:Pos}(b1 b2:Bool)(z TI TO i1 i2 l1 l2:Addr)(D:ZipApart z TI TO i1 i2 l1 l2):
  Turn P w K (.Tuple elts kk tp) (Itz K b1 b2 l1 l2) [z,TI,TO,i1,i2] z (Qoo b1 b2 z TI TO i1 i2 l1 l2) where
 mem:=by simp
 obj:=λi h st b hb=>by
  obtain⟨hz,hTI,⟨a,c,hTO⟩,h1,h2⟩:=st
  have hb':b=z\/b=TI\/b=TO\/b=i1\/b=i2:=by simpa using hb
  rcases hb' with rfl|rfl|rfl|rfl|rfl
  ·exact⟨_,hz,λv q=>by cases q⟩
  ·exact⟨_,hTI,λv q=>by cases q⟩
  ·exact⟨_,hTO,λv q=>by cases q⟩
  ·exact h1.rec
  ·exact h2.rec
 keep:=λi h h' st k=>by
  obtain⟨hz,hTI,⟨a,c,hTO⟩,h1,h2⟩:=st
  exact⟨k z (by simp) _ hz,k TI (by simp) _ hTI,⟨a,c,k TO (by simp) _ hTO⟩,h1.at λo e=>k i1 (by simp) o e,h2.at λo e=>k i2 (by simp) o e⟩
 item:=by
  intro X hP hw hK hc i pins s σ H E I hf st hg
  subst hP hw hK
  obtain⟨xs,ys,x,y,q1,q2,hx,hy⟩:=hg
  obtain⟨us,r1,p1⟩:=q1.real I
  obtain⟨ts,r2,p2⟩:=q2.real I
  obtain⟨u,hu,ru⟩:=r1.get hx
  obtain⟨t,ht,rt⟩:=r2.get hy
  obtain⟨hz,hTI,⟨a,c,hTO⟩,h1,h2⟩:=st
  have fz:=hf z (by simp)
  have fTI:=hf TI (by simp)
  have fTO:=hf TO (by simp)
  have f1:=hf i1 (by simp)
  have f2:=hf i2 (by simp)
  refine Qgs D hz hTI hTO h1 h2 p1 p2 (by simpa using hu) (by simpa using ht) λh' a1 a2 a3 a4 a5 a6 hk=>?_
  have hp:H s.heap.objs.size=none:=I.hok.fresh (Uc _)
  have inC:∀b,b∈[z,TO,i1,i2]->FpOk X pins H b:=λb hb=>by
   have hb':b=z\/b=TO\/b=i1\/b=i2:=by simpa using hb
   rcases hb' with rfl|rfl|rfl|rfl
   ·exact fz
   ·exact fTO
   ·exact f1
   ·exact f2
  have hk':∀b o,b∉[z,TO,i1,i2]->s.heap.get? b=some o->h'.get? b=some o:=λb o hb e=>hk b o (λq=>hb (by simp[q])) (λq=>hb (by simp[q])) (λq=>hb (by simp[q])) (λq=>hb (by simp[q])) e
  have nC:∀b v,H b=some v->b∉[z,TO,i1,i2]:=λb v e hb=>by rw[(inC b hb).1]at e;cases e
  have nP:∀b v,H b=some v->b≠s.heap.objs.size:=λb v e=>QT e hp
  have I1:Inv X pins σ (upd H s.heap.objs.size (.tup [x,y])) {s with heap:=h'}:=by
   refine I.step (g':=s.gens) (t':=s.toks) (d':=s.drawn) (ch:=[z,TO,i1,i2]) (λb hb=>⟨(inC b hb).2.2.2.1,(inC b hb).2.1,(inC b hb).2.2.2.2.1,(inC b hb).2.2.2.2.2⟩) (λb o _ _ hb e _=>hk' b o hb e) (λb o _ _ hb e _=>⟨o.slots,hk' b o hb e⟩)
    (λb o hb e n=>by rw[Qw (UF (Uk e))];exact n) (λb o hb e=>⟨o,hk' b o hb e⟩) (λb v e=>by rw[Qw (nP b _ e)];exact e) (λb o v e=>by rw[Qw (nP b _ e)];exact e) (λb ps e=>⟨#[],by rw[Qw (nP b _ e),e];simp⟩)
    (λm hm=>?_) (λb v e=>?_) I.bare
   ·obtain⟨o,es,ep,ho,rr⟩:=hm
    exact⟨o,es,ep,hk' _ o (λhb=>(inC _ hb).2.1 rfl) ho,rr⟩
   ·by_cases hb:b=s.heap.objs.size
    ·subst hb
     rw[Qp]at e;cases e
     exact⟨by rw[WR];show 2<=16777216;decide,[u,t],.cons ru (.cons rt .nil),⟨_,a5,rfl,_,rfl⟩⟩
    ·rw[Qw hb]at e
     refine(I.hok b v e).stay (λc' v' hc' q=>?_) (λc' q=>by rw[Qw (nP c' _ q)];exact q) λc' xs' q=>by rw[Qw (nP c' _ q)];exact q
     rcases hc' with rfl|hc'
     ·exact hk' _ _ (nC _ _ e) q
     ·exact hk' _ _ (nC _ _ hc') q
  refine⟨_,rfl,wpAny_letOwnedTupleGo_zip a1 λh'' hz'' hs''=>?_⟩
  have hpz:s.heap.objs.size≠z:=Wn (Uk hz)
  have I2:Inv X pins σ (upd H s.heap.objs.size (.tup [x,y])) {s with heap:=h''}:=Inv.turned (s:={s with heap:=h'}) (t':=s.toks) I1 (λb o hb e=>hs''.extBut b o hb e) (by rw[Qw (Ne.symm hpz)];exact fz.1) fz.2.1 fz.2.2.2.1 fz.2.2.2.2.1 fz.2.2.2.2.2
  refine⟨.ref s.heap.objs.size,_,I2,rfl,⟨_,x,y,hp,rfl,rfl,λxs' q=>by rw[q.inj I q1];exact hx,λys' q=>by rw[q.inj I q2];exact hy⟩,
   ⟨hz'',hs''.extBut _ _ D.TIz (hk _ _ D.TIz D.TITO D.TIi1 D.TIi2 hTI),⟨_,_,hs''.extBut _ _ D.TOz a2⟩,a3.at λo e=>hs''.extBut _ o D.i1z e,a4.at λo e=>hs''.extBut _ o D.i2z e⟩,λb hb=>?_⟩
  have lt:b<s.heap.objs.size:=by
   have hb':b=z\/b=TI\/b=TO\/b=i1\/b=i2:=by simpa using hb
   rcases hb' with rfl|rfl|rfl|rfl|rfl
   ·exact Uk hz
   ·exact Uk hTI
   ·exact Uk hTO
   ·exact h1.lt
   ·exact h2.lt
  rw[Qw (UF lt)]
  exact(hf b hb).1
 done:=by
  intro X hP hw hK hc i pins s σ H E I hf st hg
  subst hP hw hK
  obtain⟨xs,ys,q1,q2,hl⟩:=hg
  obtain⟨us,r1,p1⟩:=q1.real I
  obtain⟨ts,r2,p2⟩:=q2.real I
  have l1:=r1.length
  have l2:=r2.length
  obtain⟨hz,hTI,⟨a,c,hTO⟩,h1,h2⟩:=st
  have inC:∀b,b∈[z,TO,i1,i2]->FpOk X pins H b:=λb hb=>hf b (by
   have hb':b=z\/b=TO\/b=i1\/b=i2:=by simpa using hb
   rcases hb' with rfl|rfl|rfl|rfl <;> simp)
  refine Qc8 (I.ok.hd hc) D hz hTI hTO h1 h2 p1 p2 (by
   rcases hl with z|z
   ·exact .inl (by simp;omega)
   ·exact .inr (by simp;omega)) λh' hk=>⟨rfl,?_⟩
  have hk':∀b o,b∉[z,TO,i1,i2]->s.heap.get? b=some o->h'.get? b=some o:=λb o hb e=>hk b o (λq=>hb (by simp[q])) (λq=>hb (by simp[q])) (λq=>hb (by simp[q])) (λq=>hb (by simp[q])) e
  have nC:∀b v,H b=some v->b∉[z,TO,i1,i2]:=λb v e hb=>by rw[(inC b hb).1]at e;cases e
  refine I.step (g':=s.gens) (t':=s.toks) (d':=s.drawn) (ch:=[z,TO,i1,i2]) (λb hb=>⟨(inC b hb).2.2.2.1,(inC b hb).2.1,(inC b hb).2.2.2.2.1,(inC b hb).2.2.2.2.2⟩) (λb o _ _ hb e _=>hk' b o hb e) (λb o _ _ hb e _=>⟨o.slots,hk' b o hb e⟩)
   (λb o hb e n=>n) (λb o hb e=>⟨o,hk' b o hb e⟩) (λb v e=>e) (λb o v e=>e) (λb ps e=>⟨#[],by rw[e];simp⟩) (λm hm=>?_) (λb v e=>?_) I.bare
  ·obtain⟨o,es,ep,ho,rr⟩:=hm
   exact⟨o,es,ep,hk' _ o (λhb=>(inC _ hb).2.1 rfl) ho,rr⟩
  ·refine(I.hok b v e).stay (λc' v' hc' q=>?_) (λc' q=>q) λc' xs' q=>q
   rcases hc' with rfl|hc'
   ·exact hk' _ _ (nC _ _ e) q
   ·exact hk' _ _ (nC _ _ hc') q
 self:=λ_ _ _ _ _ st h=>wpAny_pyIter_zip st.1 h
section
variable{X:Cx}{ca:Nat->Addr}{e1 e2:Expr}{m1 m2:ME}{p pos tp:Pos}{elts:List Expr}{kk:Nat}
theorem QmZ{ta:TA}(hg:Gl X "zip")(hm:X.mg "zip" = none)(ha:PA X [e1,e2] ta)(hs:starEach [e1,e2] X.env=[(false,eval e1 X.env),(false,eval e2 X.env)])(hs2:starEach [e2] X.env=[(false,eval e2 X.env)]):
  PI X (.Tuple elts kk tp) (.Call (.Name "zip" p) [e1,e2] [] pos) (λσ H R=>ta σ H λvs H1=>∃b1 b2 a1 a2 xs ys,vs=[.ref a1,.ref a2]/\Sq b1 X.K H1 a1 xs/\Sq b2 X.K H1 a2 ys/\R (Itz X.K b1 b2 a1 a2) H1):=by
 intro pins s σ H R I h
 refine Call_ (Qap I hg hm boot_zip (UV (thn (ha pos pins s σ H _ I h) λus s1 ⟨vs,H1,I1,r1,q1⟩=>?_) (by rw[hs,hs2]) (by rw[hs2];rfl)))
 obtain⟨b1,b2,a1,a2,xs,ys,rfl,q1,q2,q⟩:=q1
 cases r1 with
 |cons ru rr =>
  cases rr with
  |cons rt rr =>
   cases rr
   cases ru
   cases rt
   obtain⟨its1,v1,p1⟩:=q1.real I1
   obtain⟨its2,v2,p2⟩:=q2.real I1
   refine Qje p1 p2 λh' hz hTI hTO hi1 hi2 hsz hk=>wpAny_pyIter_zip hz ?_
   have I2:Inv X pins σ H1 {s1 with heap:=h'}:=I1.kept (t':=s1.toks) hk
   refine⟨s1.heap.objs.size+4,_,_,_,H1,rfl,I2,Qjf b1 b2 _ (s1.heap.objs.size+2) (s1.heap.objs.size+3) s1.heap.objs.size (s1.heap.objs.size+1) a1 a2 (PyProof.Rows.zipApart_new p1.lt p2.lt),⟨hz,hTI,⟨_,_,hTO⟩,hi1,hi2⟩,λb hb=>?_,q⟩
   have hb':b=s1.heap.objs.size+4\/b=s1.heap.objs.size+2\/b=s1.heap.objs.size+3\/b=s1.heap.objs.size\/b=s1.heap.objs.size+1:=by simpa using hb
   have hle:s1.heap.objs.size<=b:=by rcases hb' with h|h|h|h|h <;> rw[h] <;> first|exact Uc _|exact Rs _ _
   exact I1.fpOk hle (I1.hok.fresh hle)
theorem YV{K:PySem.W.Frag}{μ:List Addr}{H:Hp}{g:G}{v:V}{d:D}{b:Bool}{ds:List D}(r:GRep K ca μ H g)(q:Den K μ H v d)(h:QB g d=some (b,ds)):∃a vs,v=.ref a/\Sq b K H a vs/\Dens K μ H vs ds:=by
 cases q with
 |@tup a vs es ht hs=>cases h;exact⟨a,vs,rfl,ht,hs⟩
 |@fl a vs es ht hs=>cases h;exact⟨a,vs,rfl,ht.sq,hs⟩
 |@ref n a hn =>
  unfold QB at h
  dsimp only at h
  cases hg:g[n]? with
  |none=>rw[hg]at h;cases h
  |some o =>
   rw[hg]at h
   obtain⟨a',ha',ob⟩:=r.addr hg
   rw[hn]at ha';cases ha'
   cases o with
   |lst es=>cases h;obtain⟨vs,hH,q⟩:=ob;exact⟨a,vs,rfl,SqL.of hH,q⟩
   |_=>cases h
 |_=>cases h
theorem QcI{K:PySem.W.Frag}{μ:List Addr}{H:Hp}{g g':G}{μ':List Addr}{H':Hp}{d:D}{v:V}{b b':Bool}{ds ds':List D}(h:QB g d=some (b,ds))(h':QB g' d=some (b',ds')):b=b':=by
 unfold QB at h h'
 cases d with
 |tup es=>cases h;cases h';rfl
 |fl es=>cases h;cases h';rfl
 |ref n =>
  dsimp only at h h'
  have k1:b=true:=by
   cases hg:g[n]? with
   |none=>rw[hg]at h;cases h
   |some o=>rw[hg]at h;cases o <;> cases h <;> rfl
  have k2:b'=true:=by
   cases hg:g'[n]? with
   |none=>rw[hg]at h';cases h'
   |some o=>rw[hg]at h';cases o <;> cases h' <;> rfl
  rw[k1,k2]
 |_=>cases h
theorem Qla{K:PySem.W.Frag}{μ:List Addr}{H:Hp}{g:G}{v1 v2:V}{d1 d2:D}{b1 b2:Bool}{xs ys:List D}{t:Nat}(q1:Den K μ H v1 d1)(q2:Den K μ H v2 d2)(h1:QB g d1=some (b1,xs))(h2:QB g d2=some (b2,ys)){a1 a2:Addr}(e1:v1=.ref a1)(e2:v2=.ref a2):
  Sim K ca μ H ⟨λg i=>(match QB g d1,QB g d2 with
  |some (_,xs),some (_,ys)=>(match xs[i]?,ys[i]? with
   |some x,some y=>some (some (.tup [x,y]))
   |_,_=>some none)
  |_,_=>none),t⟩ (Itz K b1 b2 a1 a2):=by
 intro i H1 μ1 g1 ex r
 dsimp only
 cases k1:QB g1 d1 with
 |none=>trivial
 |some p1 =>
  obtain⟨c1,xs1⟩:=p1
  cases k2:QB g1 d2 with
  |none=>trivial
  |some p2 =>
   obtain⟨c2,ys1⟩:=p2
   have f1:=QcI (K:=K) (μ:=μ) (H:=H) (μ':=μ) (H':=H) (v:=v1) h1 k1
   have f2:=QcI (K:=K) (μ:=μ) (H:=H) (μ':=μ) (H':=H) (v:=v1) h2 k2
   subst f1 f2
   obtain⟨z1,vs,w1,s1,d1s⟩:=YV r (q1.mono ex) k1
   obtain⟨z2,ws,w2,s2,d2s⟩:=YV r (q2.mono ex) k2
   rw[e1]at w1;cases w1
   rw[e2]at w2;cases w2
   dsimp only
   cases hx:xs1[i]? with
   |none =>
    refine⟨vs,ws,s1,s2,.inl ?_⟩
    rw[d1s.length];exact UZ.mp hx
   |some x =>
    cases hy:ys1[i]? with
    |none =>
     refine⟨vs,ws,s1,s2,.inr ?_⟩
     rw[d2s.length];exact UZ.mp hy
    |some y =>
     obtain⟨vx,hvx,qx⟩:=d1s.get hx
     obtain⟨vy,hvy,qy⟩:=d2s.get hy
     refine⟨⟨vs,ws,vx,vy,s1,s2,hvx,hvy⟩,λv H' yl=>?_⟩
     obtain⟨pp,x',y',hp,rfl,rfl,u1,u2⟩:=yl
     have:=u1 vs s1
     rw[hvx]at this;cases this
     have:=u2 ws s2
     rw[hvy]at this;cases this
     exact⟨QZ hp,r.new hp,.tup (.of Qp) (.cons (qx.mono (QZ hp)) (.cons (qy.mono (QZ hp)) .nil))⟩
theorem Qm0(hm:X.mg "zip" = none)(h1:PE3 ca X e1 m1)(h2:PE3 ca X e2 m2)(hg:Gl X "zip":=by rfl)(hs:starEach [e1,e2] X.env=[(false,eval e1 X.env),(false,eval e2 X.env)]:=by rfl)(hs2:starEach [e2] X.env=[(false,eval e2 X.env)]:=by rfl)(hs3:starEach [e1,e2] X.env=(false,eval e1 X.env)::starEach [e2] X.env:=by rfl):PI3 ca X (.Tuple elts kk tp) (.Call (.Name "zip" p) [e1,e2] [] pos) (Qa4 m1 m2) :=
 λpn Φ=>QeM (QmZ (X:=xat X ca pn Φ) hg hm (Yv h1 (Yv h2 Qj hs2) hs3 pn Φ) hs hs2) λσ H R hQ=>by
  obtain⟨σ3,g,μ,Rp,q⟩:=hQ
  refine⟨σ3,g,μ,Rp,?_⟩
  unfold Qa4 at q
  unfold Qb mNil
  cases hm1:m1 σ3 g with
  |raise _ _=>rw[hm1]at q;exact q
  |stuck=>rw[hm1]at q;exact q.elim
  |ok d1 g1 =>
   rw[hm1,Res.bind_ok]at q
   rw[Res.bind_ok]
   cases hm2:m2 σ3 g1 with
   |raise _ _=>rw[hm2]at q;exact q
   |stuck=>rw[hm2]at q;exact q.elim
   |ok d2 g2 =>
    rw[hm2,Res.bind_ok]at q
    rw[Res.bind_ok,Res.bind_ok,Res.bind_ok]
    intro vs H1 μ1 ex r1 q1
    cases q1 with
    |@cons v1 _ _ _ n1 q1 =>
     cases q1 with
     |@cons v2 _ _ _ n2 q1 =>
      cases q1
      unfold QcE at q
      cases k1:QB g2 d1 with
      |none=>rw[k1]at q;exact q.elim
      |some p1 =>
       obtain⟨b1,xs⟩:=p1
       cases k2:QB g2 d2 with
       |none=>rw[k1,k2]at q;exact q.elim
       |some p2 =>
        obtain⟨b2,ys⟩:=p2
        rw[k1,k2]at q
        obtain⟨a1,us,rfl,s1,_⟩:=YV r1 n1 k1
        obtain⟨a2,ts,rfl,s2,_⟩:=YV r1 n2 k2
        exact⟨b1,b2,a1,a2,us,ts,rfl,s1,s2,q _ H1 μ1 ex r1 (Qla n1 n2 k1 k2 rfl rfl)⟩
end
theorem Y5(K:PySem.W.Frag)(t c:Ty):kitOne K (.type t.name) (.type c.name)=some (tyLe t c):=by
 cases t <;> cases c <;> kernel_rfl
section
variable{X:Cx}{ca:Nat->Addr}{a b c e:Expr}{ma mb mc me:ME}{pos p p2:Pos}{k:Nat}
theorem QhG(c:Ty):CallR X (.builtin "isinstance") (λxs H Q=>∃x g μ d t,xs=[x,.ty c.name]/\GRep X.K ca μ H g/\Den X.K μ H x d/\tyOf g d=some t/\Q (.bl (tyLe t c)) H):=by
 intro pins s σ H xs us Q I rv h
 obtain⟨x,g,μ,d,t,rfl,r,q,ht,qq⟩:=h
 obtain⟨u,u2,rfl,ru,ru2⟩:=rv.two
 cases ru2
 have fin:∀tk,EP X pins σ Q (.bool (tyLe t c)) {s with toks:=tk}:=λtk=>⟨.bl _,H,I.tok tk,rfl,qq⟩
 cases q with
 |non=>cases ht;exact Ja I ru .non (Y5 X.K .non c) fin
 |bl y=>cases ht;exact Ja I ru (.bl y) (Y5 X.K .bool c) fin
 |int y=>cases ht;exact Ja I ru (.int y) (Y5 X.K .int c) fin
 |str y=>cases ht;exact Ja I ru (.str y) (Y5 X.K .str c) fin
 |@tup a vs ds hq hs =>
  cases ht
  cases ru
  obtain⟨its,_,⟨o,h1,h2,_⟩,_⟩:=I.tuple hq
  exact UY Wu I.kIn ⟨o,h1,h2⟩ (Y5 X.K .tuple c) (λz=>nomatch z) fin
 |@fl a vs ds hq hs =>
  cases ht
  cases ru
  obtain⟨its,_,p,_⟩:=I.list hq.sq
  obtain⟨o,h1,h2,_⟩:=p.isList
  exact UY Rk I.kIn ⟨o,h1,h2⟩ (Y5 X.K .list c) (λz=>nomatch z) fin
 |@ref n a hn =>
  unfold tyOf at ht
  dsimp only at ht
  cases hg:g[n]? with
  |none=>rw[hg]at ht;cases ht
  |some o =>
   rw[hg]at ht
   obtain⟨a',ha',ob⟩:=r.addr hg
   rw[hn]at ha';cases ha'
   cases o with
   |lst ds=>cases ht;obtain⟨vs,hH,_⟩:=ob;exact Ja I ru (.lst hH) (Y5 X.K .list c) fin
   |dct ks=>cases ht;obtain⟨kv,hH,_⟩:=ob;exact Ja I ru (.dK hH) (Y5 X.K .dict c) fin
   |ins _ _=>cases ht
   |exc _=>cases ht
theorem Yx{x:Str}(c:Ty)(hi:X.mg "isinstance" = none)(hm:X.mg x=none)(hv:bootBuiltins x=some (.type c.name))(he:PE3 ca X e me)(hgi:Gl X "isinstance":=by rfl)(hg:Gl X x:=by rfl)(hnm:x ≠ "__name__":=by decide)(hdb:(x == ("__debug__" : Str))=false:=by decide)(hs:starEach [e,.Name x p2] X.env=(false,eval e X.env)::starEach [.Name x p2] X.env:=by rfl)(hs2:starEach [.Name x p2] X.env=(false,eval (.Name x p2) X.env)::starEach [] X.env:=by rfl)(hpl:(backTo pos (starEach [.Name x p2] X.env)).any (·.1)=false:=by rfl):
  PE3 ca X (.Call (.Name "isinstance" p) [e,.Name x p2] [] pos) (mOp1 (ZV c) me) :=
 λpn Φ=>Q6 (Qbh (X:=xat X ca pn Φ) (QhG (ca:=ca) c) hgi hi boot_isinstance (Qah (X:=xat X ca pn Φ) (he pn Φ) (Qah (X:=xat X ca pn Φ) (QeD (X:=xat X ca pn Φ) (v:=.ty c.name) hg hm hv rfl hnm hdb) Qfp hs2) hs) (by decide) (by decide) hs hpl) λσ H Q ⟨σ3,g,μ,R,q⟩ =>
  Q5 (Jm R q) λy H1 hQ=>by
   obtain⟨d,g1,μ1,e1,R1,q1,p1⟩:=hQ
   unfold ZV at p1
   cases ht:tyOf g1 d with
   |none=>rw[ht]at p1;exact p1.elim
   |some t=>rw[ht]at p1;exact⟨y,g1,μ1,d,t,rfl,R1.g,q1,ht,p1 _ H1 μ1 .refl R1.g (.bl _)⟩
theorem QfH{K:PySem.W.Frag}{μ:List Addr}{H:Hp}:∀{vs:List V}{ds:List D}{us:List Value}{b:Bool},Dens K μ H vs ds->Vals vs us->allB ds=some b->∃bs:List Bool,us=bs.map Value.bool/\bs.all id=b
 |_,_,_,b,.nil,.nil,h=>by cases h;exact⟨[],rfl,rfl⟩
 |_,_,_,b,@Dens.cons _ _ _ _ _ _ ds q qs,.cons r rs,h=>by
  cases q with
  |bl c =>
   unfold allB at h
   cases hd:allB ds with
   |none=>rw[hd]at h;cases h
   |some d =>
    rw[hd]at h
    cases h
    obtain⟨bs,h1,h2⟩:=QfH qs rs hd
    cases r
    exact⟨c::bs,by rw[h1];rfl,by simp[h2]⟩
  |_=>cases h
theorem QhH(bs:List Bool):((List.range bs.length).all λi=>(bs[i]?).getD true)=bs.all id:=by
 rw[T7,Tp,Tp]
 constructor
 ·intro h b hb
  obtain⟨i,hi,rfl⟩:=Th hb
  have:=h i (Tt.mpr hi)
  simpa[hi]using this
 ·intro h i hi
  have hi':=Tt.mp hi
  have:=h bs[i] (UL hi')
  simpa[hi']using this
theorem QhI(hc:X.calm=true):CallR X (.builtin "all") (λxs H Q=>∃p vs ds μ b,xs=[.ref p]/\SqL X.K H p vs/\Dens X.K μ H vs ds/\allB ds=some b/\Q (.bl b) H):=by
 intro pins s σ H xs us Q I rv h
 obtain⟨l,vs,ds,μ,b,rfl,hq,q,hb,qq⟩:=h
 obtain⟨u,rfl,ru⟩:=rv.one
 cases ru
 obtain⟨its,rs,pl,_⟩:=I.list hq
 obtain⟨bs,rfl,e2⟩:=QfH q rs hb
 have hl:=pl.isList
 have hlt:l<s.heap.objs.size:=by obtain⟨_,e,_⟩:=hl;exact Uk e
 refine call_all_walk (RJ hl ⟨s.heap.objs.size,[s.heap.objs.size,l],[s.heap.objs.size],_,_,_,λi=>(bs[i]?).getD true,rfl,Walks.list (A:=X.A.in1) (show X.A.in1.handled=none from I.ok.hd hc) _ l (UF hlt) _,⟨⟨_,Uo _ rfl,rfl,rfl⟩,hl.push _⟩,λi v s' Q' E' hP hQ=>?_,λh' tk hk=>?_⟩)
 ·have hP:(bs.map Value.bool).toArray[i]?=some v:=hP
  rw[Tw,UA]at hP
  cases hi:bs[i]? with
  |none=>rw[hi]at hP;cases hP
  |some c =>
   rw[hi]at hP
   cases hP
   simp only[hi,Option.getD_some]at hQ
   exact TK hQ
 ·have kept:∀c o,s.heap.get? c=some o->h'.get? c=some o:=λc o e=>hk c o (λhm=>by rw[Uz.mp hm]at e;exact Tc _ (Uk e)) (Ub _ e)
  have ea:((List.range (bs.map Value.bool).toArray.size).all λi=>(bs[i]?).getD true)=b:=by
   rw[Uf,Uw,QhH,e2]
  rw[ea]
  exact⟨.bl b,H,I.kept kept,rfl,qq⟩
theorem Qlb(hc:X.calm=true)(hm:X.mg "all" = none)(he:PE3 ca X e me)(hg:Gl X "all":=by rfl)(hs:starEach [e] X.env=[(false,eval e X.env)]:=by rfl)(hpl:(backTo pos (starEach [] X.env)).any (·.1)=false:=by rfl):
  PE3 ca X (.Call (.Name "all" p) [e] [] pos) (mOp1 pAll me) :=
 Qjd (r:=λxs H Q=>∃p vs ds μ b,xs=[V.ref p]/\SqL X.K H p vs/\Dens X.K μ H vs ds/\allB ds=some b/\Q (.bl b) H) (λpn Φ=>QhI (X:=xat X ca pn Φ) hc) hm boot_all (λΦ σ H μ g y d Q r q pp=>by
  unfold pAll at pp
  cases q with
  |@ref n t hn =>
   dsimp only at pp
   cases hgn:g[n]? with
   |none=>rw[hgn]at pp;exact pp.elim
   |some ob =>
    rw[hgn]at pp
    obtain⟨t',ht',orp⟩:=r.addr hgn
    rw[hn]at ht';cases ht'
    cases ob with
    |lst ds =>
     obtain⟨vs,hH,q⟩:=orp
     dsimp only at pp
     cases hb:allB ds with
     |none=>rw[hb]at pp;exact pp.elim
     |some b=>rw[hb]at pp;exact⟨t,vs,ds,μ,b,rfl,.of hH,q,hb,pp _ H μ .refl r (.bl _)⟩
    |_=>exact pp.elim
  |_=>exact pp.elim) he hg (by decide) (by decide) hs hpl
theorem Qjg{K:PySem.W.Frag}{Φ:XS}{r r':R2}{f f':D->D->G->Res D}(h1:Jo K ca r f)(h2:Jo K ca r' f')(σ:L2.St)(H:Hp)(Q:VK)(h:up K ca Φ (QcD f f' ma mb mc) σ H Q):Qj4 r r' (up K ca Φ ma) (up K ca Φ mb) (up K ca Φ mc) σ H Q:=by
 obtain⟨σ3,g,μ,R,p⟩:=h
 refine Q5 (Jm R p) λx H1 ⟨dx,g1,μ1,e1,R1,q1,p1⟩=>?_
 refine Q5 (Jm R1 p1) λy H2 ⟨dy,g2,μ2,e2,R2,q2,p2⟩=>?_
 refine h1 Φ σ H2 μ2 g2 x y dx dy _ R2.g (q1.mono e2) q2 ?_
 cases hf:f dx dy g2 with
 |raise _ _=>rw[hf]at p2;exact p2
 |stuck=>rw[hf]at p2;exact p2.elim
 |ok z g3 =>
  rw[hf,Res.bind_ok]at p2
  intro v H3 μ3 e3 r3 q3
  cases q3 with
  |bl t =>
   refine⟨t,rfl,?_⟩
   cases t with
   |true =>
    rw[Ud rfl]
    dsimp only at p2
    refine Q5 (Jm (R2.go e3 r3) (p2.go e3)) λw' H4 ⟨dw,g4,μ4,e4,R4,q4,p4⟩=>?_
    exact h2 Φ σ H4 μ4 g4 y w' dy dw Q R4.g ((q2.mono e3).mono e4) q4 p4
   |false =>
    rw[Ue Ug]
    exact p2 _ H3 μ3 e3 r3 (.bl _)
  |_=>exact p2.elim
theorem Qm1(ha:PE3 ca X a ma)(hb:PE3 ca X b mb)(hc:PE3 ca X c mc)(hm:lastMarks [.LtE,.Lt] [b,c]=false:=by with_unfolding_all rfl):PE3 ca X (.Compare a [.LtE,.Lt] [b,c] pos) (QcD pLe pLt ma mb mc) :=
 λpn Φ=>Q6 (QiY (X:=xat X ca pn Φ) Qmp Qmo (ha pn Φ) (hb pn Φ) (hc pn Φ) hm) (Qjg (YU _) (YU _))
theorem Qkc{K:PySem.W.Frag}{μ:List Addr}{H:Hp}{v:V}{d:D}(q:Den K μ H v d)(h:Qcp d=true):Qcm v=true:=by cases q <;> first|rfl|cases h
theorem QhJ{K:PySem.W.Frag}{μ:List Addr}{H:Hp}:∀{vs:List V}{ds:List D},Dens K μ H vs ds->ds.all Qcp=true->vs.all Qcm=true
 |_,_,.nil,_=>rfl
 |_,_,.cons q qs,h=>by
  rw[RX,UR]at h ⊢
  exact⟨Qkc q h.1,QhJ qs h.2⟩
theorem Qop{K:PySem.W.Frag}{μ:List Addr}{H:Hp}{v w:V}{d e:D}(q:Den K μ H v d)(q':Den K μ H w e)(h:Qcp d=true)(h':Qcp e=true):eqV v w=eqF d e:=by
 cases q <;> cases q' <;> first|rfl|cases h|cases h'
theorem Qm2{K:PySem.W.Frag}{μ:List Addr}{H:Hp}{w:V}{e:D}(q':Den K μ H w e)(h':Qcp e=true):∀{vs:List V}{ds:List D},Dens K μ H vs ds->ds.all Qcp=true->(vs.any λy=>eqV y w)=ds.any λd=>eqF d e
 |_,_,.nil,_=>rfl
 |_,_,.cons q qs,h=>by
  rw[RX,UR]at h
  rw[TW,TW,Qop q q' h.1 h',Qm2 q' h' qs h.2]
theorem Qlc{K:PySem.W.Frag}(neg:Bool):Jo K ca (rIn K neg) (pIn neg):=by
 intro Φ σ H μ g x y dx dy Q r qx qy p
 unfold pIn at p
 cases hs:QB g dy with
 |none=>rw[hs]at p;exact p.elim
 |some pr =>
  obtain⟨bb,ds⟩:=pr
  rw[hs]at p
  dsimp only at p
  by_cases z:Qcp dx=true/\ds.all Qcp=true
  ·rw[Ud z]at p
   obtain⟨a,vs,rfl,sq,qs⟩:=YV r qy hs
   refine⟨a,vs,rfl,?_,Qkc qx z.1,QhJ qs z.2,p _ H μ .refl r ?_⟩
   ·cases bb
    ·exact .inr sq
    ·exact .inl sq
   ·unfold inV
    rw[Qm2 qx z.1 qs z.2]
    cases neg <;> exact .bl _
  ·rw[Ue z]at p;exact p.elim
theorem r_in(ha:PE3 ca X a ma)(hb:PE3 ca X b mb)(hm:behindInMarks .In b=false:=by rfl):PE3 ca X (.Compare a [.In] [b] pos) (mOp2 (pIn false) ma mb):=Qhp (λ_ _=>Qhf) (Qlc false) ha hb hm
end
section
variable{prog:Program}{w:World}{A:Around}{E:Value->Shared->Prop}{s:Shared}
theorem QaR{t sl:Addr}{items:Array Value}{vl vu:Value}{lo hi:Option Int}{Q:Value->Shared->Prop}(ht:IsTup s.heap t items)(hs:s.heap.IsSliceOf sl vl vu .none)(pl:IsPart vl lo)(pu:IsPart vu hi)(h1:HT.sIx items.size 0 lo=0)(h2:HT.sIx items.size items.size hi=items.size)(h:Q (.ref t) s):wpAny (model prog w) A (getItem (.ref t) (.ref sl)) Q E s:=by
 obtain⟨os,hos,hcs,hds⟩:=id hs
 have hTs:s.TypeIs (.ref sl) "slice":=⟨os,hos,hcs⟩
 unfold getItem
 try with_reducible refine TU ?_
 first|refine Ua (Uj ?_)|skip
 refine Ua (wpAny_sequenceKey ht.typeIs (by decide) ?_)
 refine Ua (Tm (name:=Str.ofString "__getitem__") ht.typeIs UW (TV UW ht.typeIs entry_tuple_getitem ?_ (args_tuple_getitem _ _)))
 show wpAny _ _ (Builtin.Tuple.tupleItemsOf (.ref t) >>= _) _ _ s
 refine Ua (tupleItemsOf_ ht (Ua (RO hTs ?_)))
 rw[Ud (by decide)]
 refine Ua (HT.sliceApplied_gen hs pl pu ?_)
 rw[h1,h2]
 show wpAny _ _ (if (((0:Nat):Int) == 0 && (1:Int) == 1 && (items.size-0) == items.size)=true then _ else _) _ _ s
 rw[Ud (by simp)]
 unfold Builtin.Tuple.tupleIsExact
 refine Ua (Ua (RO ht.typeIs (Uj ?_)))
 rw[Ud (by decide)]
 exact Ua (Ri (Uj ⟨_,rfl,Uj h⟩))
end
theorem Qjh(n d:Nat)(o:Option Int):HT.sIx n d o=sIxD n d o:=by cases o <;> rfl
theorem Dens.cut{K:PySem.W.Frag}{μ:List Addr}{H:Hp}{vs:List V}{ds:List D}(lo hi:Option Int)(h:Dens K μ H vs ds):Dens K μ H (cutV vs lo hi) (cutD ds lo hi):=by
 unfold cutV cutD
 rw[Qjh,Qjh,h.length]
 exact(h.drop _).take _
section
variable{X:Cx}{ca:Nat->Addr}{e:Expr}{me:ME}{lo hi:Option Expr}{ml mh:MO}{pos p2:Pos}
theorem QhK:SlR X (λx lo hi H Q=>∃a xs,x=.ref a/\SqT X.K H a xs/\(HT.sIx xs.length 0 lo=0/\HT.sIx xs.length xs.length hi=xs.length)/\Q (.ref a) H):=by
 intro pins s σ H x v vl vu lo hi sl Q I rx hs pl pu h
 obtain⟨a,xs,rfl,hx,hw,q⟩:=h
 cases rx
 obtain⟨its,r,ht,hz⟩:=I.tuple hx
 have hlen:its.toArray.size=xs.length:=by rw[Uf];exact r.length.symm
 refine⟨"tuple",_,UW.lookup,ht.typeIs,?_⟩
 exact QaR ht hs pl pu (by rw[hlen];exact hw.1) (by rw[hlen];exact hw.2) ⟨.ref a,H,I,rfl,q⟩
noncomputable def upO(K:PySem.W.Frag)(ca:Nat->Addr)(Φ:XS)(m:MO):TO:=λσ H Q=>∃σ3 g μ,Rep K ca μ σ3 g σ H/\match m σ3 g with
 |.ok o g'=>∀H' μ',Ext K μ H μ' H'->GRep K ca μ' H' g'->Q o H'
 |.raise x g'=>RaP K ca Φ σ H μ x g'
 |.stuck=>False
noncomputable def PO3(ca:Nat->Addr)(X:Cx)(e:Option Expr)(m:MO):Prop:=∀pn Φ,PO (xat X ca pn Φ) e (upO X.K ca Φ m)
theorem Qda:PO3 ca X none JD:=λpn Φ pins s σ H Q I ⟨_,_,μ,R,p⟩=>QkU (X:=xat X ca pn Φ) pins s σ H Q I (p H μ .refl R.g)
theorem QhL(he:PE3 ca X e me):PO3 ca X (some e) (Qco me):=λpn Φ pins s σ H Q I hQ=>by
 obtain⟨σ3,g,μ,R,p⟩:=hQ
 refine QkV (X:=xat X ca pn Φ) (he pn Φ) pins s σ H Q I ⟨σ3,g,μ,R,?_⟩
 unfold Qco at p
 cases hm:me σ3 g with
 |raise _ _=>rw[hm]at p;exact p
 |stuck=>rw[hm]at p;exact p
 |ok d g1 =>
  rw[hm,Res.bind_ok]at p
  intro v H1 μ1 e1 r1 q1
  cases q1 with
  |int i=>exact⟨i,rfl,p H1 μ1 e1 r1⟩
  |_=>exact p.elim
theorem Qld{α:Type}(xs:List α)(lo hi:Option Int)(h1:sIxD xs.length 0 lo=0)(h2:sIxD xs.length xs.length hi=xs.length):cutD xs lo hi=xs:=by
 unfold cutD
 rw[h1,h2];simp
theorem QeP(he:PE3 ca X e me)(hl:PO3 ca X lo ml)(hh:PO3 ca X hi mh):PE3 ca X (.Subscript e (.Slice lo hi none p2) pos) (Qar me ml mh):=λpn Φ =>
 Q6 (Qi3 (X:=xat X ca pn Φ) ((sl_tup.or QhK).or QkX) (he pn Φ) (hl pn Φ) (hh pn Φ)) λσ H Q ⟨σ3,g,μ,R,p⟩=>Q5 (Jm R p) λx H1 hQ=>by
  obtain⟨d,g1,μ1,e1,R1,q1,p1⟩:=hQ
  refine⟨σ3,g1,μ1,R1,?_⟩
  cases hm:ml σ3 g1 with
  |raise _ _=>rw[hm]at p1;exact p1
  |stuck=>rw[hm]at p1;exact p1
  |ok l g2 =>
   rw[hm,Res.bind_ok]at p1
   intro H2 μ2 e2 r2
   refine⟨σ3,g2,μ2,R1.go e2 r2,?_⟩
   cases hm2:mh σ3 g2 with
   |raise _ _=>rw[hm2]at p1;exact RaP.go e2 p1
   |stuck=>rw[hm2]at p1;exact p1
   |ok u g3 =>
    rw[hm2,Res.bind_ok]at p1
    intro H3 μ3 e3 r3
    have p3:=Post.go (e2.trans e3) p1
    have q3:=(q1.mono e2).mono e3
    unfold QbC at p3
    cases q3 with
    |@tup a vs ds ht hs =>
     by_cases hw:HT.sIx vs.length 0 l=0/\HT.sIx vs.length vs.length u=vs.length
     ·refine .inl (.inr ⟨a,vs,rfl,ht,hw,p3 _ H3 μ3 .refl r3 ?_⟩)
      rw[Qld ds l u (by rw[<-Qjh,<-hs.length];exact hw.1) (by rw[<-Qjh,<-hs.length];exact hw.2)]
      exact .tup ht hs
     ·exact .inl (.inl ⟨a,vs,rfl,ht,hw,λt ht'=>p3 _ _ μ3 (QZ ht') (r3.new ht') (.tup (.of Qp) ((hs.cut l u).mono (QZ ht')))⟩)
    |@fl a vs ds ht hs =>
     refine .inr ⟨a,vs,rfl,ht.sq,λt ht'=>p3 _ _ (μ3++[t]) (Qt ht') (r3.push ht' ⟨_,Qp,(hs.cut l u).mono (Qt ht')⟩) (.ref ?_)⟩
     rw[<-r3.len];simp
    |@ref n a hn =>
     dsimp only at p3
     cases hg:g3[n]? with
     |none=>rw[hg]at p3;exact p3.elim
     |some o =>
      rw[hg]at p3
      obtain⟨a',ha',ob⟩:=r3.addr hg
      rw[hn]at ha';cases ha'
      cases o with
      |lst ds =>
       obtain⟨vs,hH,hs⟩:=ob
       refine .inr ⟨a,vs,rfl,.of hH,λt ht'=>p3 _ _ (μ3++[t]) (Qt ht') (r3.push ht' ⟨_,Qp,(hs.cut l u).mono (Qt ht')⟩) (.ref ?_)⟩
       rw[<-r3.len];simp
      |_=>exact p3.elim
    |_=>exact p3.elim
end
abbrev bmV:List Value:=[.type "ValueError",.type "Exception",.type "BaseException",.type "object"]
section
variable{prog:Program}{w:World}{A:Around}{E:Value->Shared->Prop}{s:Shared}{K:PySem.W.Frag}{C e:Addr}{oe:Obj}{vs:Array Value}
end
section
variable{X:Cx}{ca:Nat->Addr}{e:Expr}{me:ME}{pos p p2:Pos}{all cs:List Nat}
end
section
variable{K:PySem.W.Frag}{C:Addr}{x:Str}{mg:Str->Option Value}{h:Heap}
theorem Qle(X:K.In h)(e:mg x=some (.ref C))(q:excIn K C bmV "ValueError.__new__" = true):OwnCls x C bmV "ValueError.__new__" mg h:=by
 refine⟨e,?_⟩
 unfold excIn at q
 split at q
 ·rename_i dd cd sl ho
  split at q
  ·rename_i C' bm k0 k1 k2 k3 n k5 hm hs
   simp only[UR,TR,Bool.not_eq_true']at q
   obtain⟨⟨⟨⟨⟨rfl,rfl⟩,hdel⟩,ht⟩,hok⟩,hni⟩:=q
   obtain⟨nm,bs,mro,ns,qn,hd,sn,sub,ab,col,del⟩:=cd
   dsimp only at hm hdel hok hni
   subst hm hdel
   have hsl:sl = #[k0,k1,k2,k3,some (.builtin "ValueError.__new__"),k5]:=by
    obtain⟨l⟩:=sl
    simp only at hs
    rw[hs]
   subst hsl
   exact⟨bm,ns,nm,qn,bs,hd,sn,sub,ab,col,dd,k0,k1,k2,k3,k5,_,X _ _ ho,.of_isNs (isNs_of_in X hok),nsMap_none_of_in X hok hni,tail_of_in X ht⟩
  ·cases q
 ·cases q
end
theorem Inv.there'{X:Cx}{pins:List (Addr×Obj)}{σ:L2.St}{H:Hp}{s:Shared}{a:Addr}{o:HO}(I:Inv X pins σ H s)(h:H a=some o):∃u,s.heap.get? a=some u:=by
 have:=I.hok a o h
 cases o with
 |lst xs=>obtain⟨_,_,_,_,e⟩:=this;exact⟨_,e⟩
 |tup xs=>obtain⟨_,_,_,u,e,_⟩:=this;exact⟨u,e⟩
 |dK kvs=>obtain⟨_,_,_,_,u,_,_,e,_⟩:=this;exact⟨u,e⟩
 |dT kvs=>obtain⟨_,_,_,_,u,_,_,e,_⟩:=this;exact⟨u,e⟩
 |set S n=>obtain⟨u,_,_,_,e,_⟩:=this;exact⟨u,e⟩
 |ins C dx fs=>obtain⟨_,_,_,e,_⟩:=this;exact⟨_,e⟩
 |own y=>exact this
 |xd fs=>obtain⟨_,⟨_,_,_,e,_⟩,_⟩:=this;exact⟨_,e⟩
 |met f x=>exact⟨_,this⟩
 |rng lo hi=>obtain⟨_,_,_,e⟩:=this;exact⟨_,e⟩
 |frz u v=>exact⟨_,this.1⟩
 |tbl ps=>exact⟨_,this⟩
 |ext φ=>exact this.2.1
structure RaH(K:PySem.W.Frag)(mg:Str->Option Value)(ca:Nat->Addr)(c:Nat)(x:Str):Prop where
 at':mg x=some (.ref (ca c))
 ex:excIn K (ca c) bmV "ValueError.__new__" = true
section
variable{X:Cx}{ca:Nat->Addr}{e:Expr}{es:List Expr}{mr:MA}{np cpos pos:Pos}{c:Nat}{x:Str}
theorem Qlf(h:RaH X.K X.mg ca c x)(hh:X.A.handled=none)(ha:PA3 ca X (e::es) mr)(hg:Gl X x:=by rfl)(hdb:(x == ("__debug__" : Str))=false:=by decide)(he:starEach (e::es) X.env=(false,eval e X.env)::starEach es X.env:=by rfl)(hpl:(backTo cpos (starEach es X.env)).any (·.1)=false:=by rfl):PS3 ca X (.Raise (some (.Call (.Name x np) (e::es) [] cpos)) none pos) (Qfs c mr):=by
 intro pn Φ pins s σ H En I ⟨σ3,g,μ,R,p⟩
 obtain⟨bm,N,nm,q,bs,hdct,sn,sub,ab,col,dd,k0,k1,k2,k3,k5,mN,hC,hN,hni,T⟩:=(Qle (h:=X.base) I.ok.mod.kin h.at' h.ex).obj
 refine wpAny_Raise_call_subT (C:=ca c) (nm:=nm) (q:=q) (N:=N) (bs:=bs) (bm:=bm) (hdct:=hdct) (sn:=sn) (sub:=sub) (ab:=ab) (col:=col) (dd:=dd) (k0:=k0) (k1:=k1) (k2:=k2) (k3:=k3) (k5:=k5)
  Wr (mN:=mN) (T.hasType Wr.hasBase) hh ?_ hni (QaM I hg h.at' ⟨rfl,?_⟩ hdb)
 ·show(backTo cpos (starEach (e::es) X.env)).any (·.1)=false
  rw[he]
  show(false || (backTo cpos (starEach es X.env)).any (·.1))=false
  rw[hpl];rfl
 ·have z:upA X.K ca Φ mr σ H λvs H1=>vs.length<=sizeLine/\Φ (c,none) σ H1:=by
   refine⟨σ3,g,μ,R,?_⟩
   unfold Qfs at p
   cases hm:mr σ3 g with
   |raise _ _=>rw[hm]at p;exact RaP.stmt R p
   |stuck=>rw[hm]at p;exact p
   |ok ds g1 =>
    rw[hm]at p
    dsimp only at p
    intro vs H1 μ1 e1 r1 q1
    by_cases hz:ds.length<=SZ
    ·rw[Ud hz]at p
     exact⟨q1.sz hz,p σ H1 μ1 e1 (R.go e1 r1)⟩
    ·rw[Ue hz]at p;exact p.elim
  have az:=ha pn Φ cpos pins s σ H _ I z
  have he':starEach (e::es) (xat X ca pn Φ).env=(false,eval e X.env)::starEach es X.env:=he
  show wpAny _ _ (evalArgs (.ref (ca c)) true (backTo cpos (starEach (e::es) X.env)) []) _ _ s
  rw[he']at az
  rw[he]
  refine Calls.evalArgs_plain (Tf az (λus s2 ⟨vs,H1,I1,r1,hz,hΦ⟩=>⟨rfl,by rw[<-r1.length];exact hz,I1.bk _ _ hC,hN.keeps I1.bk,T.keeps I1.bk,λh' ea hm=>?_⟩) λ_ _ y=>y)
  have I2:Inv (xon X pn) [] σ H1 s2:=(Qj9 I1).pins_of λp hp=>absurd hp (by simp)
  have I3:Inv (xon X pn) [] σ H1 {s2 with heap:=h'}:=I2.kept (t':=s2.toks) hm.keeps
  have hn:H1 ea=none:=by
   cases hq:H1 ea with
   |none=>rfl
   |some o =>
    obtain⟨o',ho'⟩:=Inv.there' I2 hq
    rw[hm.new]at ho';cases ho'
  obtain⟨t,ht,_⟩:=hm.there
  exact⟨ea,(c,none),σ,H1,rfl,I3,⟨Qfx I2 hm.new hn,rfl,_,_,ht,⟨rfl,rfl⟩,rfl,by simp,.inl rfl⟩,hΦ⟩
end
structure CatX(K:PySem.W.Frag)(ca:Nat->Addr)(C:Addr)(cs no:List Nat):Prop where
 ci:(clsIn K C).isSome=true
 ty:typeIn K (.ref C)=some (.type "type")
 sb:subIn K (.ref C) (.type "BaseException")=some true
 yes:∀c∈cs,subIn K (.ref (ca c)) (.ref C)=some true
 no':∀c∈no,subIn K (.ref (ca c)) (.ref C)=some false
section
variable{prog:Program}{w:World}{A:Around}{E:Value->Shared->Prop}{s:Shared}{K:PySem.W.Frag}{ca:Nat->Addr}{C D e:Addr}{oe:Obj}{cs no:List Nat}{b:Bool}
theorem QhM{Q:Bool->Shared->Prop}(X:K.In s.heap)(F:CatX K ca C cs no)(hx:s.heap.get? e=some oe)(hc:oe.cls=.ref D)(hs:subIn K (.ref D) (.ref C)=some b)(h:Q b s):wpAny (model prog w) A (excMatches (.ref e) (.ref C)) Q E s:=by
 obtain⟨hh,g,d,t,os⟩:=s
 have L0:=looks_typeIn (M:=model prog w) X F.ty
 have L1:=looks_subIn (M:=model prog w) X F.sb
 have L2:=looks_subIn (M:=model prog w) X hs
 have L3:Looks (model prog w) hh (isType (.ref C)) true:=by
  obtain⟨cd,hc⟩:=WQ.mp F.ci
  unfold clsIn at hc
  split at hc
  ·rename_i c' d' cd' sl' ho
   intro A' Q' E' s' k q
   unfold isType loadHead
   exact Ua (wpAny_loadPart (k _ _ (X _ _ ho)) (Uj q))
  ·cases hc
 have f:=tc_notTuple
 unfold excMatches isInstance
 refine Ua (Ua (L0.at (wpAny_of_eq f ?_)))
 simp only[Rh,WK]
 refine Ua (Uj ?_)
 simp only[Wd,WA]
 unfold isExcClass
 refine Ua (Ua (Ua (Ua (L3.at ?_))))
 rw[Ud rfl]
 refine L1.at ?_
 simp only[Bool.not_true,Rh,WK]
 refine Uj (Uj ?_)
 have L4:Looks (model prog w) hh (typeOf (.ref e)) (.ref D):=hc ▸ (Looks.ld hx).andThen .now
 refine Ua (L4.at (Ua (Ua (Ua (L2.at ?_)))))
 cases b with
 |true=>rw[Ud rfl];exact Uj (Uj (Uj h))
 |false=>rw[Ue Ug];exact Uj (Uj (Uj h))
end
noncomputable abbrev xmk(X:Cx)(v:Value):Cx:={X with A:=X.A.mark (some v),calm:=false}
section
variable{X:Cx}{ca:Nat->Addr}{pins:List (Addr×Obj)}{σ:L2.St}{H:Hp}{s:Shared}{a:Addr}{x:Xc}
theorem Qkd(v:Value)(I:Inv X pins σ H s):Inv (xmk X v) pins σ H s :=
 ⟨⟨I.ok.mod,I.ok.kind,I.ok.glob,I.ok.blt,I.ok.above,I.ok.inj,I.ok.has,I.ok.cab,(λz=>by cases z),I.ok.frames,I.ok.stk,I.ok.exf,I.ok.bs,I.ok.bsz,I.ok.noex,I.ok.exfs,I.ok.funs,I.ok.frf⟩,I.os,I.bare,I.base,I.loc,I.cell,I.free,I.freeC,I.pin,I.hok,I.len⟩
theorem QfI{v:Value}(h:X.calm=true->X.A.handled=none)(I:Inv (xmk X v) pins σ H s):Inv X pins σ H s :=
 ⟨⟨I.ok.mod,I.ok.kind,I.ok.glob,I.ok.blt,I.ok.above,I.ok.inj,I.ok.has,I.ok.cab,h,I.ok.frames,I.ok.stk,I.ok.exf,I.ok.bs,I.ok.bsz,I.ok.noex,I.ok.exfs,I.ok.funs,I.ok.frf⟩,I.os,I.bare,I.base,I.loc,I.cell,I.free,I.freeC,I.pin,I.hok,I.len⟩
end
section
variable{X:Cx}{ca:Nat->Addr}{body suite:List Stmt}{b0:Stmt}{mb mc:MS}{np hpos pos:Pos}{C:Addr}{cs no:List Nat}{T n:Str}
theorem Qm3{Y:Cx}{pn pins:List (Addr×Obj)}{E E':Value->Shared->Prop}{σ:L2.St}{H:Hp}{s:Shared}(I:Inv {Y with pn:=pn,xe:=E} pins σ H s):Inv {Y with pn:=pn++pins,xe:=E'} [] σ H s :=
 ⟨⟨I.ok.mod,I.ok.kind,I.ok.glob,I.ok.blt,I.ok.above,I.ok.inj,I.ok.has,I.ok.cab,I.ok.hd,I.ok.frames,I.ok.stk,I.ok.exf,I.ok.bs,I.ok.bsz,I.ok.noex,I.ok.exfs,I.ok.funs,I.ok.frf⟩,I.os,I.bare,I.base,I.loc,I.cell,I.free,I.freeC,λp hp=>I.pin p (by rw[UJ]at hp;exact hp),I.hok,I.len⟩
theorem QbM{Y:Cx}{pn pins:List (Addr×Obj)}{E E':Value->Shared->Prop}{σ:L2.St}{H:Hp}{s:Shared}(I:Inv {Y with pn:=pn++pins,xe:=E} [] σ H s):Inv {Y with pn:=pn,xe:=E'} pins σ H s :=
 ⟨⟨I.ok.mod,I.ok.kind,I.ok.glob,I.ok.blt,I.ok.above,I.ok.inj,I.ok.has,I.ok.cab,I.ok.hd,I.ok.frames,I.ok.stk,I.ok.exf,I.ok.bs,I.ok.bsz,I.ok.noex,I.ok.exfs,I.ok.funs,I.ok.frf⟩,I.os,I.bare,I.base,I.loc,I.cell,I.free,I.freeC,λp hp=>I.pin p (by rw[UJ];exact hp),I.hok,I.len⟩
theorem QhN{pn:List (Addr×Obj)}{σ:L2.St}{H:Hp}{s:Shared}{a:Addr}{x:Xc}{oe:Obj}{R:Result->Shared->Prop}{b:Bool}(I:Inv (xon X pn) [] σ H s)(hT:X.mg T=some (.ref C))(F:CatX X.K ca C cs no)(he:s.heap.get? a=some oe)(ho:XOb ca x oe)(hs:subIn X.K (.ref (ca x.1)) (.ref C)=some b)(hg:Gl X T)(hdb:(T == ("__debug__" : Str))=false)(h:R (.ok (if b then .brk else .next)) s):
  codeAny (model X.prog X.w) (X.A.mark (some (.ref a))) (.handlers (.ref a) [.ExceptHandler (some (.Name T np)) none [] hpos] X.env) R s :=
 codeAny_handlers_test (QaM (X:=xmk (xon X pn) (.ref a)) (Qkd _ I) hg hT (QhM I.kIn F he ho.1 hs h) hdb)
theorem Qlg{pn pins:List (Addr×Obj)}{Φ:XS}{σ:L2.St}{H:Hp}{s:Shared}{a:Addr}{x:Xc}{Q:Flow->Shared->Prop}(hf:X.env.frame=some X.env.locals)(I:Inv (xon X (pn++pins)) [] σ H s)(fl:FlT (xon X (pn++pins)) ca a x H s.heap)(h:Φ x σ H):
  wpAny (model X.prog X.w) X.A (handleBy (.ref a) X.env []) Q (xat X ca pn Φ).xe s:=by
 refine wpAny_handleBy_nil ?_
 unfold PySem.passOn
 obtain⟨fp,ln,oe,vs,T,oT,ts,he,hc,hd,hv,hTa,fT,hT,hdT,hs3⟩:=id fl
 refine Ua (UT he hd hv ?_)
 rw[Ue (show ¬((Value.ref T == Value.none)=true) from by simp)]
 refine Ua (JG (fo:=X.env.frame) I fl λh2 T oT ts oe vs I2 a1 a2 a3 a4 a5 a6 a7 a8 a9 a10=>wpAny_throw ?_)
 rw[hf]at a10
 have dn:∀{b:Addr},FpW (xon X (pn++pins)) [] H b->FpW (xon X pn) [] H b:=λz=>⟨z.1,z.2.1,z.2.2.1,z.2.2.2.1,z.2.2.2.2.1,λp hp=>z.2.2.2.2.2 p (by rw[UJ]at hp ⊢;exact Ro _ hp)⟩
 exact⟨a,x,σ,H,rfl,(QbM (Y:=X) I2).pins_of λp hp=>absurd hp (by simp),FlN.fl ⟨dn fp,ln,oe,vs,T,oT,ts,a1,a2,a3,a4,a5,dn a6,a7,a8,a10⟩,h⟩
theorem Qji{hs:List MH}{h0:ExceptHandler}{hr:List ExceptHandler}(hb:PSs3 ca X body mb)(hk:X.stack=X.env::X.outer)(hf:X.env.frame=some X.env.locals)(hh:∀(pn pins:List (Addr×Obj)) (Φ:XS) (En:Ends) (σ:L2.St) (H:Hp) (s:Shared) (a:Addr) (x:Xc) (σ3:S3) (g:G) (μ:List Addr),(X.calm=true->X.A.handled=none)->Inv (xon X (pn++pins)) [] σ H s->FlT (xon X (pn++pins)) ca a x H s.heap->Rep X.K ca μ σ3 g σ H->PostS X.K ca Φ En H μ (runH hs x σ3 g) ->
   wpAny (model X.prog X.w) X.A (handleBy (.ref a) X.env (h0::hr)) (SP (xat X ca pn Φ) pins En) (xat X ca pn Φ).xe s):PS3 ca X (.Try body (h0::hr) [] [] pos) (mTry mb hs):=by
 intro pn Φ pins s σ H En I ⟨σ3,g,μ,R,p⟩
 refine wpAny_Try_except ?_
 have p1:PostS X.K ca (λx σ' H'=>∃σ4 g4 μ4,Rep X.K ca μ4 σ4 g4 σ' H'/\PostS X.K ca Φ En H' μ4 (runH hs x σ4 g4)) En H μ (mb σ3 g):=by
  unfold mTry at p
  cases hm:mb σ3 g with
  |nx _ _=>rw[hm]at p;exact p
  |rt _ _=>rw[hm]at p;exact p
  |bk _ _=>rw[hm]at p;exact p
  |ct _ _=>rw[hm]at p;exact p
  |raise x σ' g'=>rw[hm]at p;exact λσ4 H' μ' e R'=>⟨σ',g',μ',R',PostS.go e p⟩
  |stuck=>rw[hm]at p;exact p
 refine Tf (hb (pn++pins) _ [] s σ H En (Qm3 (Y:=X) I) ⟨σ3,g,μ,R,p1⟩) (λf s1 h1=>?_) λv s1 h1=>?_
 ·cases f with
  |next=>obtain⟨σ',H',J,q⟩:=h1;exact Qg1 (X:=xat X ca pn Φ) pins s1 σ' H' En (QbM (Y:=X) J) q
  |brk=>obtain⟨σ',H',J,q⟩:=h1;exact⟨σ',H',QbM (Y:=X) J,q⟩
  |cont=>obtain⟨σ',H',J,q⟩:=h1;exact⟨σ',H',QbM (Y:=X) J,q⟩
  |ret u=>obtain⟨v,σ',H',J,r,q⟩:=h1;exact⟨v,σ',H',QbM (Y:=X) J,r,q⟩
 ·obtain⟨a,x,σ',H',rfl,I1,fl,σ4,g4,μ4,R4,p4⟩:=h1
  refine QeJ (X:=xon X (pn++pins)) I1 hk hf fl λh2 I2 f2=>?_
  refine JG (X:=xon X (pn++pins)) (fo:=none) I2 f2.t λh3 T oT ts oe vs I3 a1 a2 a3 a4 a5 a6 a7 a8 a9 a10=>?_
  exact hh pn pins Φ En σ' H' _ a x σ4 g4 μ4 I.ok.hd I3 ⟨f2.1,f2.2.1,oe,vs,T,oT,ts,a1,a2,a3,a4,a5,a6,a7,a8,a9⟩ R4 p4
theorem Qm4(hT:X.mg T=some (.ref C)/\CatX X.K ca C cs no)(hb:PSs3 ca X body mb)(hc:∀a,PSs3 ca (xmk X (.ref a)) (b0::suite) mc)(hg:Gl X T:=by rfl)(hdb:(T == ("__debug__" : Str))=false:=by decide)(hk:X.stack=X.env::X.outer:=by rfl)(hf:X.env.frame=some X.env.locals:=by rfl):
  PS3 ca X (.Try body [.ExceptHandler (some (.Name T np)) none (b0::suite) hpos] [] [] pos) (mTry mb [⟨cs,no,none,mc⟩]):=by
 refine Qji hb hk hf λpn pins Φ En σ H s a x σ3 g μ hcalm I fl R p=>?_
 obtain⟨fp,ln,oe,vs,Tb,oT,ts,he,hox,hd,hv,hTa,fT,hTT,hdT,hs3⟩:=id fl
 unfold runH at p
 by_cases hx:x.1∈cs
 ·rw[Ud hx]at p
  dsimp only at p
  refine wpAny_handleBy_cons (QhN I hT.1 hT.2 he hox (hT.2.yes _ hx) hg hdb ?_) (by intro q;cases q)
  refine codeAny_handlers_suite ?_
  refine JG (fo:=none) I fl λh2 T2 oT2 ts2 oe2 vs2 I2 b1 b2 b3 b4 b5 b6 b7 b8 b9 b10=>?_
  have hcc:=hc a (pn++pins) F0 [] {s with heap:=h2} σ H {nx:=En.nx,rt:=En.rt} (Inv.wish (Qkd (.ref a) I2) _) ⟨_,_,_,R,by
   cases hm:mc σ3 g with
   |nx σ5 g5=>rw[hm]at p;exact p
   |rt d g5=>rw[hm]at p;exact p
   |bk _ _=>rw[hm]at p;exact p.elim
   |ct _ _=>rw[hm]at p;exact p.elim
   |raise _ _ _=>rw[hm]at p;exact p.elim
   |stuck=>rw[hm]at p;exact p.elim⟩
  refine Tf (noX hcc) (λf s5 h5=>?_) λ_ _ z=>z.elim
  cases f with
  |next =>
   obtain⟨σ',H',J,q⟩:=h5
   exact⟨σ',H',QbM (Y:=X) (QfI (X:=xon X (pn++pins)) (v:=.ref a) hcalm (Inv.wish J _)),q⟩
  |ret u =>
   obtain⟨v,σ',H',J,r,q⟩:=h5
   exact⟨v,σ',H',QbM (Y:=X) (QfI (X:=xon X (pn++pins)) (v:=.ref a) hcalm (Inv.wish J _)),r,q⟩
  |brk=>obtain⟨_,_,_,q⟩:=h5;exact q.elim
  |cont=>obtain⟨_,_,_,q⟩:=h5;exact q.elim
 ·rw[Ue hx]at p
  by_cases hn:x.1∈no
  ·rw[Ud hn]at p
   refine wpAny_handleBy_cons (QhN I hT.1 hT.2 he hox (hT.2.no' _ hn) hg hdb ?_) (by intro q;cases q)
   exact Qlg hf I fl (p σ H μ .refl R)
  ·rw[Ue hn]at p;exact p.elim
end
noncomputable def bchk(sc scope:Scope)(N Nb:List Str)(no:Nat)(cap:List Nat):Bool :=
 decide (scope.kind=.function) && scope.names.all (λy=>decide (y.2≠.cell)) && scope.names.all (λy=>decide (y.2≠.local) || decide (scope.names.lookup y.1=some .local)) &&
 scope.names.all (λy=>decide (y.2≠.free) || decide (sc.names.lookup y.1=some .cell) || decide (sc.names.lookup y.1=some .free)) && decide (Nb.length=no+cap.length) &&
 (List.range cap.length).all λj=>match cap[j]?,Nb[no+j]? with
  |some i,some x=>decide (N[i]?=some x) && decide (scope.names.lookup x=some .free) && (decide (sc.names.lookup x=some .cell) || decide (sc.names.lookup x=some .free))
  |_,_=>false
theorem Yy{X:Cx}{scope sc:Scope}{N Nb:List Str}{no:Nat}{cap:List Nat}(hsc:X.env.scope=sc)(hN:X.N=N)(h:bchk sc scope N Nb no cap=true):BScope X scope Nb no cap:=by
 subst hsc hN
 unfold bchk at h
 simp only[UR,decide_eq_true_eq]at h
 obtain⟨⟨⟨⟨⟨h1,h2⟩,h3⟩,h4⟩,h5⟩,h6⟩:=h
 rw[Tp]at h2 h3 h4 h6
 refine⟨h1,λy hy=>UI (h2 y hy),λy hy e=>?_,λy hy e=>?_,h5,λj i hj=>?_⟩
 ·rcases Wk.mp (h3 y hy) with z|z
  ·exact absurd e (UI z)
  ·exact UI z
 ·rcases Wk.mp (h4 y hy) with z|z
  ·rcases Wk.mp z with z|z
   ·exact absurd e (UI z)
   ·exact .inl (UI z)
  ·exact .inr (UI z)
 ·have hl:j<cap.length:=(Up.mp hj).1
  have z:=h6 j (Tt.mpr hl)
  rw[hj]at z
  cases hx:Nb[no+j]? with
  |none=>rw[hx]at z;cases z
  |some x =>
   rw[hx]at z
   simp only[UR,Bool.or_eq_true,decide_eq_true_eq]at z
   obtain⟨⟨z1,z2⟩,z3⟩:=z
   refine⟨x,rfl,z1,z2,.inr z3,λq=>?_⟩
   have q:X.env.scope.names.lookup x=some .local:=q
   rcases z3 with z|z
   ·rw[z]at q;cases q
   ·rw[z]at q;cases q
noncomputable def catB(K:PySem.W.Frag)(ca:Nat->Addr)(C:Addr)(cs no:List Nat):Bool:=(clsIn K C).isSome && (typeIn K (.ref C) == some (.type "type")) && (subIn K (.ref C) (.type "BaseException") == some true) &&
 cs.all (λc=>subIn K (.ref (ca c)) (.ref C) == some true) && no.all λc=>subIn K (.ref (ca c)) (.ref C) == some false
theorem Qm5{K:PySem.W.Frag}{ca:Nat->Addr}{C:Addr}{cs no:List Nat}(h:catB K ca C cs no=true):CatX K ca C cs no:=by
 unfold catB at h
 simp only[UR,TR,Tp]at h
 obtain⟨⟨⟨⟨h1,h2⟩,h3⟩,h4⟩,h5⟩:=h
 exact⟨h1,h2,h3,h4,h5⟩
noncomputable def clsB(K:PySem.W.Frag)(C:Addr):Bool:=plainGet K C Str.empty && hasDictIn K C && plainOver K C && (findIn K (.ref C) "__setattr__" == some (some (.builtin "object.__setattr__")))
theorem QfJ{K:PySem.W.Frag}{C:Addr}(h:clsB K C=true):Cls K C:=by
 unfold clsB at h
 simp only[UR,TR]at h
 obtain⟨⟨⟨h1,h2⟩,h3⟩,h4⟩:=h
 exact⟨h1,h2,h3,h4⟩
noncomputable def fldB(K:PySem.W.Frag)(ca:Nat->Addr)(cs:List Nat)(f:Str):Bool:=cs.all λc=>clsB K (ca c) && (findIn K (.ref (ca c)) f == some none)
theorem QcJ{K:PySem.W.Frag}{ca:Nat->Addr}{cs:List Nat}{f:Str}(h:fldB K ca cs f=true):FldOk K ca cs f:=by
 unfold fldB at h
 rw[Tp]at h
 exact⟨λc hc=>QfJ (Bt.mp (h c hc)).1,λc hc=>TR.mp (Bt.mp (h c hc)).2⟩
section
variable{X:Cx}{ca:Nat->Addr}{pos:Pos}{x:Str}
theorem QhO{t:Str}(h:∃k,X.mg x=some (.str t k))(hg:Gl X x:=by rfl)(hd:(x == ("__debug__" : Str))=false:=by decide):PE3 ca X (.Name x pos) (mLit (.str t)):=by
 obtain⟨k,h⟩:=h
 exact Qj8 h (v:=.str t) ⟨k,rfl⟩ (λ_ _ _=>.str t) hg hd
theorem QfK{i:Int}(h:∃k,X.mg x=some (.int i k))(hg:Gl X x:=by rfl)(hd:(x == ("__debug__" : Str))=false:=by decide):PE3 ca X (.Name x pos) (mLit (.int i)):=by
 obtain⟨k,h⟩:=h
 exact Qj8 h (v:=.int i) ⟨k,rfl⟩ (λ_ _ _=>.int i) hg hd
end
theorem Qke:bootBuiltins "int" = some (.type Ty.int.name):=boot_int
theorem QhP:bootBuiltins "bool" = some (.type Ty.bool.name):=by decide +kernel
theorem Qkf:bootBuiltins "str" = some (.type Ty.str.name):=by decide +kernel
theorem JX:bootBuiltins "tuple" = some (.type Ty.tuple.name):=boot_tuple
theorem QeQ:bootBuiltins "list" = some (.type Ty.list.name):=boot_list
section
variable{P:Program}{w:World}{K:PySem.W.Frag}{mg:Str->Option Value}{base:Heap}{ca:Nat->Addr}
theorem Qlh{f:Addr}{fd:FuncData}{ps:List Str}{k n:Nat}(hn:ps.length=n):FnOk P w K mg base (CXW P w ca) k f fd ps (spM K ca n λ_ _=>.stuck):=by
 subst hn
 exact⟨λvs H Q E q=>q.1,λA outer s H args us vs Q E _ _ _ _ h=>by obtain⟨_,_,_,_,_,_,z⟩:=h;exact z.elim⟩
theorem Qm6{F:MF}{H:Hp}{a:Addr}{ns:List Int}(hO:Only H)(hS:SqL K H a (ns.map V.int))(h:∃g',F [.fl (ns.map D.int)] []=.ok (.bl true) g'):spM K ca 1 F [.ref a] H (λv _=>v=.bl true) λ_ _ _=>False:=by
 obtain⟨g',h⟩:=h
 have hF:SqF K H a (ns.map V.int):=by
  rcases hS with(h|⟨o,h⟩)|h
  ·rcases hO a with z|⟨o,xs,z⟩
   ·rw[h]at z;cases z
   ·rw[h]at z;cases z
  ·exact .inl ⟨o,h⟩
  ·exact .inr (.inr h)
 refine⟨rfl,[.fl (ns.map D.int)],[],[],⟨rfl,.nil,λn a o h=>by simp at h⟩,.cons (.fl hF (Dens.ints ns)) .nil,?_⟩
 rw[h]
 intro v H' μ' e r q
 cases q
 rfl
end
end L3
namespace L3
open PySem PySem.Spec
section
theorem len0{α:Type}{us:List α}(h:us.length=0):us=[]:=List.eq_nil_of_length_eq_zero h
theorem len1{α:Type}{us:List α}(h:us.length=1):∃a0,us=[a0]:=by
 cases us with
 |nil=>cases h
 |cons a r =>
  have e:=len0 (Nat.succ.inj h)
  subst e
  exact⟨a,rfl⟩
theorem len2{α:Type}{us:List α}(h:us.length=2):∃a0 a1,us=[a0,a1]:=by
 cases us with
 |nil=>cases h
 |cons a r =>
  obtain⟨b0,rfl⟩:=len1 (Nat.succ.inj h)
  exact⟨a,b0,rfl⟩
theorem len3{α:Type}{us:List α}(h:us.length=3):∃a0 a1 a2,us=[a0,a1,a2]:=by
 cases us with
 |nil=>cases h
 |cons a r =>
  obtain⟨b0,b1,rfl⟩:=len2 (Nat.succ.inj h)
  exact⟨a,b0,b1,rfl⟩
theorem len4{α:Type}{us:List α}(h:us.length=4):∃a0 a1 a2 a3,us=[a0,a1,a2,a3]:=by
 cases us with
 |nil=>cases h
 |cons a r =>
  obtain⟨b0,b1,b2,rfl⟩:=len3 (Nat.succ.inj h)
  exact⟨a,b0,b1,b2,rfl⟩
noncomputable def Qkg:Expr->Bool
 |.Starred ..=>false
 |_=>true
theorem QhQ{e:Expr}{es:List Expr}{env:Env}(h:Qkg e=true):starEach (e::es) env=(false,eval e env)::starEach es env:=by
 cases e <;> first|rfl|exact absurd h Ug
variable{P:Program}{w:World}{K:PySem.W.Frag}{mg:Str->Option Value}{base:Heap}{ca:Nat->Addr}{X:L2.Cx}
theorem Qe{e:Expr}{es:List Expr}{me:ME}{mr:MA}(ha:PE3 ca X e me)(hr:PA3 ca X es mr)(hs:Qkg e=true:=by rfl):PA3 ca X (e::es) (Qb me mr):=Yv ha hr (QhQ hs)
noncomputable def Qkh:Expr->Bool
 |.ListComp ..=>false
 |.SetComp ..=>false
 |.DictComp ..=>false
 |_=>true
theorem Qli{e:Expr}{t:Option Expr}{l:Nat}{env:Env}(h:Qkh e=true):swapsWith e t l env=pure false:=by
 cases e <;> first|rfl|exact absurd h Ug
theorem Qy(i:Nat){x:Str}{pos pos':Pos}{e:Expr}{me:ME}(hN:X.N.Nodup)(he:PE3 ca X e me)(hi:X.N[i]?=some x:=by rfl)(hx:L2.Loc X.env.scope x:=by first|exact Or.inl rfl|exact Or.inr rfl)(hs:Qkh e=true:=by rfl)(hf:X.fn x=true\/X.env.scope.names.lookup x=some .local:=by first|exact .inl rfl|exact .inr rfl):
  PS3 ca X (.Assign [.Name x pos'] e pos) (mAsg (gSet i) me):=Qol i hN he hi hx (Qli hs) hf
end
end L3
section
namespace PySem
namespace F
end F
end PySem
end
namespace L3
open PySem PySem.Spec PyProof.Rows PySem.Calls
section
variable{prog:Program}{w:World}{A:Around}{E:Value->Shared->Prop}{s:Shared}
noncomputable def IsRevT(h:Heap)(a l:Addr)(i:Int):Prop:=∃o,h.get? a=some o/\o.cls=.type "reversed" /\ o.data=.fields #[.ref l,rawInt i]
theorem IsRevT.typeIs{a l:Addr}{i:Int}(x:IsRevT s.heap a l i):s.TypeIs (.ref a) "reversed":=let ⟨o,ho,hc,_⟩:=x;⟨o,ho,hc⟩
theorem IsRevT.at{h h':Heap}{a l:Addr}{i:Int}(x:IsRevT h a l i)(e:∀o,h.get? a=some o->h'.get? a=some o):IsRevT h' a l i:=let ⟨o,ho,r⟩:=x;⟨o,e _ ho,r⟩
end
end L3
namespace SO
open PySem PyProof PyProof.Rows
noncomputable def gal':Bool->Keyed->Array Keyed->Nat->Nat->Nat->StateT SortSt Sem (Option Nat):=sortPriv% PySem.Builtin.gallop
noncomputable def look(lf:Bool)(ky:Keyed)(ar:Array Keyed)(bs i:Nat):StateT SortSt Sem (Option Bool):=do
 let z <-elem' ar (bs+i)
 if lf then lt' z ky else return (<-lt' ky z).map (!·)
theorem Qlj(lf:Bool)(ky:Keyed)(ar:Array Keyed)(bs n hn:Nat):gal' lf ky ar bs n hn=(do
 let mut lst:=0
 let mut o:=1
 let mut lo:=0
 let mut hi:=0
 let some r <-look lf ky ar bs hn|return none
 if r then
  let mx:=n-hn
  for _ in [0:n] do
   if o>=mx then break
   let some m <-look lf ky ar bs (hn+o)|return none
   if !m then break
   lst:=o
   o:=2*o+1
  lo:=hn+lst+1
  hi:=hn+min o mx
 else
  let mx:=hn+1
  for _ in [0:n] do
   if o>=mx then break
   let some f <-look lf ky ar bs (hn-o)|return none
   if f then break
   lst:=o
   o:=2*o+1
  lo:=hn+1-min o mx
  hi:=hn-lst
 for _ in [0:n] do
  if lo>=hi then break
  let m:=lo+(hi-lo) / 2
  let some y <-look lf ky ar bs m|return none
  if y then lo:=m+1 else hi:=m
 return some hi):=rfl
section
variable{A:Around}{E:Value->Shared->Prop}{s:Shared}
theorem Qs{σ α:Type}{M:Model}{c:Prop}[Decidable c]{m1 m2:StateT σ Sem α}{Q:α->σ->Prop}{st:σ}(h:c)(k:wpS M A E s m1 Q st):wpS M A E s (if c then m1 else m2) Q st:=by rw[Ud h];exact k
theorem Qu{σ α:Type}{M:Model}{c:Prop}[Decidable c]{m1 m2:StateT σ Sem α}{Q:α->σ->Prop}{st:σ}(h:¬c)(k:wpS M A E s m2 Q st):wpS M A E s (if c then m1 else m2) Q st:=by rw[Ue h];exact k
theorem Qd5{σ α:Type}{M:Model}{c:Prop}[Decidable c]{m1 m2:StateT σ Sem α}{Q:α->σ->Prop}{st:σ}(k1:wpS M A E s m1 Q st)(k2:wpS M A E s m2 Q st):wpS M A E s (if c then m1 else m2) Q st:=by
 split
 ·exact k1
 ·exact k2
theorem ZB{x y:Nat}(h:¬x=y):¬(x == y)=true:=λe=>h (TR.mp e)
theorem Q1{x y:Nat}(h:x=y):(x == y)=true:=TR.mpr h
theorem QbN{p:Prop}[Decidable p](h:¬p):¬decide p=true:=λe=>h (UI e)
end
section
variable{prog:Program}{w:World}{A:Around}{E:Value->Shared->Prop}{s:Shared}
noncomputable abbrev KI(x:Keyed):Prop:=∃n t,x.1=.int n t
noncomputable abbrev nk(x:Keyed):Int:=numOf x.1
theorem QhR{st:SortSt}{x y:Keyed}{Q:Option Bool->SortSt->Prop}(hk:kindOf st=oneType')(hx:KI x)(hy:KI y)(h:Q (some (decide (nk x<nk y))) st):wpS (model prog w) A E s (lt' x y) Q st:=by
 obtain⟨x1,x2⟩:=x
 obtain⟨y1,y2⟩:=y
 obtain⟨a,t,rfl⟩:=hx
 obtain⟨b,u,rfl⟩:=hy
 rw[lt'_eq]
 refine Ui (WF ?_)
 rw[hk,keyLt'_oneType]
 exact Ui (W9 (wpAny_attempt (oneLt_int ⟨rfl,Ul h⟩)))
theorem QM{st:SortSt}{ar:Array Keyed}{i:Nat}{Q:Keyed->SortSt->Prop}(hi:i<ar.size)(h:Q ar[i] st):
  wpS (model prog w) A E s (elem' ar i) Q st:=by
 rw[elem'_eq,getElem?_pos ar i hi]
 exact Ul h
noncomputable def LK(lf:Bool)(kv v:Int):Bool:=if lf then decide (v<kv) else decide (v<=kv)
theorem Qlk{st:SortSt}{lf:Bool}{ky:Keyed}{ar:Array Keyed}{bs i:Nat}{Q:Option Bool->SortSt->Prop}(hk:kindOf st=oneType')(hky:KI ky)(ha:∀x∈ar,KI x)(hi:bs+i<ar.size)(h:Q (some (LK lf (nk ky) (nk ar[bs+i]))) st):
  wpS (model prog w) A E s (look lf ky ar bs i) Q st:=by
 unfold look
 refine Ui (QM hi ?_)
 have hz:=ha _ (US hi)
 cases lf with
 |true =>
  rw[Ud rfl]
  exact QhR hk hz hky (by unfold LK at h;rw[Ud rfl]at h;exact h)
 |false =>
  rw[Ue (by decide)]
  refine Ui (QhR hk hky hz (Ul ?_))
  have e:(some (decide (nk ky<nk ar[bs+i]))).map (!·)=some (decide (nk ar[bs+i]<=nk ky)):=by
   show some (!decide _)=_
   rw[<-decide_not]
   exact Rb some (decide_eq_decide.mpr RG)
  rw[e]
  unfold LK at h
  rw[Ue (by decide)]at h
  exact h
theorem Qm7{st:SortSt}{lf:Bool}{ky:Keyed}{ar:Array Keyed}{bs n hn:Nat}{Q:Option Nat->SortSt->Prop}(hk:kindOf st=oneType')(hky:KI ky)(ha:∀x∈ar,KI x)(hb:bs+n<=ar.size)(hh:hn<n)(p:Nat->Bool)(hp:∀i (h:bs+i<ar.size),i<n->p i=LK lf (nk ky) (nk ar[bs+i]))(mono:∀i j,i<=j->j<n->p j=true->p i=true)(h:∀k,k<=n->(∀i,i<k->p i=true)->(∀i,k<=i->i<n->p i=false)->Q (some k) st):
  wpS (model prog w) A E s (gal' lf ky ar bs n hn) Q st:=by
 have ask:∀{i:Nat}{R:Option Bool->SortSt->Prop},i<n->R (some (p i)) st->wpS (model prog w) A E s (look lf ky ar bs i) R st:=by
  intro i R hi hR
  exact Qlk hk hky ha (by(clear hk hh;omega)) (by rw[<-hp i (by(clear hk hh;omega)) hi];exact hR)
 have bin:∀{lo hi:Nat}{R:Option (Option Nat)×Nat×Nat->SortSt->Prop},lo<=hi->hi<=n->(∀i,i<lo->p i=true)->(∀i,hi<=i->i<n->p i=false) ->
   (∀l k,k<=n->(∀i,i<k->p i=true)->(∀i,k<=i->i<n->p i=false)->R (none,l,k) st) ->
   wpS (model prog w) A E s (forIn [0:n] ((none,lo,hi):Option (Option Nat)×Nat×Nat) λ_ c=>do
    if c.2.1>=c.2.2 then pure (ForInStep.done (none,c.2.1,c.2.2)) else do
     let z <-look lf ky ar bs (c.2.1+(c.2.2-c.2.1) / 2)
     match z with
     |some y=>if y=true then pure (ForInStep.yield (none,c.2.1+(c.2.2-c.2.1) / 2+1,c.2.2)) else pure (ForInStep.yield (none,c.2.1,c.2.1+(c.2.2-c.2.1) / 2))
     |_=>pure (ForInStep.done (some none,c.2.1,c.2.2))) R st:=by
  intro lo hi R h1 h2 h3 h4 hR
  refine U4 (I:=λx c st'=>st'=st/\∃l r,c=(none,l,r)/\l<=r/\r<=n/\r-l<=n-x/\(∀i,i<l->p i=true)/\(∀i,r<=i->i<n->p i=false)) ?step ?fin ⟨rfl,lo,hi,rfl,h1,h2,by(clear hk hb hh;omega),h3,h4⟩
  case fin =>
   rintro c st' ⟨rfl,l,r,rfl,a1,a2,a3,a4,a5⟩
   have e:l=r:=by(clear hb hh h1 h2 hk a2;omega)
   subst e
   exact hR l l a2 a4 a5
  case step =>
   rintro x c st' _ hx ⟨rfl,l,r,rfl,a1,a2,a3,a4,a5⟩
   dsimp only
   by_cases hge:l>=r
   ·refine Qs hge ?_
    have e:l=r:=by(clear hb hh h1 h2 hx hk a2 a3;omega)
    subst e
    exact Ul (hR l l a2 a4 a5)
   ·refine Qu hge ?_
    refine Ui (ask (by(clear hb hh h1 h2 hx hk a1 a3;omega)) ?_)
    dsimp only
    cases hm:p (l+(r-l) / 2) with
    |true =>
     refine Qs rfl ?_
     exact Ul ⟨rfl,_,r,rfl,by(clear hb hh h1 h2 hx hk a1 a2 a3 hm;omega),a2,by(clear hb hh h1 h2 hk a1 a2 hm;omega),λi hi=>mono i _ (by(clear hb hh h1 h2 hx hk a1 a2 a3 hge hm;omega)) (by(clear hb hh h1 h2 hx hk a1 a3 hm hi;omega)) hm,a5⟩
    |false =>
     refine Qu (by decide) ?_
     refine Ul ⟨rfl,l,_,rfl,by(clear hb hh h1 h2 hx hk a1 a2 a3 hge hm;omega),by(clear hb hh h1 h2 hx hk a1 a3 hm;omega),by(clear hb hh h1 h2 hk a1 a2 hm;omega),a4,λi q1 q2=>?_⟩
     cases hi:p i with
     |false=>rfl
     |true=>rw[mono _ i q1 q2 hi]at hm;cases hm
 rw[Qlj]
 refine Ui (ask hh ?_)
 dsimp only
 cases hq:p hn with
 |true =>
  refine Qs rfl ?_
  refine Ui (U4 (I:=λx c st'=>st'=st/\∃l o,c=(none,l,o)/\l+1<=o/\x+1<=o/\hn+l<n/\p (hn+l)=true) ?step ?fin ⟨rfl,0,1,rfl,by(clear hk hb hh hq;omega),by(clear hk hb hh hq;omega),by(clear hk hb hq;omega),hq⟩)
  case fin =>
   rintro c st' ⟨rfl,l,o,rfl,a1,a2,a3,a4⟩
   dsimp only
   refine Ui (bin (by(clear hb hq hk a2 a4;omega)) (by(clear hb hq hk a1 a2 a3 a4;omega)) (λi hi=>mono i _ (by(clear hb hh hq hk a1 a2 a3 a4;omega)) a3 a4) (λi q1 q2=>absurd q2 (by(clear hb hq hk a1 a3 a4;omega))) λl' k b1 b2 b3=>Ul (h k b1 b2 b3))
  case step =>
   rintro x c st' _ hx ⟨rfl,l,o,rfl,a1,a2,a3,a4⟩
   dsimp only
   by_cases hge:o>=n-hn
   ·refine Qs hge ?_
    refine Ul ?_
    dsimp only
    exact(Ui (bin (by(clear hb hq hx hk a2 a4;omega)) (by(clear hb hq hx hk a1 a2 a3 a4;omega)) (λi hi=>mono i _ (by(clear hb hh hq hx hk a1 a2 a3 a4 hge;omega)) a3 a4) (λi q1 q2=>absurd q2 (by(clear hb hq hx hk a1 a2 a3 a4;omega))) λl' k b1 b2 b3=>Ul (h k b1 b2 b3)))
   ·refine Qu hge ?_
    refine Ui (ask (by(clear hb hq hx hk a1 a2 a3 a4;omega)) ?_)
    dsimp only
    cases hm:p (hn+o) with
    |true =>
     refine Qu (by decide) ?_
     exact Ul ⟨rfl,o,_,rfl,by(clear hb hh hq hx hk a1 a2 a3 a4 hge hm;omega),by(clear hb hh hq hx hk a1 a3 a4 hge hm;omega),by(clear hb hq hx hk a1 a2 a3 a4 hm;omega),hm⟩
    |false =>
     refine Qs (by decide) ?_
     refine Ul ?_
     dsimp only
     refine(Ui (bin (by(clear hb hh hq hx hk a2 a3 a4 hm;omega)) (by(clear hb hq hx hk a1 a2 a3 a4 hm;omega)) (λi hi=>mono i _ (by(clear hb hh hq hx hk a1 a2 a3 a4 hge hm;omega)) a3 a4) (λi q1 q2=>?_) λl' k b1 b2 b3=>Ul (h k b1 b2 b3)))
     cases hi:p i with
     |false=>rfl
     |true=>rw[mono (hn+o) i (by(clear hb hh hq hx hk a1 a2 a3 a4 hm q2 hi;omega)) q2 hi]at hm;cases hm
 |false =>
  rw[Ue (by decide)]
  have lowF:∀{l:Nat},l<=hn->p (hn-l)=false->∀i,hn-l<=i->i<n->p i=false:=by
   intro l _ hl i q1 q2
   cases hi:p i with
   |false=>rfl
   |true=>rw[mono (hn-l) i q1 q2 hi]at hl;cases hl
  refine Ui (U4 (I:=λx c st'=>st'=st/\∃l o,c=(none,l,o)/\l+1<=o/\x+1<=o/\l<=hn/\p (hn-l)=false) ?step ?fin ⟨rfl,0,1,rfl,by(clear hk hb hh hq;omega),by(clear hk hb hh hq;omega),by(clear hk hb hh hq;omega),hq⟩)
  case fin =>
   rintro c st' ⟨rfl,l,o,rfl,a1,a2,a3,a4⟩
   dsimp only
   refine Ui (bin (by(clear hb hh hq hk a2 a4;omega)) (by(clear hb hq hk a1 a2 a4;omega)) (λi hi=>absurd hi (by(clear hb hq hk a1 a3 a4;omega))) (lowF a3 a4) λl' k b1 b2 b3=>Ul (h k b1 b2 b3))
  case step =>
   rintro x c st' _ hx ⟨rfl,l,o,rfl,a1,a2,a3,a4⟩
   dsimp only
   by_cases hge:o>=hn+1
   ·refine Qs hge ?_
    refine Ul ?_
    dsimp only
    exact(Ui (bin (by(clear hb hh hq hx hk a2 a4;omega)) (by(clear hb hq hx hk a1 a2 a4 hge;omega)) (λi hi=>absurd hi (by(clear hb hh hq hx hk a1 a2 a3 a4;omega))) (lowF a3 a4) λl' k b1 b2 b3=>Ul (h k b1 b2 b3)))
   ·refine Qu hge ?_
    refine Ui (ask (by(clear hb hq hx hk a1 a3 a4;omega)) ?_)
    dsimp only
    cases hm:p (hn-o) with
    |true =>
     refine Qs rfl ?_
     refine Ul ?_
     dsimp only
     exact(Ui (bin (by(clear hb hh hq hx hk a2 a4 hm;omega)) (by(clear hb hq hx hk a1 a2 a4 hge hm;omega)) (λi hi=>mono i (hn-o) (by(clear hb hh hq hx hk a1 a2 a3 a4 hm;omega)) (by(clear hb hq hx hk a1 a3 a4 hm hi;omega)) hm) (lowF a3 a4) λl' k b1 b2 b3=>Ul (h k b1 b2 b3)))
    |false =>
     refine Qu (by decide) ?_
     exact Ul ⟨rfl,o,_,rfl,by(clear hb hh hq hx hk a1 a2 a3 a4 hge hm;omega),by(clear hb hh hq hx hk a1 a3 a4 hge hm;omega),by(clear hb hh hq hx hk a1 a2 a3 a4 hm;omega),hm⟩
end
noncomputable def mlo':Array Keyed->Array Keyed->StateT SortSt Sem (Array Keyed):=sortPriv% PySem.Builtin.mergeLo
noncomputable def mhi':Array Keyed->Array Keyed->StateT SortSt Sem (Array Keyed):=sortPriv% PySem.Builtin.mergeHi
noncomputable def setG(g:Nat):StateT SortSt Sem Unit:=modify λz=>SortSt.mk' (kindOf z) (arrOf z) (pendingOf z) g (failedOf z)
noncomputable abbrev Srt(l:List Keyed):Prop:=l.Pairwise λx y=>nk x<=nk y
structure JL(o p q t:List Keyed):Prop where
 perm:(o++(p++q)).Perm t
 sp:Srt (o++p)
 sq:Srt (o++q)
theorem JL.swap{o p q t:List Keyed}(h:JL o p q t):JL o q p t :=
 ⟨(RQ o RS).trans h.perm,h.sq,h.sp⟩
theorem JL.take{o x p q t:List Keyed}(h:JL o (x++p) q t)(c:∀u∈x,∀v∈q,nk u<=nk v):JL (o++x) p q t:=by
 refine⟨by rw[UG,<-UG x];exact h.perm,by rw[UG];exact h.sp,?_⟩
 have h1:=h.sp
 rw[<-UG]at h1
 have h2:=U0.mp h.sq
 refine U0.mpr ⟨(U0.mp h1).1,h2.2.1,λu hu v hv=>?_⟩
 rcases Ta.mp hu with hu|hu
 ·exact h2.2.2 u hu v hv
 ·exact c u hu v hv
noncomputable abbrev Mrg(out a b:Array Keyed):Prop:=out.toList.Perm (a.toList++b.toList)/\Srt out.toList
theorem Qdb(a:Array Keyed)(i:Nat):(a.extract i a.size).toList=a.toList.drop i:=by
 rw[Rq,T5,W5]
 simp
theorem Qki(a:Array Keyed)(i k:Nat):(a.extract i (i+k)).toList=(a.toList.drop i).take k:=by
 rw[Rq,T5,RE]
theorem YN{a:Array Keyed}{i:Nat}(h:i<a.size):nk a[i]=K a i:=(K_eq h).symm
theorem Qbm{a:Array Keyed}{i:Nat}{y:Keyed}(h:y∈a.toList.drop i):∃m,i<=m/\m<a.size/\nk y=K a m:=by
 obtain⟨m,hm,e⟩:=Th h
 rw[TF,Um]at hm
 rw[List.getElem_drop,To]at e
 exact⟨i+m,by(clear hm e;omega),by(clear e;omega),by rw[<-e,YN]⟩
theorem JY{a:Array Keyed}{i k:Nat}{y:Keyed}(h:y∈(a.toList.drop i).take k):∃m,i<=m/\m<i+k/\m<a.size/\nk y=K a m:=by
 obtain⟨m,hm,e⟩:=Th h
 rw[U5,TF,Um]at hm
 rw[List.getElem_take,List.getElem_drop,To]at e
 exact⟨i+m,by(clear hm e;omega),by(clear e;omega),by(clear e;omega),by rw[<-e,YN]⟩
theorem QhS{a:Array Keyed}{i:Nat}(h:i<a.size):a.toList.drop i=a[i]::a.toList.drop (i+1):=by
 rw[Rt (by rw[Um];exact h),To]
structure Mid(a b r:Array Keyed)(i j:Nat):Prop where
 jl:JL r.toList (a.toList.drop i) (b.toList.drop j) (a.toList++b.toList)
 hi:i<=a.size
 hj:j<=b.size
theorem Mid.size{a b r:Array Keyed}{i j:Nat}(M:Mid a b r i j):r.size+(a.size-i)+(b.size-j)=a.size+b.size:=by
 have:=M.jl.perm.length_eq
 simp only[Us,TF,Um]at this
 omega
theorem Mid.pushA{a b r:Array Keyed}{i j:Nat}(M:Mid a b r i j)(h:i<a.size)(c:∀m,j<=m->m<b.size->K a i<=K b m):Mid a b (r.push a[i]) (i+1) j:=by
 refine⟨?_,h,M.hj⟩
 rw[Rl]
 refine JL.take (by have:=M.jl;rw[QhS h]at this;exact this) λu hu v hv=>?_
 obtain⟨m,h1,h2,e⟩:=Qbm hv
 rw[Uz.mp hu,YN h,e]
 exact c m h1 h2
theorem Mid.pushB{a b r:Array Keyed}{i j:Nat}(M:Mid a b r i j)(h:j<b.size)(c:∀m,i<=m->m<a.size->K b j<=K a m):Mid a b (r.push b[j]) i (j+1):=by
 refine⟨?_,M.hi,h⟩
 rw[Rl]
 refine(JL.take (by have:=M.jl.swap;rw[QhS h]at this;exact this) λu hu v hv=>?_).swap
 obtain⟨m,h1,h2,e⟩:=Qbm hv
 rw[Uz.mp hu,YN h,e]
 exact c m h1 h2
theorem Mid.manyA{a b r:Array Keyed}{i j k:Nat}(M:Mid a b r i j)(h:i+k<=a.size)(c:∀m n,i<=m->m<i+k->j<=n->n<b.size->K a m<=K b n):Mid a b (r++a.extract i (i+k)) (i+k) j:=by
 refine⟨?_,h,M.hj⟩
 rw[UO,Qki]
 refine JL.take (by rw[<-WB,Tj];exact M.jl) λu hu v hv=>?_
 obtain⟨m,h1,h2,h3,e⟩:=JY hu
 obtain⟨n,h4,h5,e2⟩:=Qbm hv
 rw[e,e2]
 exact c m n h1 h2 h4 h5
theorem Mid.manyB{a b r:Array Keyed}{i j k:Nat}(M:Mid a b r i j)(h:j+k<=b.size)(c:∀m n,j<=m->m<j+k->i<=n->n<a.size->K b m<=K a n):Mid a b (r++b.extract j (j+k)) i (j+k):=by
 refine⟨?_,M.hi,h⟩
 rw[UO,Qki]
 refine(JL.take (by rw[<-WB,Tj];exact M.jl.swap) λu hu v hv=>?_).swap
 obtain⟨m,h1,h2,h3,e⟩:=JY hu
 obtain⟨n,h4,h5,e2⟩:=Qbm hv
 rw[e,e2]
 exact c m n h1 h2 h4 h5
theorem Mid.endB{a b r:Array Keyed}{i j:Nat}(M:Mid a b r i j)(h:j=b.size):Mrg (r++a.extract i a.size++b.extract j b.size) a b:=by
 have e:b.toList.drop j=[]:=W6 (by rw[Um];omega)
 have p:=M.jl.perm
 have q:=M.jl.sp
 rw[e,UJ]at p
 rw[Mrg,UO,UO,Qdb,Qdb,e,UJ]
 exact⟨p,q⟩
theorem Mid.endA{a b r:Array Keyed}{i j:Nat}(M:Mid a b r i j)(h:i=a.size):Mrg (r++a.extract i a.size++b.extract j b.size) a b:=by
 have e:a.toList.drop i=[]:=W6 (by rw[Um];omega)
 have p:=M.jl.perm
 have q:=M.jl.sq
 rw[e,Ry]at p
 rw[Mrg,UO,UO,Qdb,Qdb,e,UJ]
 exact⟨p,q⟩
theorem Mid.lastA{a b r:Array Keyed}{i j:Nat}(M:Mid a b r i j)(h:i+1=a.size)(c:∀m,m<b.size->K b m<=K a (a.size-1)):Mrg (r++b.extract j b.size++a.extract i a.size) a b:=by
 have N:=M.manyB (k:=b.size-j) (by have:=M.hj;(clear h;omega)) λm n h1 h2 h3 h4=>by
  rw[show n=a.size-1 by(clear h1 h2;omega)]
  exact c m (by have:=M.hj;(clear h h1 h3 h4;omega))
 have e:j+(b.size-j)=b.size:=by have:=M.hj;(clear h;omega)
 rw[e]at N
 have:=N.endB rfl
 rw[show b.extract b.size b.size = #[] by simp,Array.append_empty]at this
 exact this
noncomputable abbrev StO:=Option (Array Keyed)×Array Keyed×Nat×Nat×Nat×Nat
noncomputable abbrev StR:=Option (Array Keyed)×Array Keyed×Nat×Nat×Nat
noncomputable abbrev StL:=Option (Array Keyed)×Array Keyed×Nat×Nat×Nat×Nat×Nat
noncomputable def Qll(a b:Array Keyed)(g:Nat)(r:Array Keyed)(i j ac bc:Nat):StateT SortSt Sem (ForInStep StO):=do
 let z <-lt' (<-elem' b j) (<-elem' a i)
 match z with
 |some y =>
  if y=true then do
   let r:=r.push (<-elem' b j)
   if (j+1 == b.size)=true then pure (ForInStep.done (some (r++a.extract i a.size++b.extract (j+1) b.size),r,i,j+1,0,bc+1))
   else if bc+1>=g then pure (ForInStep.done (none,r,i,j+1,0,bc+1)) else pure (ForInStep.yield (none,r,i,j+1,0,bc+1))
  else do
   let r:=r.push (<-elem' a i)
   if (i+1+1 == a.size)=true then pure (ForInStep.done (some (r++b.extract j b.size++a.extract (i+1) a.size),r,i+1,j,ac+1,0))
   else if ac+1>=g then pure (ForInStep.done (none,r,i+1,j,ac+1,0)) else pure (ForInStep.yield (none,r,i+1,j,ac+1,0))
 |_=>pure (ForInStep.done (some (r++a.extract i a.size++b.extract j b.size),r,i,j,ac,bc))
noncomputable def Qdc(a b:Array Keyed)(g k k2 i j:Nat)(r:Array Keyed):StateT SortSt Sem (ForInStep StL):=do
 let r:=r.push (<-elem' a i)
 if (i+1+1 == a.size)=true then pure (ForInStep.done (some (r++b.extract j b.size++a.extract (i+1) a.size),r,i+1,j,g,k,k2))
 else if (decide (k<7) && decide (k2<7))=true then pure (ForInStep.done (none,r,i+1,j,g,k,k2))
 else pure (ForInStep.yield (none,r,i+1,j,g,k,k2))
noncomputable def Qdd(a b:Array Keyed)(g k bc i j:Nat)(r:Array Keyed):StateT SortSt Sem (ForInStep StL):=do
 let r:=r.push (<-elem' b j)
 if (j+1 == b.size)=true then pure (ForInStep.done (some (r++a.extract i a.size++b.extract (j+1) b.size),r,i,j+1,g,k,bc)) else do
  let z <-gal' true (<-elem' a i) b (j+1) (b.size - (j+1)) 0
  match z with
  |some y =>
   if y > 0 then
    if (j+1+y == b.size)=true then pure (ForInStep.done (some (r++b.extract (j+1) (j+1+y)++a.extract i a.size++b.extract (j+1+y) b.size),r++b.extract (j+1) (j+1+y),i,j+1+y,g,k,y))
    else Qdc a b g k y i (j+1+y) (r++b.extract (j+1) (j+1+y))
   else Qdc a b g k y i (j+1) r
  |_=>pure (ForInStep.done (some (r++a.extract i a.size++b.extract (j+1) b.size),r,i,j+1,g,k,bc))
noncomputable def Qd6(a b r:Array Keyed)(i j ac bc g:Nat):StateT SortSt Sem (ForInStep StL):=do
 setG g
 let z <-gal' false (<-elem' b j) a i (a.size-i) 0
 match z with
 |some y =>
  if y > 0 then
   if (i+y+1 == a.size)=true then pure (ForInStep.done (some (r++a.extract i (i+y)++b.extract j b.size++a.extract (i+y) a.size),r++a.extract i (i+y),i+y,j,g,y,bc))
   else if (i+y == a.size)=true then pure (ForInStep.done (some (r++a.extract i (i+y)++a.extract (i+y) a.size++b.extract j b.size),r++a.extract i (i+y),i+y,j,g,y,bc))
   else Qdd a b g y bc (i+y) j (r++a.extract i (i+y))
  else Qdd a b g y bc i j r
 |_=>pure (ForInStep.done (some (r++a.extract i a.size++b.extract j b.size),r,i,j,g,ac,bc))
noncomputable def QeR(a b r:Array Keyed)(i j ac bc g:Nat):StateT SortSt Sem (ForInStep StR):=do
 liftM (rule "list.sort.gallop")
 let c <-forIn [0:a.size+b.size] ((none,r,i,j,g+1,ac,bc):StL) λ_ c =>
  if c.snd.snd.snd.snd.fst > 1 then Qd6 a b c.snd.fst c.snd.snd.fst c.snd.snd.snd.fst c.snd.snd.snd.snd.snd.fst c.snd.snd.snd.snd.snd.snd (c.snd.snd.snd.snd.fst-1)
  else Qd6 a b c.snd.fst c.snd.snd.fst c.snd.snd.snd.fst c.snd.snd.snd.snd.snd.fst c.snd.snd.snd.snd.snd.snd c.snd.snd.snd.snd.fst
 match c.fst with
 |some o=>pure (ForInStep.done (some o,c.snd.fst,c.snd.snd.fst,c.snd.snd.snd.fst,c.snd.snd.snd.snd.fst))
 |none=>do
  setG (c.snd.snd.snd.snd.fst+1)
  pure (ForInStep.yield (none,c.snd.fst,c.snd.snd.fst,c.snd.snd.snd.fst,c.snd.snd.snd.snd.fst+1))
noncomputable def QeS(a b r:Array Keyed)(i j g:Nat):StateT SortSt Sem (ForInStep StR):=do
 let c <-forIn [0:a.size+b.size] ((none,r,i,j,0,0):StO) λ_ c=>Qll a b g c.snd.fst c.snd.snd.fst c.snd.snd.snd.fst c.snd.snd.snd.snd.fst c.snd.snd.snd.snd.snd
 match c.fst with
 |some o=>pure (ForInStep.done (some o,c.snd.fst,c.snd.snd.fst,c.snd.snd.snd.fst,g))
 |none=>QeR a b c.snd.fst c.snd.snd.fst c.snd.snd.snd.fst c.snd.snd.snd.snd.fst c.snd.snd.snd.snd.snd g
noncomputable def Qm8(a b r:Array Keyed)(g:Nat):StateT SortSt Sem (Array Keyed):=do
 let c <-forIn [0:a.size+b.size] ((none,r,0,1,g):StR) λ_ c=>QeS a b c.snd.fst c.snd.snd.fst c.snd.snd.snd.fst c.snd.snd.snd.snd
 match c.fst with
 |some o=>pure o
 |none=>liftM (unsupported "internal:list.sort.merge-bound")
theorem Qm9(a b:Array Keyed):mlo' a b=(do
 liftM (rule "list.sort.merge-lo")
 let x <-elem' b 0
 if (1 == b.size)=true then pure (#[x]++a.extract 0 a.size++b.extract 1 b.size)
 else if (0+1 == a.size)=true then pure (#[x]++b.extract 1 b.size++a.extract 0 a.size)
 else do
  let t <-get
  Qm8 a b #[x] (gallopOf t)):=by
 kernel_rfl
section
variable{prog:Program}{w:World}{A:Around}{E:Value->Shared->Prop}{s:Shared}
noncomputable def Alike(st st':SortSt):Prop:=kindOf st'=kindOf st/\arrOf st'=arrOf st/\pendingOf st'=pendingOf st/\failedOf st'=failedOf st
theorem Alike.refl(st:SortSt):Alike st st:=⟨rfl,rfl,rfl,rfl⟩
theorem QfL{x:Array Keyed}(sx:SortedTo x x.size):Srt x.toList:=by
 refine WG.mpr λi j hi hj hij=>?_
 rw[Um]at hi hj
 rw[To,To,YN hi,YN hj]
 exact sx i j (U3 hij) hj
theorem Qde{st:SortSt}{g:Nat}{Q:Unit->SortSt->Prop}(h:∀st',(∀z,Alike z st->Alike z st')->Q () st'):wpS (model prog w) A E s (setG g) Q st:=by
 unfold setG
 exact WH (h _ λz hz=>hz)
theorem LK_f{kv v:Int}:LK false kv v=decide (v<=kv):=rfl
theorem LK_t{kv v:Int}:LK true kv v=decide (v<kv):=rfl
theorem QaS{st:SortSt}{lf:Bool}{ky:Keyed}{ar:Array Keyed}{bs n hn:Nat}{Q:Option Nat->SortSt->Prop}(hk:kindOf st=oneType')(hky:KI ky)(ha:∀x∈ar,KI x)(hb:bs+n<=ar.size)(hh:hn<n)(so:∀i j,i<=j->j<n->K ar (bs+i)<=K ar (bs+j))(h:∀k,k<=n->(∀i,i<k->LK lf (nk ky) (K ar (bs+i))=true)->(∀i,k<=i->i<n->LK lf (nk ky) (K ar (bs+i))=false)->Q (some k) st):
  wpS (model prog w) A E s (gal' lf ky ar bs n hn) Q st:=by
 refine Qm7 hk hky ha hb hh (λi=>LK lf (nk ky) (K ar (bs+i))) (λi hi _=>by rw[YN hi]) (λi j hij hj hp=>?_) h
 have:=so i j hij hj
 cases lf with
 |true=>rw[LK_t]at hp ⊢;exact UC (Int.lt_of_le_of_lt this (UI hp))
 |false=>rw[LK_f]at hp ⊢;exact UC (UN this (UI hp))
structure Two(a b:Array Keyed):Prop where
 ka:∀x∈a,KI x
 kb:∀x∈b,KI x
 sa:SortedTo a a.size
 sb:SortedTo b b.size
 c0:K b 0<=K a 0
 cl:∀m,m<b.size->K b m<=K a (a.size-1)
structure Am(a b r:Array Keyed)(i j n:Nat):Prop where
 mid:Mid a b r i j
 hi:i+1<a.size
 hj:j<b.size
 hn:n<=r.size
noncomputable def Qoq(st:SortSt)(a b:Array Keyed)(n N:Nat):ForInStep StO->SortSt->Prop
 |.done c,st'=>st'=st/\((∃out r i j ac bc,c=(some out,r,i,j,ac,bc)/\Mrg out a b)\/∃r i j ac bc,c=(none,r,i,j,ac,bc)/\Am a b r i j n)
 |.yield c,st'=>st'=st/\∃r i j ac bc,c=(none,r,i,j,ac,bc)/\Am a b r i j N
noncomputable def Qlm(st:SortSt)(a b:Array Keyed)(n N:Nat):ForInStep StL->SortSt->Prop
 |.done c,st'=>Alike st st'/\((∃out r i j g ac bc,c=(some out,r,i,j,g,ac,bc)/\Mrg out a b)\/∃r i j g ac bc,c=(none,r,i,j,g,ac,bc)/\Am a b r i j n)
 |.yield c,st'=>Alike st st'/\∃r i j g ac bc,c=(none,r,i,j,g,ac,bc)/\Am a b r i j N
noncomputable def Qln(st:SortSt)(a b:Array Keyed)(N:Nat):ForInStep StR->SortSt->Prop
 |.done c,st'=>Alike st st'/\∃out r i j g,c=(some out,r,i,j,g)/\Mrg out a b
 |.yield c,st'=>Alike st st'/\∃r i j g,c=(none,r,i,j,g)/\Am a b r i j N
variable{st st2:SortSt}{a b r:Array Keyed}{i j n N g:Nat}
theorem Am.no(M:Am a b r i j n)(h:a.size+b.size<=n):False:=by
 have:=M.mid.size
 have:=M.hi
 have:=M.hn
 omega
theorem Am.pushA(M:Am a b r i j n)(h:i<a.size)(c:∀m,j<=m->m<b.size->K a i<=K b m)(e:¬i+1+1=a.size)(hN:N<=n+1):Am a b (r.push a[i]) (i+1) j N :=
 ⟨M.mid.pushA h c,by have:=M.hi;omega,M.hj,by rw[Wf];have:=M.hn;omega⟩
theorem Am.pushB(M:Am a b r i j n)(c:∀m,i<=m->m<a.size->K b j<=K a m)(e:¬j+1=b.size)(hN:N<=n+1):Am a b (r.push (b[j]'M.hj)) i (j+1) N :=
 ⟨M.mid.pushB M.hj c,M.hi,by have:=M.hj;omega,by rw[Wf];have:=M.hn;omega⟩
theorem Qjj{ac bc:Nat}(T:Two a b)(hk:kindOf st=oneType')(M:Am a b r i j n)(hN:N<=n+1):
  wpS (model prog w) A E s (Qll a b g r i j ac bc) (Qoq st a b N N) st:=by
 have hi:=Tr M.hi
 have hj:=M.hj
 unfold Qll
 refine Ui (QM hj (Ui (QM hi (Ui (QhR hk (T.kb _ (US hj)) (T.ka _ (US hi)) ?_)))))
 rw[YN hj,YN hi]
 by_cases hw:K b j<K a i
 ·refine Qs (UC hw) (Ui (QM hj ?_))
  have c:∀m,i<=m->m<a.size->K b j<=K a m:=λm h1 h2=>UN (Tk hw) (T.sa i m h1 h2)
  by_cases e:j+1=b.size
  ·exact Qs (Q1 e) (Ul ⟨rfl,.inl ⟨_,_,_,_,_,_,rfl,(M.mid.pushB hj c).endB e⟩⟩)
  have M':=M.pushB c e hN
  exact Qu (ZB e) (Qd5 (Ul ⟨rfl,.inr ⟨_,_,_,_,_,rfl,M'⟩⟩) (Ul ⟨rfl,_,_,_,_,_,rfl,M'⟩))
 ·refine Qu (QbN hw) (Ui (QM hi ?_))
  have c:∀m,j<=m->m<b.size->K a i<=K b m:=λm h1 h2=>UN (RG.mp hw) (T.sb j m h1 h2)
  by_cases e:i+1+1=a.size
  ·exact Qs (Q1 e) (Ul ⟨rfl,.inl ⟨_,_,_,_,_,_,rfl,(M.mid.pushA hi c).lastA e T.cl⟩⟩)
  have M':=M.pushA hi c e hN
  exact Qu (ZB e) (Qd5 (Ul ⟨rfl,.inr ⟨_,_,_,_,_,rfl,M'⟩⟩) (Ul ⟨rfl,_,_,_,_,_,rfl,M'⟩))
theorem QcK{k k2:Nat}(T:Two a b)(al:Alike st st2)(M:Am a b r i j n)(c:∀m,j<=m->m<b.size->K a i<=K b m)(hN:N<=n+1):
  wpS (model prog w) A E s (Qdc a b g k k2 i j r) (Qlm st a b N N) st2:=by
 have hi:=Tr M.hi
 unfold Qdc
 refine Ui (QM hi ?_)
 by_cases e:i+1+1=a.size
 ·exact Qs (Q1 e) (Ul ⟨al,.inl ⟨_,_,_,_,_,_,_,rfl,(M.mid.pushA hi c).lastA e T.cl⟩⟩)
 have M':=M.pushA hi c e hN
 exact Qu (ZB e) (Qd5 (Ul ⟨al,.inr ⟨_,_,_,_,_,_,rfl,M'⟩⟩) (Ul ⟨al,_,_,_,_,_,_,rfl,M'⟩))
theorem QfM{P:Nat->Prop}{x m:Nat}(h:P (x+(m-x)))(l:x<=m):P m:=by
 rwa[Wl l]at h
theorem QcL{k bc:Nat}(T:Two a b)(al:Alike st st2)(k2:kindOf st2=oneType')(M:Am a b r i j n)(c:∀m,i<=m->m<a.size->K b j<=K a m)(hN:N<=n+1):
  wpS (model prog w) A E s (Qdd a b g k bc i j r) (Qlm st a b N N) st2:=by
 have hi:=Tr M.hi
 have hj:=M.hj
 unfold Qdd
 refine Ui (QM hj ?_)
 by_cases e:j+1=b.size
 ·exact Qs (Q1 e) (Ul ⟨al,.inl ⟨_,_,_,_,_,_,_,rfl,(M.mid.pushB hj c).endB e⟩⟩)
 have M2:Am a b (r.push b[j]) i (j+1) n:=M.pushB c e (R0 n)
 have hj2:=M2.hj
 refine Qu (ZB e) (Ui (QM hi (Ui ?_)))
 refine QaS k2 (T.ka _ (US hi)) T.kb (RN (Wl (U3 hj2))) (Nat.sub_pos_of_lt hj2) (λx y h1 h2=>T.sb _ _ (Ts h1 _) (Bi h2)) λy hy pk qk=>?_
 rw[YN hi]at pk qk
 have R:∀m,j+1<=m->m<j+1+y->K b m<=K a i:=λm h1 h2=>Tk (UI (QfM (P:=λm=>decide (K b m<K a i)=true) (pk (m - (j+1)) (by omega)) h1))
 have R':∀m,j+1+y<=m->m<b.size->K a i<=K b m:=λm h1 h2=>RG.mp (T0 (QfM (P:=λm=>decide (K b m<K a i)=false) (qk (m - (j+1)) (Bj h1) (Bu (Te h1) h2)) (Te h1)))
 by_cases h0:y > 0
 ·refine Qs h0 ?_
  have hy':j+1+y<=b.size:=by omega
  have M3:=M2.mid.manyB (k:=y) hy' λm n h1 h2 h3 h4=>UN (R m h1 h2) (T.sa i n h3 h4)
  by_cases e:j+1+y=b.size
  ·exact Qs (Q1 e) (Ul ⟨al,.inl ⟨_,_,_,_,_,_,_,rfl,M3.endB e⟩⟩)
  exact Qu (ZB e) (QcK (n:=n) T al ⟨M3,M.hi,Wx hy' e,by rw[WO];exact Ut M2.hn (Rs _ _)⟩ R' hN)
 ·have e0:y=0:=by omega
  subst e0
  exact Qu h0 (QcK T al M2 R' hN)
theorem QhT{ac bc:Nat}(T:Two a b)(hk:kindOf st=oneType')(al0:Alike st st2)(M:Am a b r i j n)(hN:N<=n+1):
  wpS (model prog w) A E s (Qd6 a b r i j ac bc g) (Qlm st a b N N) st2:=by
 have hi:=Tr M.hi
 have hj:=M.hj
 unfold Qd6
 refine Ui (Qde λst3 h3=>?_)
 have al:=h3 _ al0
 have k2:=al.1.trans hk
 refine Ui (QM hj (Ui ?_))
 refine QaS k2 (T.kb _ (US hj)) T.ka (RN (Wl (U3 hi))) (Nat.sub_pos_of_lt hi) (λx y h1 h2=>T.sa _ _ (Ts h1 _) (Bi h2)) λy hy pk qk=>?_
 rw[YN hj]at pk qk
 have R:∀m,i<=m->m<i+y->K a m<=K b j:=λm h1 h2=>UI (QfM (P:=λm=>decide (K a m<=K b j)=true) (pk (m-i) (Nat.sub_lt_left_of_lt_add h1 h2)) h1)
 have R':∀m,i+y<=m->m<a.size->K b j<=K a m:=λm h1 h2=>Tk (Int.not_le.mp (T0 (QfM (P:=λm=>decide (K a m<=K b j)=false) (qk (m-i) (Bj h1) (Bu (Te h1) h2)) (Te h1))))
 by_cases h0:y > 0
 ·refine Qs h0 ?_
  have hy':i+y<=a.size:=by omega
  have M3:=M.mid.manyA (k:=y) hy' λm n h1 h2 h3 h4=>UN (R m h1 h2) (T.sb j n h3 h4)
  by_cases e:i+y+1=a.size
  ·exact Qs (Q1 e) (Ul ⟨al,.inl ⟨_,_,_,_,_,_,_,rfl,M3.lastA e T.cl⟩⟩)
  refine Qu (ZB e) ?_
  by_cases e2:i+y=a.size
  ·exact Qs (Q1 e2) (Ul ⟨al,.inl ⟨_,_,_,_,_,_,_,rfl,M3.endA e2⟩⟩)
  exact Qu (ZB e2) (QcL (n:=n) T al k2 ⟨M3,Wx (Wx hy' e2) e,hj,by rw[WO];exact Ut M.hn (Rs _ _)⟩ R' hN)
 ·have e0:y=0:=by omega
  subst e0
  exact Qu h0 (QcL T al k2 M R' hN)
theorem Qgt{ac bc:Nat}(T:Two a b)(hk:kindOf st=oneType')(al:Alike st st2)(M:Am a b r i j n):
  wpS (model prog w) A E s (QeR a b r i j ac bc g) (Qln st a b n) st2:=by
 unfold QeR
 refine Ui (W9 (Ri ⟨rfl,?_⟩))
 refine Ui (U4 (I:=λy c st'=>Alike st st'/\∃r i j g ac bc,c=(none,r,i,j,g,ac,bc)/\Am a b r i j (n+y)) ?s2 ?f2 ⟨al,r,i,j,_,ac,bc,rfl,M⟩)
 case f2 =>
  rintro c st' ⟨_,r,i,j,g,ac,bc,rfl,M⟩
  exact(M.no (by omega)).elim
 case s2 =>
  rintro y c st' _ hy ⟨al,r,i,j,g,ac,bc,rfl,M⟩
  have fin:∀g,wpS (model prog w) A E s (Qd6 a b r i j ac bc g) (λr st'=>match r with
    |.done c=>wpS (model prog w) A E s (match c.fst with
      |some o=>pure (ForInStep.done (some o,c.snd.fst,c.snd.snd.fst,c.snd.snd.snd.fst,c.snd.snd.snd.snd.fst))
      |none=>do
       setG (c.snd.snd.snd.snd.fst+1)
       pure (ForInStep.yield (none,c.snd.fst,c.snd.snd.fst,c.snd.snd.snd.fst,c.snd.snd.snd.snd.fst+1)):StateT SortSt Sem (ForInStep StR)) (Qln st a b n) st'
    |.yield c=>Alike st st'/\∃r i j g ac bc,c=(none,r,i,j,g,ac,bc)/\Am a b r i j (n+(y+1))) st':=λg =>
   Tz (QhT (N:=n+(y+1)) T hk al M (Uc _)) λq st4 hq=>by
    cases q with
    |yield c=>exact hq
    |done c =>
     obtain⟨al4,(⟨out,r,i,j,g,ac,bc,rfl,R⟩|⟨r,i,j,g,ac,bc,rfl,M⟩)⟩:=hq
     ·exact Ul ⟨al4,_,_,_,_,_,rfl,R⟩
     ·exact Ui (Qde λst5 h5=>Ul ⟨h5 _ al4,_,_,_,_,rfl,M.mid,M.hi,M.hj,Te M.hn⟩)
  exact Qd5 (Tz (fin _) λq _ h=>by cases q <;> exact h) (Tz (fin _) λq _ h=>by cases q <;> exact h)
theorem Qgu(T:Two a b)(hk:kindOf st=oneType')(al:Alike st st2)(M:Am a b r i j n):
  wpS (model prog w) A E s (QeS a b r i j g) (Qln st a b (n+1)) st2:=by
 unfold QeS
 refine Ui (U4 (I:=λy c st'=>st'=st2/\∃r i j ac bc,c=(none,r,i,j,ac,bc)/\Am a b r i j (n+y)) ?s1 ?f1 ⟨rfl,r,i,j,0,0,rfl,M⟩)
 case f1 =>
  rintro c st' ⟨_,r,i,j,ac,bc,rfl,M⟩
  exact(M.no (by omega)).elim
 case s1 =>
  rintro y c st' _ hy ⟨rfl,r,i,j,ac,bc,rfl,M⟩
  refine Tz (Qjj (N:=n+(y+1)) T (al.1.trans hk) M (Uc _)) λq st4 hq=>?_
  cases q with
  |yield c=>exact hq
  |done c =>
   obtain⟨rfl,(⟨out,r,i,j,ac,bc,rfl,R⟩|⟨r,i,j,ac,bc,rfl,M⟩)⟩:=hq
   ·exact Ul ⟨al,_,_,_,_,_,rfl,R⟩
   ·exact Qgt T hk al ⟨M.mid,M.hi,M.hj,Ut (Ts (RV (U2 y)) n) M.hn⟩
theorem Qna{Q:Array Keyed->SortSt->Prop}(T:Two a b)(hk:kindOf st=oneType')(na:0<a.size)(nb:0<b.size)(h:∀out st',Alike st st'->Mrg out a b->Q out st'):wpS (model prog w) A E s (mlo' a b) Q st:=by
 have M0:Mid a b #[] 0 0:=⟨⟨List.Perm.refl _,by simpa using QfL T.sa,by simpa using QfL T.sb⟩,U2 _,U2 _⟩
 have M1:Mid a b #[b[0]] 0 1:=M0.pushB nb λm _ hm=>UN T.c0 (T.sa 0 m (U2 _) hm)
 rw[Qm9]
 refine Ui (W9 (Ri ⟨rfl,Ui (QM nb ?_)⟩))
 by_cases e1:1=b.size
 ·exact Qs (Q1 e1) (Ul (h _ _ (.refl st) (M1.endB e1)))
 refine Qu (ZB e1) ?_
 by_cases e2:0+1=a.size
 ·exact Qs (Q1 e2) (Ul (h _ _ (.refl st) (M1.lastA e2 T.cl)))
 refine Qu (ZB e2) (Ui (WF ?_))
 unfold Qm8
 refine Ui (U4 (I:=λx c st'=>Alike st st'/\∃r i j g,c=(none,r,i,j,g)/\Am a b r i j (x+1)) ?step ?fin ⟨.refl st,_,0,1,_,rfl,M1,by omega,by omega,Uc 1⟩)
 case fin =>
  rintro c st' ⟨_,r,i,j,g,rfl,M⟩
  exact(M.no (by omega)).elim
 case step =>
  rintro x c st' _ hx ⟨al,r,i,j,g,rfl,M⟩
  refine Tz (Qgu T hk al M) λq st4 hq=>?_
  cases q with
  |yield c=>exact hq
  |done c =>
   obtain⟨al4,out,r,i,j,g,rfl,R⟩:=hq
   exact Ul (h out _ al4 R)
end
structure JH(o p q t:List Keyed):Prop where
 perm:(p++q++o).Perm t
 sp:Srt (p++o)
 sq:Srt (q++o)
theorem JH.swap{o p q t:List Keyed}(h:JH o p q t):JH o q p t :=
 ⟨(RI o RS).trans h.perm,h.sq,h.sp⟩
theorem JH.take{o x p q t:List Keyed}(h:JH o (p++x) q t)(c:∀u∈q,∀v∈x,nk u<=nk v):JH (x++o) p q t:=by
 refine⟨?_,by rw[<-UG];exact h.sp,?_⟩
 ·refine List.Perm.trans ?_ h.perm
  rw[UG p,UG p,UG p]
  refine RQ p ?_
  rw[<-UG,UG x,<-UG]
  exact RI o RS
 have h1:=h.sp
 rw[UG]at h1
 have h2:=U0.mp h.sq
 refine U0.mpr ⟨h2.1,(U0.mp h1).2.1,λu hu v hv=>?_⟩
 rcases Ta.mp hv with hv|hv
 ·exact c u hu v hv
 ·exact h2.2.2 u hu v hv
theorem Qbn(a:Array Keyed)(i:Nat):(a.extract 0 i).toList=a.toList.take i:=by
 rw[Rq,T5,List.drop_zero,Nat.sub_zero]
theorem Qaw(a:Array Keyed)(k i:Nat):(a.extract k i).toList=(a.toList.drop k).take (i-k):=by
 rw[Rq,T5]
theorem QfN{a:Array Keyed}{i:Nat}{y:Keyed}(h:y∈a.toList.take i):∃m,m<i/\m<a.size/\nk y=K a m:=by
 obtain⟨m,hm,e⟩:=Th h
 rw[U5,Um]at hm
 rw[List.getElem_take,To]at e
 exact⟨m,by omega,by omega,by rw[<-e,YN]⟩
theorem QcM{l:List Keyed}{k i:Nat}(h:k<=i):l.take i=l.take k++(l.drop k).take (i-k):=by
 rw[<-List.take_add,show k+(i-k)=i by omega]
theorem QhU{a:Array Keyed}{i:Nat}(h:i<a.size):a.toList.take (i+1)=a.toList.take i++[a[i]]:=by
 rw[UU (by rw[Um];exact h),To]
structure MidH(a b r:Array Keyed)(i j:Nat):Prop where
 jl:JH r.toList.reverse (a.toList.take i) (b.toList.take j) (a.toList++b.toList)
 hi:i<=a.size
 hj:j<=b.size
theorem MidH.size{a b r:Array Keyed}{i j:Nat}(M:MidH a b r i j):r.size+i+j=a.size+b.size:=by
 have:=M.jl.perm.length_eq
 simp only[Us,U5,Um,Rc]at this
 have:=M.hi
 have:=M.hj
 omega
theorem MidH.pushA{a b r:Array Keyed}{i j:Nat}(M:MidH a b r (i+1) j)(h:i<a.size)(c:∀m,m<j->m<b.size->K b m<=K a i):MidH a b (r.push a[i]) i j:=by
 refine⟨?_,U3 h,M.hj⟩
 rw[Rl,Rv,W7]
 refine JH.take (by have:=M.jl;rw[QhU h]at this;exact this) λu hu v hv=>?_
 obtain⟨m,h1,h2,e⟩:=QfN hu
 rw[Uz.mp hv,YN h,e]
 exact c m h1 h2
theorem MidH.pushB{a b r:Array Keyed}{i j:Nat}(M:MidH a b r i (j+1))(h:j<b.size)(c:∀m,m<i->m<a.size->K a m<=K b j):MidH a b (r.push b[j]) i j:=by
 refine⟨?_,M.hi,U3 h⟩
 rw[Rl,Rv,W7]
 refine(JH.take (by have:=M.jl.swap;rw[QhU h]at this;exact this) λu hu v hv=>?_).swap
 obtain⟨m,h1,h2,e⟩:=QfN hu
 rw[Uz.mp hv,YN h,e]
 exact c m h1 h2
theorem MidH.manyA{a b r:Array Keyed}{i j k:Nat}(M:MidH a b r i j)(h:k<=i)(c:∀m n,k<=m->m<i->n<j->n<b.size->K b n<=K a m):MidH a b (r++(a.extract k i).reverse) k j:=by
 refine⟨?_,Ut h M.hi,M.hj⟩
 rw[UO,Rr,Rv,Bv,Qaw]
 refine JH.take (by have:=M.jl;rw[QcM h]at this;exact this) λu hu v hv=>?_
 obtain⟨n,h4,h5,e2⟩:=QfN hu
 obtain⟨m,h1,h2,h3,e⟩:=JY hv
 rw[e,e2]
 exact c m n h1 (by omega) h4 h5
theorem MidH.manyB{a b r:Array Keyed}{i j k:Nat}(M:MidH a b r i j)(h:k<=j)(c:∀m n,k<=m->m<j->n<i->n<a.size->K a n<=K b m):MidH a b (r++(b.extract k j).reverse) i k:=by
 refine⟨?_,M.hi,Ut h M.hj⟩
 rw[UO,Rr,Rv,Bv,Qaw]
 refine(JH.take (by have:=M.jl.swap;rw[QcM h]at this;exact this) λu hu v hv=>?_).swap
 obtain⟨n,h4,h5,e2⟩:=QfN hu
 obtain⟨m,h1,h2,h3,e⟩:=JY hv
 rw[e,e2]
 exact c m n h1 (by omega) h4 h5
theorem MidH.endA{a b r:Array Keyed}{i j:Nat}(M:MidH a b r i j)(h:i=0):Mrg (a.extract 0 i++b.extract 0 j++r.reverse) a b:=by
 subst h
 have p:=M.jl.perm
 rw[WC,Ry]at p
 rw[Mrg,UO,UO,Qbn,Qbn,WC,Ry,Rr]
 exact⟨p,M.jl.sq⟩
theorem MidH.endB{a b r:Array Keyed}{i j:Nat}(M:MidH a b r i j)(h:j=0):Mrg (a.extract 0 i++b.extract 0 j++r.reverse) a b:=by
 subst h
 have p:=M.jl.perm
 rw[WC,UJ]at p
 rw[Mrg,UO,UO,Qbn,Qbn,WC,UJ,Rr]
 exact⟨p,M.jl.sp⟩
theorem MidH.firstB{a b r:Array Keyed}{i j:Nat}(M:MidH a b r i j)(h:j=1)(sa:SortedTo a a.size)(c:K b 0<=K a 0):Mrg (b.extract 0 j++a.extract 0 i++r.reverse) a b:=by
 subst h
 have N:=M.manyA (k:=0) (U2 _) λm n _ h2 h3 _=>by
  rw[show n=0 by omega]
  exact UN c (sa 0 m (by omega) (by have:=M.hi;omega))
 have:=N.endA rfl
 rw[Array.reverse_append,Array.reverse_reverse,<-Rz]at this
 rw[show a.extract 0 0 = #[] by simp,Array.empty_append]at this
 exact this
noncomputable abbrev HiO:=Option (Array Keyed)×Nat×Nat×Array Keyed×Nat×Nat
noncomputable abbrev HiR:=Option (Array Keyed)×Nat×Nat×Array Keyed×Nat
noncomputable abbrev HiL:=Option (Array Keyed)×Nat×Nat×Array Keyed×Nat×Nat×Nat
noncomputable def Qlo(a b:Array Keyed)(g i j:Nat)(r:Array Keyed)(ac bc:Nat):StateT SortSt Sem (ForInStep HiO):=do
 let z <-lt' (<-elem' b (j-1)) (<-elem' a (i-1))
 match z with
 |some y =>
  if y=true then do
   let r:=r.push (<-elem' a (i-1))
   if (i-1 == 0)=true then pure (ForInStep.done (some (a.extract 0 (i-1)++b.extract 0 j++r.reverse),i-1,j,r,ac+1,0))
   else if ac+1>=g then pure (ForInStep.done (none,i-1,j,r,ac+1,0)) else pure (ForInStep.yield (none,i-1,j,r,ac+1,0))
  else do
   let r:=r.push (<-elem' b (j-1))
   if (j-1 == 1)=true then pure (ForInStep.done (some (b.extract 0 (j-1)++a.extract 0 i++r.reverse),i,j-1,r,0,bc+1))
   else if bc+1>=g then pure (ForInStep.done (none,i,j-1,r,0,bc+1)) else pure (ForInStep.yield (none,i,j-1,r,0,bc+1))
 |_=>pure (ForInStep.done (some (a.extract 0 i++b.extract 0 j++r.reverse),i,j,r,ac,bc))
noncomputable def Qdf(a b:Array Keyed)(g k k2 i j:Nat)(r:Array Keyed):StateT SortSt Sem (ForInStep HiL):=do
 let r:=r.push (<-elem' a (i-1))
 if (i-1 == 0)=true then pure (ForInStep.done (some (a.extract 0 (i-1)++b.extract 0 j++r.reverse),i-1,j,r,g,k,k2))
 else if (decide (k<7) && decide (k2<7))=true then pure (ForInStep.done (none,i-1,j,r,g,k,k2))
 else pure (ForInStep.yield (none,i-1,j,r,g,k,k2))
noncomputable def Qdg(a b:Array Keyed)(g k bc i j:Nat)(r:Array Keyed):StateT SortSt Sem (ForInStep HiL):=do
 let r:=r.push (<-elem' b (j-1))
 if (j-1 == 1)=true then pure (ForInStep.done (some (b.extract 0 (j-1)++a.extract 0 i++r.reverse),i,j-1,r,g,k,bc)) else do
  let z <-gal' true (<-elem' a (i-1)) b 0 (j-1) (j-1-1)
  match z with
  |some y =>
   if j-1-y > 0 then
    if (y == 1)=true then pure (ForInStep.done (some (b.extract 0 y++a.extract 0 i++(r++(b.extract y (j-1)).reverse).reverse),i,y,r++(b.extract y (j-1)).reverse,g,k,j-1-y))
    else if (y == 0)=true then pure (ForInStep.done (some (a.extract 0 i++b.extract 0 y++(r++(b.extract y (j-1)).reverse).reverse),i,y,r++(b.extract y (j-1)).reverse,g,k,j-1-y))
    else Qdf a b g k (j-1-y) i y (r++(b.extract y (j-1)).reverse)
   else Qdf a b g k (j-1-y) i (j-1) r
  |_=>pure (ForInStep.done (some (a.extract 0 i++b.extract 0 (j-1)++r.reverse),i,j-1,r,g,k,bc))
noncomputable def Qd7(a b:Array Keyed)(i j:Nat)(r:Array Keyed)(ac bc g:Nat):StateT SortSt Sem (ForInStep HiL):=do
 setG g
 let z <-gal' false (<-elem' b (j-1)) a 0 i (i-1)
 match z with
 |some y =>
  if i-y > 0 then
   if (y == 0)=true then pure (ForInStep.done (some (a.extract 0 y++b.extract 0 j++(r++(a.extract y i).reverse).reverse),y,j,r++(a.extract y i).reverse,g,i-y,bc))
   else Qdg a b g (i-y) bc y j (r++(a.extract y i).reverse)
  else Qdg a b g (i-y) bc i j r
 |_=>pure (ForInStep.done (some (a.extract 0 i++b.extract 0 j++r.reverse),i,j,r,g,ac,bc))
noncomputable def QeT(a b:Array Keyed)(i j:Nat)(r:Array Keyed)(ac bc g:Nat):StateT SortSt Sem (ForInStep HiR):=do
 liftM (rule "list.sort.gallop")
 let c <-forIn [0:a.size+b.size] ((none,i,j,r,g+1,ac,bc):HiL) λ_ c =>
  if c.snd.snd.snd.snd.fst > 1 then Qd7 a b c.snd.fst c.snd.snd.fst c.snd.snd.snd.fst c.snd.snd.snd.snd.snd.fst c.snd.snd.snd.snd.snd.snd (c.snd.snd.snd.snd.fst-1)
  else Qd7 a b c.snd.fst c.snd.snd.fst c.snd.snd.snd.fst c.snd.snd.snd.snd.snd.fst c.snd.snd.snd.snd.snd.snd c.snd.snd.snd.snd.fst
 match c.fst with
 |some o=>pure (ForInStep.done (some o,c.snd.fst,c.snd.snd.fst,c.snd.snd.snd.fst,c.snd.snd.snd.snd.fst))
 |none=>do
  setG (c.snd.snd.snd.snd.fst+1)
  pure (ForInStep.yield (none,c.snd.fst,c.snd.snd.fst,c.snd.snd.snd.fst,c.snd.snd.snd.snd.fst+1))
noncomputable def QeU(a b:Array Keyed)(i j:Nat)(r:Array Keyed)(g:Nat):StateT SortSt Sem (ForInStep HiR):=do
 let c <-forIn [0:a.size+b.size] ((none,i,j,r,0,0):HiO) λ_ c=>Qlo a b g c.snd.fst c.snd.snd.fst c.snd.snd.snd.fst c.snd.snd.snd.snd.fst c.snd.snd.snd.snd.snd
 match c.fst with
 |some o=>pure (ForInStep.done (some o,c.snd.fst,c.snd.snd.fst,c.snd.snd.snd.fst,g))
 |none=>QeT a b c.snd.fst c.snd.snd.fst c.snd.snd.snd.fst c.snd.snd.snd.snd.fst c.snd.snd.snd.snd.snd g
noncomputable def Qnb(a b r:Array Keyed)(g:Nat):StateT SortSt Sem (Array Keyed):=do
 let c <-forIn [0:a.size+b.size] ((none,a.size-1,b.size,r,g):HiR) λ_ c=>QeU a b c.snd.fst c.snd.snd.fst c.snd.snd.snd.fst c.snd.snd.snd.snd
 match c.fst with
 |some o=>pure o
 |none=>liftM (unsupported "internal:list.sort.merge-bound")
theorem Qnc(a b:Array Keyed):mhi' a b=(do
 liftM (rule "list.sort.merge-hi")
 let x <-elem' a (a.size-1)
 if (a.size-1 == 0)=true then pure (a.extract 0 (a.size-1)++b.extract 0 b.size++(#[x]:Array Keyed).reverse)
 else if (b.size == 1)=true then pure (b.extract 0 b.size++a.extract 0 (a.size-1)++(#[x]:Array Keyed).reverse)
 else do
  let t <-get
  Qnb a b #[x] (gallopOf t)):=by
 kernel_rfl
theorem MidH.popA{a b r:Array Keyed}{i j:Nat}(M:MidH a b r i j)(h0:0<i)(h:i-1<a.size)(c:∀m,m<j->m<b.size->K b m<=K a (i-1)):MidH a b (r.push a[i-1]) (i-1) j:=by
 obtain⟨n,rfl⟩:∃n,i=n+1:=⟨i-1,(WV h0).symm⟩
 exact M.pushA h c
theorem MidH.popB{a b r:Array Keyed}{i j:Nat}(M:MidH a b r i j)(h0:0<j)(h:j-1<b.size)(c:∀m,m<i->m<a.size->K a m<=K b (j-1)):MidH a b (r.push b[j-1]) i (j-1):=by
 obtain⟨n,rfl⟩:∃n,j=n+1:=⟨j-1,(WV h0).symm⟩
 exact M.pushB h c
structure AmH(a b r:Array Keyed)(i j n:Nat):Prop where
 mid:MidH a b r i j
 hi:0<i
 hj:1<j
 hn:n<=r.size
noncomputable def PoH(st:SortSt)(a b:Array Keyed)(n N:Nat):ForInStep HiO->SortSt->Prop
 |.done c,st'=>st'=st/\((∃out i j r ac bc,c=(some out,i,j,r,ac,bc)/\Mrg out a b)\/∃i j r ac bc,c=(none,i,j,r,ac,bc)/\AmH a b r i j n)
 |.yield c,st'=>st'=st/\∃i j r ac bc,c=(none,i,j,r,ac,bc)/\AmH a b r i j N
noncomputable def PlH(st:SortSt)(a b:Array Keyed)(n N:Nat):ForInStep HiL->SortSt->Prop
 |.done c,st'=>Alike st st'/\((∃out i j r g ac bc,c=(some out,i,j,r,g,ac,bc)/\Mrg out a b)\/∃i j r g ac bc,c=(none,i,j,r,g,ac,bc)/\AmH a b r i j n)
 |.yield c,st'=>Alike st st'/\∃i j r g ac bc,c=(none,i,j,r,g,ac,bc)/\AmH a b r i j N
noncomputable def PbH(st:SortSt)(a b:Array Keyed)(N:Nat):ForInStep HiR->SortSt->Prop
 |.done c,st'=>Alike st st'/\∃out i j r g,c=(some out,i,j,r,g)/\Mrg out a b
 |.yield c,st'=>Alike st st'/\∃i j r g,c=(none,i,j,r,g)/\AmH a b r i j N
section
variable{prog:Program}{w:World}{A:Around}{E:Value->Shared->Prop}{s:Shared}
variable{st st2:SortSt}{a b r:Array Keyed}{i j n N g:Nat}
theorem AmH.no(M:AmH a b r i j n)(h:a.size+b.size<=n):False:=by
 have:=M.mid.size
 have:=M.hi
 have:=M.hn
 omega
theorem AmH.ia(M:AmH a b r i j n):i-1<a.size:=Ur (Rm M.hi) M.mid.hi
theorem AmH.jb(M:AmH a b r i j n):j-1<b.size:=Ur (Rm M.hj) M.mid.hj
theorem AmH.popA(M:AmH a b r i j n)(c:∀m,m<j->m<b.size->K b m<=K a (i-1))(e:¬i-1=0)(hN:N<=n+1):AmH a b (r.push (a[i-1]'M.ia)) (i-1) j N :=
 ⟨M.mid.popA M.hi M.ia c,Wy e,M.hj,by rw[Wf];exact Ut hN (RV M.hn)⟩
theorem AmH.popB(M:AmH a b r i j n)(c:∀m,m<i->m<a.size->K a m<=K b (j-1))(e:¬j-1=1)(hN:N<=n+1):AmH a b (r.push (b[j-1]'M.jb)) i (j-1) N :=
 ⟨M.mid.popB (Tr M.hj) M.jb c,M.hi,by have:=M.hj;omega,by rw[Wf];exact Ut hN (RV M.hn)⟩
theorem Qjk{ac bc:Nat}(T:Two a b)(hk:kindOf st=oneType')(M:AmH a b r i j n)(hN:N<=n+1):
  wpS (model prog w) A E s (Qlo a b g i j r ac bc) (PoH st a b N N) st:=by
 have hi:=M.ia
 have hj:=M.jb
 unfold Qlo
 refine Ui (QM hj (Ui (QM hi (Ui (QhR hk (T.kb _ (US hj)) (T.ka _ (US hi)) ?_)))))
 rw[YN hj,YN hi]
 by_cases hw:K b (j-1)<K a (i-1)
 ·refine Qs (UC hw) (Ui (QM hi ?_))
  have c:∀m,m<j->m<b.size->K b m<=K a (i-1):=λm h1 _=>UN (T.sb m (j-1) (RK h1) hj) (Tk hw)
  by_cases e:i-1=0
  ·exact Qs (Q1 e) (Ul ⟨rfl,.inl ⟨_,_,_,_,_,_,rfl,(M.mid.popA M.hi hi c).endA e⟩⟩)
  have M':=M.popA c e hN
  exact Qu (ZB e) (Qd5 (Ul ⟨rfl,.inr ⟨_,_,_,_,_,rfl,M'⟩⟩) (Ul ⟨rfl,_,_,_,_,_,rfl,M'⟩))
 ·refine Qu (QbN hw) (Ui (QM hj ?_))
  have c:∀m,m<i->m<a.size->K a m<=K b (j-1):=λm h1 _=>UN (T.sa m (i-1) (RK h1) hi) (RG.mp hw)
  by_cases e:j-1=1
  ·exact Qs (Q1 e) (Ul ⟨rfl,.inl ⟨_,_,_,_,_,_,rfl,(M.mid.popB (Tr M.hj) hj c).firstB e T.sa T.c0⟩⟩)
  have M':=M.popB c e hN
  exact Qu (ZB e) (Qd5 (Ul ⟨rfl,.inr ⟨_,_,_,_,_,rfl,M'⟩⟩) (Ul ⟨rfl,_,_,_,_,_,rfl,M'⟩))
theorem QcN{k k2:Nat}(al:Alike st st2)(M:AmH a b r i j n)(c:∀m,m<j->m<b.size->K b m<=K a (i-1))(hN:N<=n+1):
  wpS (model prog w) A E s (Qdf a b g k k2 i j r) (PlH st a b N N) st2:=by
 unfold Qdf
 refine Ui (QM M.ia ?_)
 by_cases e:i-1=0
 ·exact Qs (Q1 e) (Ul ⟨al,.inl ⟨_,_,_,_,_,_,_,rfl,(M.mid.popA M.hi M.ia c).endA e⟩⟩)
 have M':=M.popA c e hN
 exact Qu (ZB e) (Qd5 (Ul ⟨al,.inr ⟨_,_,_,_,_,_,rfl,M'⟩⟩) (Ul ⟨al,_,_,_,_,_,_,rfl,M'⟩))
theorem Qnd{r x:Array Keyed}{n:Nat}(h:n<=r.size):n<=(r++x).size:=by
 rw[WO];exact Ut h (Rs _ _)
theorem QcO{k bc:Nat}(T:Two a b)(al:Alike st st2)(k2:kindOf st2=oneType')(M:AmH a b r i j n)(c:∀m,m<i->m<a.size->K a m<=K b (j-1))(hN:N<=n+1):
  wpS (model prog w) A E s (Qdg a b g k bc i j r) (PlH st a b N N) st2:=by
 have hi:=M.ia
 have hj:=M.jb
 unfold Qdg
 refine Ui (QM hj ?_)
 by_cases e:j-1=1
 ·exact Qs (Q1 e) (Ul ⟨al,.inl ⟨_,_,_,_,_,_,_,rfl,(M.mid.popB (Tr M.hj) hj c).firstB e T.sa T.c0⟩⟩)
 have M2:AmH a b (r.push b[j-1]) i (j-1) n:=M.popB c e (R0 n)
 refine Qu (ZB e) (Ui (QM hi (Ui ?_)))
 refine QaS k2 (T.ka _ (US hi)) T.kb (by rw[Tv];exact U3 hj) (Rm (Tr M2.hj)) (λx y h1 h2=>T.sb _ _ (Ts h1 _) (by rw[Tv];exact Nat.lt_trans h2 hj)) λy hy pk qk=>?_
 rw[YN hi]at pk qk
 simp only[Tv]at pk qk
 have R:∀m,m<y->K b m<=K a (i-1):=λm h=>Tk (UI (pk m h))
 have R':∀m,y<=m->m<j-1->K a (i-1)<=K b m:=λm h1 h2=>RG.mp (T0 (qk m h1 h2))
 by_cases h0:j-1-y > 0
 ·refine Qs h0 ?_
  have M3:=M2.mid.manyB (k:=y) hy λm n h1 h2 h3 h4=>UN (T.sa n (i-1) (RK h3) hi) (R' m h1 h2)
  by_cases e:y=1
  ·exact Qs (Q1 e) (Ul ⟨al,.inl ⟨_,_,_,_,_,_,_,rfl,M3.firstB e T.sa T.c0⟩⟩)
  refine Qu (ZB e) ?_
  by_cases e2:y=0
  ·exact Qs (Q1 e2) (Ul ⟨al,.inl ⟨_,_,_,_,_,_,_,rfl,M3.endB e2⟩⟩)
  exact Qu (ZB e2) (QcN (n:=n) al ⟨M3,M.hi,by omega,Qnd M2.hn⟩ (λm h _=>R m h) hN)
 ·exact Qu h0 (QcN al M2 (λm h _=>R m (Ur h (by omega))) hN)
theorem QhV{ac bc:Nat}(T:Two a b)(hk:kindOf st=oneType')(al0:Alike st st2)(M:AmH a b r i j n)(hN:N<=n+1):
  wpS (model prog w) A E s (Qd7 a b i j r ac bc g) (PlH st a b N N) st2:=by
 have hj:=M.jb
 unfold Qd7
 refine Ui (Qde λst3 h3=>?_)
 have al:=h3 _ al0
 have k2:=al.1.trans hk
 refine Ui (QM hj (Ui ?_))
 refine QaS k2 (T.kb _ (US hj)) T.ka (by rw[Tv];exact M.mid.hi) (Rm M.hi) (λx y h1 h2=>T.sa _ _ (Ts h1 _) (by rw[Tv];exact Ur h2 M.mid.hi)) λy hy pk qk=>?_
 rw[YN hj]at pk qk
 simp only[Tv]at pk qk
 have R:∀m,m<y->K a m<=K b (j-1):=λm h=>UI (pk m h)
 have R':∀m,y<=m->m<i->K b (j-1)<=K a m:=λm h1 h2=>Tk (Int.not_le.mp (T0 (qk m h1 h2)))
 by_cases h0:i-y > 0
 ·refine Qs h0 ?_
  have M3:=M.mid.manyA (k:=y) hy λm n h1 h2 h3 h4=>UN (T.sb n (j-1) (RK h3) hj) (R' m h1 h2)
  by_cases e2:y=0
  ·exact Qs (Q1 e2) (Ul ⟨al,.inl ⟨_,_,_,_,_,_,_,rfl,M3.endA e2⟩⟩)
  exact Qu (ZB e2) (QcO (n:=n) T al k2 ⟨M3,Wy e2,M.hj,Qnd M.hn⟩ (λm h _=>R m h) hN)
 ·exact Qu h0 (QcO T al k2 M (λm h _=>R m (Ur h (by omega))) hN)
theorem Qgv{ac bc:Nat}(T:Two a b)(hk:kindOf st=oneType')(al:Alike st st2)(M:AmH a b r i j n):
  wpS (model prog w) A E s (QeT a b i j r ac bc g) (PbH st a b n) st2:=by
 unfold QeT
 refine Ui (W9 (Ri ⟨rfl,?_⟩))
 refine Ui (U4 (I:=λy c st'=>Alike st st'/\∃i j r g ac bc,c=(none,i,j,r,g,ac,bc)/\AmH a b r i j (n+y)) ?s2 ?f2 ⟨al,i,j,r,_,ac,bc,rfl,M⟩)
 case f2 =>
  rintro c st' ⟨_,i,j,r,g,ac,bc,rfl,M⟩
  exact(M.no (by omega)).elim
 case s2 =>
  rintro y c st' _ hy ⟨al,i,j,r,g,ac,bc,rfl,M⟩
  have fin:∀g,wpS (model prog w) A E s (Qd7 a b i j r ac bc g) (λr st'=>match r with
    |.done c=>wpS (model prog w) A E s (match c.fst with
      |some o=>pure (ForInStep.done (some o,c.snd.fst,c.snd.snd.fst,c.snd.snd.snd.fst,c.snd.snd.snd.snd.fst))
      |none=>do
       setG (c.snd.snd.snd.snd.fst+1)
       pure (ForInStep.yield (none,c.snd.fst,c.snd.snd.fst,c.snd.snd.snd.fst,c.snd.snd.snd.snd.fst+1)):StateT SortSt Sem (ForInStep HiR)) (PbH st a b n) st'
    |.yield c=>Alike st st'/\∃i j r g ac bc,c=(none,i,j,r,g,ac,bc)/\AmH a b r i j (n+(y+1))) st':=λg =>
   Tz (QhV (N:=n+(y+1)) T hk al M (Uc _)) λq st4 hq=>by
    cases q with
    |yield c=>exact hq
    |done c =>
     obtain⟨al4,(⟨out,i,j,r,g,ac,bc,rfl,R⟩|⟨i,j,r,g,ac,bc,rfl,M⟩)⟩:=hq
     ·exact Ul ⟨al4,_,_,_,_,_,rfl,R⟩
     ·exact Ui (Qde λst5 h5=>Ul ⟨h5 _ al4,_,_,_,_,rfl,M.mid,M.hi,M.hj,Te M.hn⟩)
  exact Qd5 (Tz (fin _) λq _ h=>by cases q <;> exact h) (Tz (fin _) λq _ h=>by cases q <;> exact h)
theorem Qgw(T:Two a b)(hk:kindOf st=oneType')(al:Alike st st2)(M:AmH a b r i j n):
  wpS (model prog w) A E s (QeU a b i j r g) (PbH st a b (n+1)) st2:=by
 unfold QeU
 refine Ui (U4 (I:=λy c st'=>st'=st2/\∃i j r ac bc,c=(none,i,j,r,ac,bc)/\AmH a b r i j (n+y)) ?s1 ?f1 ⟨rfl,i,j,r,0,0,rfl,M⟩)
 case f1 =>
  rintro c st' ⟨_,i,j,r,ac,bc,rfl,M⟩
  exact(M.no (by omega)).elim
 case s1 =>
  rintro y c st' _ hy ⟨rfl,i,j,r,ac,bc,rfl,M⟩
  refine Tz (Qjk (N:=n+(y+1)) T (al.1.trans hk) M (Uc _)) λq st4 hq=>?_
  cases q with
  |yield c=>exact hq
  |done c =>
   obtain⟨rfl,(⟨out,i,j,r,ac,bc,rfl,R⟩|⟨i,j,r,ac,bc,rfl,M⟩)⟩:=hq
   ·exact Ul ⟨al,_,_,_,_,_,rfl,R⟩
   ·exact Qgv T hk al ⟨M.mid,M.hi,M.hj,Ut (Ts (RV (U2 y)) n) M.hn⟩
theorem Qne{Q:Array Keyed->SortSt->Prop}(T:Two a b)(hk:kindOf st=oneType')(na:0<a.size)(nb:0<b.size)(h:∀out st',Alike st st'->Mrg out a b->Q out st'):wpS (model prog w) A E s (mhi' a b) Q st:=by
 have e:∀x:Array Keyed,x.toList.take x.size=x.toList:=λx=>W5 (by rw[Um];exact Uc _)
 have M0:MidH a b #[] a.size b.size:=by
  refine⟨⟨?_,?_,?_⟩,Uc _,Uc _⟩
  ·rw[e,e];simp
  ·rw[e];simpa using QfL T.sa
  ·rw[e];simpa using QfL T.sb
 have ha1:a.size-1<a.size:=Rm na
 have M1:MidH a b #[a[a.size-1]] (a.size-1) b.size:=M0.popA na ha1 λm _ hm=>T.cl m hm
 rw[Qnc]
 refine Ui (W9 (Ri ⟨rfl,Ui (QM ha1 ?_)⟩))
 by_cases e1:a.size-1=0
 ·exact Qs (Q1 e1) (Ul (h _ _ (.refl st) (M1.endA e1)))
 refine Qu (ZB e1) ?_
 by_cases e2:b.size=1
 ·exact Qs (Q1 e2) (Ul (h _ _ (.refl st) (M1.firstB e2 T.sa T.c0)))
 refine Qu (ZB e2) (Ui (WF ?_))
 unfold Qnb
 refine Ui (U4 (I:=λx c st'=>Alike st st'/\∃i j r g,c=(none,i,j,r,g)/\AmH a b r i j (x+1)) ?step ?fin ⟨.refl st,_,_,_,_,rfl,M1,Wy e1,by omega,Uc 1⟩)
 case fin =>
  rintro c st' ⟨_,i,j,r,g,rfl,M⟩
  exact(M.no (by omega)).elim
 case step =>
  rintro x c st' _ hx ⟨al,i,j,r,g,rfl,M⟩
  refine Tz (Qgw T hk al M) λq st4 hq=>?_
  cases q with
  |yield c=>exact hq
  |done c =>
   obtain⟨al4,out,i,j,r,g,rfl,R⟩:=hq
   exact Ul (h out _ al4 R)
end
noncomputable def lay(xs:Array Keyed)(p:Nat)(l:List Keyed)(n:Nat):Array Keyed:=(l.zipIdx n).foldl (λy (v,k)=>y.setIfInBounds (p+k) v) xs
theorem Qnf(i:Nat):mergeAt' i=(do
 let z <-get
 let (some (u,m,pw),some (v,n,_)):=((pendingOf z)[i]?,(pendingOf z)[i+1]?)|unsupported "internal:list.sort.pending"
 set (setPending z (((pendingOf z).setIfInBounds i (u,m+n,pw)).eraseIdxIfInBounds (i+1)))
 let some k <-gal' false (<-elem' (arrOf z) v) (arrOf z) u m 0|return false
 if m-k == 0 then return true
 let some n <-gal' true (<-elem' (arrOf z) (u+k+(m-k) - 1)) (arrOf z) v n (n-1)|return false
 if n == 0 then return true
 let out <-if m-k<=n then mlo' ((arrOf z).extract (u+k) v) ((arrOf z).extract v (v+n)) else mhi' ((arrOf z).extract (u+k) v) ((arrOf z).extract v (v+n))
 modify λz=>setArr z (lay (arrOf z) (u+k) out.toList 0)
 return (failedOf (<-get)).isNone):=by rfl
theorem QfO(p:Nat):∀(l:List Keyed)(n:Nat)(xs:Array Keyed),p+n+l.length<=xs.size ->
  (lay xs p l n).toList=xs.toList.take (p+n)++(l++xs.toList.drop (p+n+l.length))
 |[],n,xs,_=>by
  show xs.toList=_
  rw[List.length_nil,Nat.add_zero,Ry,Tj]
 |v::l,n,xs,h=>by
  rw[UQ]at h ⊢
  have ih:=QfO p l (n+1) (xs.setIfInBounds (p+n) v) (by rw[Array.size_setIfInBounds];omega)
  have e:lay xs p (v::l) n=lay (xs.setIfInBounds (p+n) v) p l (n+1):=rfl
  rw[e,ih,Ws]
  have hl:p+n<xs.toList.length:=by rw[Um];(clear ih e;omega)
  rw[show p+(n+1)=p+n+1 by(clear h ih e hl;omega),UU (by rw[T8];exact hl),List.getElem_set_self,List.take_set_of_le (Uc _),
   List.drop_set_of_lt (by(clear h ih e hl;omega)),UG,show p+n+1+l.length=p+n+(l.length+1) by(clear h ih e hl;omega)]
  rfl
noncomputable def Kl(l:List Keyed)(i:Nat):Int:=match l[i]? with
 |some p=>nk p
 |none=>0
theorem K_l(xs:Array Keyed)(i:Nat):K xs i=Kl xs.toList i:=by
 unfold K Kl
 rw[T4]
 cases xs[i]? <;> rfl
theorem Qng{l:List Keyed}{i:Nat}(h:i<l.length):∃x∈l,Kl l i=nk x:=⟨l[i],UL h,by unfold Kl;rw[UP h]⟩
theorem Qnh{l:List Keyed}(h:Srt l){i j:Nat}(hij:i<=j)(hj:j<l.length):Kl l i<=Kl l j:=by
 unfold Kl
 rw[UP hj,UP (Wz hij hj)]
 by_cases e:i=j
 ·subst e;exact U8 _
 ·exact WG.mp h i j _ hj (by(clear hj;omega))
noncomputable def SOn(xs:Array Keyed)(lo hi:Nat):Prop:=∀i j,lo<=i->i<=j->j<hi->K xs i<=K xs j
theorem Qni{xs out:Array Keyed}{u p q v e:Nat}(hup:u<=p)(hpv:p<v)(hvq:v<=q)(hqe:q<=e)(he:e<=xs.size)(s1:SOn xs u v)(s2:SOn xs v e)(c1:∀m,u<=m->m<p->K xs m<=K xs v)(c2:∀m,q<=m->m<e->K xs (v-1)<=K xs m)(hm:Mrg out (xs.extract p v) (xs.extract v q)):
  (lay xs p out.toList 0).toList.Perm xs.toList/\SOn (lay xs p out.toList 0) u e/\∀m,m<p\/q<=m->K (lay xs p out.toList 0) m=K xs m:=by
 have hlen:out.toList.length=q-p:=by
  have:=hm.1.length_eq
  rw[Us,Qaw,Qaw,U5,U5,TF,TF,Um (xs:=xs)]at this
  (clear hup hm;omega)
 have hL:=QfO p out.toList 0 xs (by(clear hup hm;omega))
 rw[Nat.add_zero,hlen,show p+(q-p)=q by(clear hup hqe he hm hlen hL;omega)]at hL
 have hxy:xs.toList=xs.toList.take p++((xs.extract p v).toList++(xs.extract v q).toList++xs.toList.drop q):=by
  rw[Qaw,Qaw]
  conv=>lhs;rw[<-Tj p xs.toList]
  congr 1
  conv=>lhs;rw[<-Tj (q-p) (xs.toList.drop p),WB,show p+(q-p)=q by(clear hup hqe he hm hlen hL;omega)]
  congr 1
  rw[show q-p=(v-p)+(q-v) by(clear hup hqe he hm hlen hL;omega),List.take_add,WB,show p+(v-p)=v by(clear hup hvq hqe he hm hlen hL;omega)]
 have ltp:(xs.toList.take p).length=p:=by rw[U5,Um];(clear hup hm hlen hL hxy;omega)
 -- the cells
 have kIn:∀m,p<=m->m<q->K (lay xs p out.toList 0) m=Kl out.toList (m-p):=λm h1 h2=>by
  rw[K_l,hL]
  unfold Kl
  rw[Uu (by(clear hup hpv hvq hqe he hm hlen hL hxy h2;omega)),ltp,Uy (by(clear hup hqe he hm hL hxy;omega))]
 have kOut:∀m,m<p\/q<=m->K (lay xs p out.toList 0) m=K xs m:=λm h=>by
  rw[K_l,hL,K_l]
  unfold Kl
  rcases h with h|h
  ·rw[Uy (by(clear hup hpv hvq hqe he hm hlen hL hxy;omega)),Rw h]
  ·rw[Uu (by(clear hup hqe he hm hlen hL hxy;omega)),ltp,Uu (by(clear hup hqe he hm hL hxy;omega)),hlen,List.getElem?_drop,show q+(m-p - (q-p))=m by(clear hup hqe he hm hlen hL hxy;omega)]
 have kMem:∀m,p<=m->m<q->∃n,p<=n/\n<q/\K (lay xs p out.toList 0) m=K xs n:=λm h1 h2=>by
  rw[kIn m h1 h2]
  obtain⟨x,hx,e⟩:=Qng (l:=out.toList) (i:=m-p) (by(clear hup hqe he hm hL hxy;omega))
  rcases Ta.mp (hm.1.mem_iff.mp hx) with hx|hx
  ·rw[Qaw]at hx
   obtain⟨n,h3,h4,_,e'⟩:=JY hx
   exact⟨n,h3,by(clear hup hqe he hm hlen hL hxy h1 h2 e h3 e';omega),e.trans e'⟩
  ·rw[Qaw]at hx
   obtain⟨n,h3,h4,_,e'⟩:=JY hx
   exact⟨n,by(clear hup hvq hqe he hm hlen hL hxy h1 h2 e h4 e';omega),by(clear hup hpv hqe he hm hlen hL hxy ltp h1 h2 e h3 e';omega),e.trans e'⟩
 refine⟨?_,?_,kOut⟩
 ·rw[hL]
  conv=>rhs;rw[hxy]
  exact RQ _ (RI _ hm.1)
 ·intro i j hi hij hj
  by_cases a1:i<p
  ·rw[kOut i (.inl a1)]
   by_cases b1:j<p
   ·rw[kOut j (.inl b1)];exact s1 i j hi hij (by(clear hup hvq hqe he hm hlen hL hxy hi hij hj a1;omega))
   by_cases b2:j<q
   ·obtain⟨n,h3,h4,en⟩:=kMem j (by(clear hup hpv hvq hqe he hm hlen hL hxy hi hij hj a1 b2;omega)) b2
    rw[en]
    by_cases h5:n<v
    ·exact s1 i n hi (by(clear hup hpv hvq hqe he hm hlen hL hxy hi hij hj b1 b2 h4 en h5;omega)) h5
    ·exact UN (c1 i hi a1) (s2 v n (Uc _) (by(clear hup hpv hvq hqe he hm hlen hL hxy ltp hi hij hj a1 b1 b2 h3 h4 en;omega)) (by(clear hup hpv hvq he hm hlen hL hxy ltp hi hij hj a1 b1 b2 h3 en h5;omega)))
   ·rw[kOut j (.inr (by(clear hup hpv hvq hqe he hm hlen hL hxy ltp hi hij hj a1 b1;omega)))]
    exact UN (c1 i hi a1) (s2 v j (Uc _) (by(clear hup hpv hqe he hm hlen hL hxy ltp hi hij hj a1 b1;omega)) hj)
  by_cases a2:i<q
  ·by_cases b2:j<q
   ·rw[kIn i (by(clear hup hpv hvq hqe he hm hlen hL hxy hi hij hj a2 b2;omega)) a2,kIn j (by(clear hup hpv hvq hqe he hm hlen hL hxy hi hj a2 b2;omega)) b2]
    exact Qnh hm.2 (by(clear hup hpv hvq hqe he hm hlen hL hxy hi hj a2 b2;omega)) (by(clear hup hqe he hm hL hxy hi hj a2;omega))
   ·obtain⟨n,h3,h4,en⟩:=kMem i (by(clear hup hpv hvq hqe he hm hlen hL hxy hi hij hj a2 b2;omega)) a2
    rw[en,kOut j (.inr (by(clear hup hpv hvq hqe he hm hlen hL hxy ltp hi hij hj a1 a2 h3 h4 en;omega)))]
    by_cases h5:n<v
    ·exact UN (s1 n (v-1) (by(clear hpv hvq hqe he hm hlen hL hxy hi hij hj a1 a2 b2 h4 en h5;omega)) (by(clear hup hpv hvq hqe he hm hlen hL hxy ltp hi hij hj a1 a2 b2 h3 h4 en;omega)) (by(clear hup hpv hvq hqe he hm hlen hL hxy ltp hi hij hj a1 a2 b2 h3 h4 en;omega))) (c2 j (by(clear hup hpv hvq hqe he hm hlen hL hxy ltp hi hij hj a1 a2 h3 h4 en h5;omega)) hj)
    ·exact s2 n j (by(clear hup hpv hvq hqe he hm hlen hL hxy ltp hi hij hj a1 a2 b2 h3 h4 en;omega)) (by(clear hup hpv hvq hqe he hm hlen hL hxy ltp hi hij hj a1 a2 h3 en h5;omega)) hj
  ·rw[kOut i (.inr (by(clear hup hpv hvq hqe he hm hlen hL hxy ltp hi hij hj a1;omega))),kOut j (.inr (by(clear hup hpv hvq hqe he hm hlen hL hxy ltp hi hj a1;omega)))]
   exact s2 i j (by(clear hup hpv hqe he hm hlen hL hxy ltp hi hij hj a1;omega)) hij hj
section
variable{prog:Program}{w:World}{A:Around}{E:Value->Shared->Prop}{s:Shared}
theorem Qnj{σ:Type}{M:Model}{x:σ}{Q:PUnit->σ->Prop}{st:σ}(h:Q ⟨⟩ x):wpS M A E s (set x:StateT σ Sem PUnit) Q st:=by
 unfold wpS;rw[StateT.run_set];exact Uj ⟨rfl,h⟩
theorem Qgx{xs:Array Keyed}{p q i:Nat}(hq:q<=xs.size)(hi:p+i<q):K (xs.extract p q) i=K xs (p+i) :=
 K_congr (by rw[Array.getElem?_extract,Ud (by omega)])
theorem Qdh{xs:Array Keyed}{p q:Nat}(hq:q<=xs.size):(xs.extract p q).size=q-p:=by
 rw[Array.size_extract];omega
theorem Qkj{xs:Array Keyed}(h:∀x∈xs,KI x)(p q:Nat):∀x∈xs.extract p q,KI x:=λx hx=>by
 have h1:=U9.mpr hx
 rw[Qaw]at h1
 exact h x (U9.mp (List.mem_of_mem_drop (List.mem_of_mem_take h1)))
theorem QfP{xs:Array Keyed}{p q:Nat}(hq:q<=xs.size)(h:SOn xs p q):SortedTo (xs.extract p q) (xs.extract p q).size:=λi j hij hj=>by
 rw[Qdh hq]at hj
 rw[Qgx hq (by(clear hq;omega)),Qgx hq (by(clear hq;omega))]
 exact h _ _ (by(clear hq hij hj;omega)) (by(clear hq hj;omega)) (by(clear hq;omega))
theorem Qnk{st:SortSt}{i u m pw v n pw2:Nat}{Q:Bool->SortSt->Prop}(hk:kindOf st=oneType')(hf:failedOf st=none)(ki:∀x∈arrOf st,KI x)(p1:(pendingOf st)[i]?=some (u,m,pw))(p2:(pendingOf st)[i+1]?=some (v,n,pw2))(hv:v=u+m)(hm:0<m)(hn:0<n)(he:v+n<=(arrOf st).size)(s1:SOn (arrOf st) u v)(s2:SOn (arrOf st) v (v+n))(h:∀st',kindOf st'=oneType'->failedOf st'=none->pendingOf st'=((pendingOf st).setIfInBounds i (u,m+n,pw)).eraseIdxIfInBounds (i+1) ->
   (arrOf st').toList.Perm (arrOf st).toList->SOn (arrOf st') u (v+n)->(∀k,k<u\/v+n<=k->K (arrOf st') k=K (arrOf st) k)->Q true st'):
  wpS (model prog w) A E s (mergeAt' i) Q st:=by
 subst hv
 rw[Qnf]
 refine Ui (WF ?_)
 rw[p1,p2]
 dsimp only
 refine Ui (Qnj ?_)
 have hv':u+m<(arrOf st).size:=by(clear hk hf p1 hm p2;omega)
 refine Ui (QM hv' (Ui ?_))
 refine QaS hk (ki _ (US hv')) ki (by(clear hk hf p1 hm hn p2 he;omega)) hm (λi j h1 h2=>s1 _ _ (by(clear hk hf p1 hm hn p2 he hv' h1 h2;omega)) (by(clear hk hf p1 hm hn p2 he hv' h2;omega)) (by(clear hk hf p1 hm hn p2 he hv' h1;omega))) λk hkm pk qk=>?_
 rw[YN hv']at pk qk
 simp only[LK_f]at pk qk
 dsimp only
 have P:∀x,u<=x->x<u+k->K (arrOf st) x<=K (arrOf st) (u+m):=λx h1 h2=>by
  have:=UI (pk (x-u) (by(clear hk hf p1 hm hn p2 he hv' hkm;omega)))
  rwa[show u+(x-u)=x by(clear hk hf p1 hm hn p2 he hv' hkm h2 this;omega)]at this
 -- nothing to do: sorted as it stands
 have asis:(∀x y,u<=x->x<u+m->u+m<=y->y<u+m+n->K (arrOf st) x<=K (arrOf st) y)->SOn (arrOf st) u (u+m+n):=λc x y h1 h2 h3=>by
  by_cases hy:y<u+m
  ·exact s1 x y h1 h2 hy
  ·by_cases hx:x<u+m
   ·exact c x y h1 hx (by(clear hk hf p1 hm hn p2 he hv' hkm h1 h2 h3 hx;omega)) h3
   ·exact s2 x y (by(clear hk hf p1 hm hn p2 he hv' hkm h1 h2 h3 hy;omega)) h2 h3
 by_cases e1:m-k=0
 ·refine Qs (Q1 e1) ?_
  exact Ul (h _ hk hf rfl (List.Perm.refl _) (asis λx y h1 h2 h3 h4=>UN (P x h1 (by(clear hk hf p1 hm hn p2 he hv' h1 h3 h4;omega))) (s2 _ y (Uc _) h3 h4)) λ_ _=>rfl)
 refine Qu (ZB e1) ?_
 have hl:u+k+(m-k) - 1<(arrOf st).size:=by(clear hk hf p1 hn p2 he e1;omega)
 refine Ui (QM hl (Ui ?_))
 refine QaS hk (ki _ (US hl)) ki (by(clear hk hf p1 hm hn p2 hv' hkm e1 hl;omega)) (by(clear hk hf p1 hm p2 he hv' hkm e1 hl;omega)) (λi j h1 h2=>s2 _ _ (by(clear hk hf p1 hm hn p2 he hv' hkm e1 hl h1 h2;omega)) (by(clear hk hf p1 hm hn p2 he hv' hkm e1 hl h2;omega)) (by(clear hk hf p1 hm hn p2 he hv' hkm e1 hl h1;omega))) λn2 hn2 rk tk=>?_
 rw[YN hl]at rk tk
 simp only[LK_t,show u+k+(m-k) - 1=u+m-1 by(clear hk hf p1 hn p2 he hv' e1 hl hn2;omega)]at rk tk
 dsimp only
 have T:∀y,u+m+n2<=y->y<u+m+n->K (arrOf st) (u+m-1)<=K (arrOf st) y:=λy h1 h2=>by
  have:=RG.mp (T0 (tk (y - (u+m)) (by(clear hk hf p1 hm hn p2 he hv' hkm e1 hl hn2 h2;omega)) (by(clear hk hf p1 hm hn p2 he hv' hkm e1 hl hn2;omega))))
  rwa[show u+m+(y - (u+m))=y by(clear hk hf p1 hm hn p2 he hv' hkm e1 hl hn2 h2 this;omega)]at this
 by_cases e2:n2=0
 ·refine Qs (Q1 e2) ?_
  exact Ul (h _ hk hf rfl (List.Perm.refl _) (asis λx y h1 h2 h3 h4=>UN (s1 x (u+m-1) h1 (by(clear hk hf p1 hm hn p2 he hv' hkm e1 hl hn2 e2 h1 h3 h4;omega)) (by(clear hk hf p1 hm hn p2 he hv' hkm e1 hl hn2 e2 h1 h3 h4;omega))) (T y (by(clear hk hf p1 hm hn p2 he hv' hkm e1 hl hn2 h1 h2 h4;omega)) h4)) λ_ _=>rfl)
 refine Qu (ZB e2) ?_
 have z1:u+m<=(arrOf st).size:=by(clear hk hf p1 hm hn p2 he hkm e1 hl hn2 e2;omega)
 have z2:u+m+n2<=(arrOf st).size:=by(clear hk hf p1 hm hn p2 hv' hkm e1 hl e2 z1;omega)
 have S1:=Qdh (p:=u+k) z1
 have S2:=Qdh (p:=u+m) z2
 have hb:K ((arrOf st).extract (u+m) (u+m+n2)) 0<=K ((arrOf st).extract (u+k) (u+m)) 0:=by
  rw[Qgx z2 (by(clear hk hf p1 hm hn p2 he hv' e1 hl hn2 z1 z2 S1 S2;omega)),Qgx z1 (by(clear hk hf p1 hn p2 he hv' hl hn2 z1 z2 S1;omega))]
  exact Tk (Int.not_le.mp (T0 (qk k (Uc _) (by(clear hk hf p1 hn p2 he hv' hl hn2 z1 z2 S1;omega)))))
 have hc:∀x,x<((arrOf st).extract (u+m) (u+m+n2)).size->K ((arrOf st).extract (u+m) (u+m+n2)) x<=K ((arrOf st).extract (u+k) (u+m)) (((arrOf st).extract (u+k) (u+m)).size-1):=λx hx=>by
  rw[S2]at hx
  rw[S1,Qgx z2 (by(clear hk hf p1 hm hn p2 he hv' hkm e1 hl hn2 e2 z1 z2 S1 S2 hb;omega)),Qgx z1 (by(clear hk hf p1 hn p2 he hv' hl hn2 z1 z2 S1 hb hx;omega)),show u+k+(u+m - (u+k) - 1)=u+m-1 by(clear hk hf p1 hn p2 he hv' hl hn2 z1 z2 S1 hb hx;omega)]
  exact Tk (UI (rk x (by(clear hk hf p1 hm hn p2 he hv' hkm e1 hl hn2 e2 z1 z2 S1 S2 hb;omega))))
 have done:∀out st',Alike (setPending st (((pendingOf st).setIfInBounds i (u,m+n,pw)).eraseIdxIfInBounds (i+1))) st'->Mrg out ((arrOf st).extract (u+k) (u+m)) ((arrOf st).extract (u+m) (u+m+n2)) ->
   wpS (model prog w) A E s (do
    modify λz=>setArr z (lay (arrOf z) (u+k) out.toList 0)
    return (failedOf (<-get)).isNone) Q st':=by
  intro out st' al hM
  refine Ui (WH (Ui (WF ?_)))
  have ea:arrOf st'=arrOf st:=al.2.1
  have ef:failedOf st'=none:=al.2.2.2.trans hf
  have L:=Qni (xs:=arrOf st) (out:=out) (u:=u) (p:=u+k) (q:=u+m+n2) (v:=u+m) (e:=u+m+n) (by(clear hk hf p1 hm hn p2 he hv' hkm e1 hl hn2 e2 z1 z2 S1 S2 hb hM ea ef;omega)) (by(clear hk hf p1 hn p2 he hv' hl hn2 z1 z2 S1 hb hM ea ef;omega)) (by(clear hk hf p1 hm hn p2 he hv' hkm e1 hl hn2 e2 z1 z2 S1 S2 hb hM ea ef;omega)) (by(clear hk hf p1 hm hn p2 he hv' hkm e1 hl e2 z1 z2 S1 S2 hb hM ea ef;omega)) he s1 s2 P T hM
  rw[<-ea]at L
  show wpS _ _ _ _ (pure (failedOf st').isNone) _ _
  rw[ef]
  exact Ul (h _ (al.1.trans hk) ef al.2.2.1 (by rw[<-ea];exact L.1) L.2.1 λx hx=>by rw[<-ea];exact L.2.2 x (by(clear hk hf p1 hm hn p2 he hv' hkm e1 hl e2 z1 z2 S1 S2 hb hM ea ef L;omega)))
 have T2:Two ((arrOf st).extract (u+k) (u+m)) ((arrOf st).extract (u+m) (u+m+n2)) :=
  ⟨Qkj ki _ _,Qkj ki _ _,QfP z1 λx y h1 h2 h3=>s1 x y (Te h1) h2 h3,QfP z2 λx y h1 h2 h3=>s2 x y h1 h2 (Ur h3 (Ts hn2 _)),hb,hc⟩
 have d1:0<((arrOf st).extract (u+k) (u+m)).size:=by(clear hk hf p1 hn p2 he hv' hl hn2 z1 z2 hb;omega)
 have d2:0<((arrOf st).extract (u+m) (u+m+n2)).size:=by(clear hk hf p1 hm hn p2 he hv' e1 hl hn2 z1 z2 S1 hb d1;omega)
 by_cases e3:m-k<=n2
 ·exact Qs e3 (Ui <| Qna (st:=setPending st (((pendingOf st).setIfInBounds i (u,m+n,pw)).eraseIdxIfInBounds (i+1))) T2 hk d1 d2 done)
 ·exact Qu e3 (Ui <| Qne (st:=setPending st (((pendingOf st).setIfInBounds i (u,m+n,pw)).eraseIdxIfInBounds (i+1))) T2 hk d1 d2 done)
end
structure Chg(st st':SortSt)(lo hi:Nat):Prop where
 kind:kindOf st'=kindOf st
 failed:failedOf st'=failedOf st
 pend:pendingOf st'=pendingOf st
 perm:(arrOf st').toList.Perm (arrOf st).toList
 out:∀k,k<lo\/hi<=k->K (arrOf st') k=K (arrOf st) k
theorem Chg.refl(st:SortSt)(lo hi:Nat):Chg st st lo hi:=⟨rfl,rfl,rfl,List.Perm.refl _,λ_ _=>rfl⟩
theorem Chg.trans{st st' st'':SortSt}{lo hi:Nat}(a:Chg st st' lo hi)(b:Chg st' st'' lo hi):Chg st st'' lo hi :=
 ⟨b.kind.trans a.kind,b.failed.trans a.failed,b.pend.trans a.pend,b.perm.trans a.perm,λk h=>(b.out k h).trans (a.out k h)⟩
theorem Chg.size{st st':SortSt}{lo hi:Nat}(a:Chg st st' lo hi):(arrOf st').size=(arrOf st).size:=by
 have:=a.perm.length_eq
 rwa[Um,Um]at this
theorem Chg.ki{st st':SortSt}{lo hi:Nat}(a:Chg st st' lo hi)(h:∀x∈arrOf st,KI x):∀x∈arrOf st',KI x :=
 λx hx=>h x (U9.mp (a.perm.mem_iff.mp (U9.mpr hx)))
theorem Chg.wide{st st':SortSt}{lo hi lo' hi':Nat}(a:Chg st st' lo hi)(h1:lo'<=lo)(h2:hi<=hi'):Chg st st' lo' hi' :=
 ⟨a.kind,a.failed,a.pend,a.perm,λk h=>a.out k (by omega)⟩
noncomputable def NOn(xs:Array Keyed)(lo hi:Nat):Prop:=∀i j,lo<=i->i<=j->j<hi->K xs j<=K xs i
theorem JZ{st:SortSt}{i j:Nat}(hj:j<=(arrOf st).size):Chg st (setArr st (mirror (arrOf st) i j ((j-i) / 2))) i j :=
 ⟨rfl,rfl,rfl,Rn.mp (mirror_perm _ _ _ _),λk h=>by
  show K (mirror _ _ _ _) k=_
  rw[K_mirror hj,Ue (by(clear hj;omega))]⟩
section
variable{prog:Program}{w:World}{A:Around}{E:Value->Shared->Prop}{s:Shared}
theorem QbO{st:SortSt}{i j:Nat}{Q:Option Bool->SortSt->Prop}(hk:kindOf st=oneType')(ki:∀x∈arrOf st,KI x)(hi:i<(arrOf st).size)(hj:j<(arrOf st).size)(h:Q (some (decide (K (arrOf st) i<K (arrOf st) j))) st):wpS (model prog w) A E s (ltAt' i j) Q st:=by
 rw[ltAt'_eq]
 refine Ui (WF ?_)
 refine Ui (QM hi (Ui (QM hj (QhR hk (ki _ (US hi)) (ki _ (US hj)) ?_))))
 rw[YN hi,YN hj]
 exact h
theorem Qor(lo n ok:Nat):binarySort' lo n ok=(do
 for k in [max ok 1:n] do
  let mut l:=0
  let mut r:=k
  for _ in [0:k] do
   if l>=r then break
   let some y <-ltAt' (lo+k) (lo+(l+r) / 2)|return false
   if y then r:=(l+r) / 2 else l:=(l+r) / 2+1
  moveDown' (lo+k) (lo+l)
 return true):=by rfl
theorem Qos{st:SortSt}{lo n ok:Nat}{Q:Bool->SortSt->Prop}(hk:kindOf st=oneType')(ki:∀x∈arrOf st,KI x)(hn:lo+n<=(arrOf st).size)(hok:ok<=n)(so:SOn (arrOf st) lo (lo+ok))(h:∀st',Chg st st' lo (lo+n)->SOn (arrOf st') lo (lo+n)->Q true st'):wpS (model prog w) A E s (binarySort' lo n ok) Q st:=by
 rw[Qor]
 refine Ui (Tz (U4 (I:=λk c st'=>c=(none,())/\Chg st st' lo (lo+n)/\SOn (arrOf st') lo (lo+min k n))
  (Q:=λc st'=>c=(none,())/\Chg st st' lo (lo+n)/\SOn (arrOf st') lo (lo+n)) ?step ?fin ⟨rfl,.refl _ _ _,?init⟩) ?post)
 case post =>
  rintro c st' ⟨rfl,c',s'⟩
  exact Ul (h st' c' s')
 case init =>
  intro i j h1 h2 h3
  by_cases e:i=j
  ·subst e;exact U8 _
  ·exact so i j h1 h2 (by(clear hk hn;omega))
 case fin =>
  rintro c st' ⟨rfl,c',s'⟩
  exact⟨rfl,c',by rwa[show min (max (max ok 1) n) n=n by(clear hk hn hok;omega)]at s'⟩
 case step =>
  rintro k c st' hak hkn ⟨rfl,C,S⟩
  rw[show min k n=k by(clear hk hn hok hak;omega)]at S
  have hz:lo+k<(arrOf st').size:=by rw[C.size];(clear hk hok hak;omega)
  refine Ui (Tz (U4 (I:=λx c st''=>st''=st'/\∃l r,c=(none,l,r)/\l<=r/\r<=k/\r-l<=k-x /\
    (∀i,i<l->K (arrOf st') (lo+i)<=K (arrOf st') (lo+k))/\(∀i,r<=i->i<k->K (arrOf st') (lo+k)<K (arrOf st') (lo+i)))
   (Q:=λc st''=>st''=st'/\∃l r,c=(none,l,r)/\l<=k /\
    (∀i,i<l->K (arrOf st') (lo+i)<=K (arrOf st') (lo+k))/\(∀i,l<=i->i<k->K (arrOf st') (lo+k)<K (arrOf st') (lo+i))) ?s1 ?f1
    ⟨rfl,0,k,rfl,by(clear hk hn hok hak hkn hz;omega),by(clear hk hn hok hak hkn hz;omega),by(clear hk hn hok hak hkn hz;omega),λi hi=>by(clear hk hn hok hak hkn hz;omega),λi h1 h2=>by(clear hk hn hok hak hkn hz;omega)⟩) ?p1)
  case f1 =>
   rintro c st'' ⟨rfl,l,r,rfl,a1,a2,a3,a4,a5⟩
   have e:l=r:=by(clear hk hn hok hak hkn hz a2;omega)
   subst e
   exact⟨rfl,l,l,rfl,a2,a4,a5⟩
  case s1 =>
   rintro x c st'' _ hx ⟨rfl,l,r,rfl,a1,a2,a3,a4,a5⟩
   dsimp only
   by_cases hge:l>=r
   ·refine Qs hge ?_
    have e:l=r:=by(clear hk hn hok hak hkn hx hz a2 a3;omega)
    subst e
    exact Ul ⟨rfl,l,l,rfl,a2,a4,a5⟩
   ·refine Qu hge ?_
    refine Ui (QbO (C.kind.trans hk) (C.ki ki) hz (by(clear hk hn hok hak hkn hx a1 a3;omega)) ?_)
    dsimp only
    by_cases hl:K (arrOf st'') (lo+k)<K (arrOf st'') (lo+(l+r) / 2)
    ·refine Qs (UC hl) ?_
     exact Ul ⟨rfl,l,(l+r) / 2,rfl,by(clear hk hn hok hak hkn hx hz a1 a2 a3 hl;omega),by(clear hk hn hok hak hkn hx hz a1 a3 hl;omega),by(clear hk hn hok hak hkn hz a1 a2 hl;omega),a4,λi h1 h2=>Int.lt_of_lt_of_le hl (S _ _ (by(clear hk hn hok hak hkn hx hz a1 a2 a3 hl h1 h2;omega)) (by(clear hk hn hok hak hkn hx hz a1 a2 a3 hge hl h2;omega)) (by(clear hk hn hok hak hkn hx hz a1 a2 a3 hge hl h1;omega)))⟩
    ·refine Qu (QbN hl) ?_
     exact Ul ⟨rfl,(l+r) / 2+1,r,rfl,by(clear hk hn hok hak hkn hx hz a1 a2 a3 hl;omega),by(clear hk hn hok hak hkn hx hz a1 a3 hge hl;omega),by(clear hk hn hok hak hkn hz a1 a2 hl;omega),λi h1=>UN (S _ (lo+(l+r) / 2) (by(clear hk hn hok hak hkn hx hz a1 a2 a3 hge hl h1;omega)) (by(clear hk hn hok hak hkn hx hz a1 a2 a3 hge hl;omega)) (by(clear hk hn hok hak hkn hx hz a1 a3 hl h1;omega))) (RG.mp hl),a5⟩
  case p1 =>
   rintro c st'' ⟨rfl,l,r,rfl,hl,a4,a5⟩
   dsimp only
   rw[moveDown'_eq]
   have kb:=λm=>K_bubble (xs:=arrOf st'') (src:=lo+k) (d:=lo+k - (lo+l)) hz (by(clear hk hn hok hak hkn hz;omega)) m
   rw[show lo+k - (lo+k - (lo+l))=lo+l by(clear hk hn hok hak hkn hz;omega)]at kb
   refine Ui (WH (Ul ⟨rfl,C.trans ⟨rfl,rfl,rfl,Rn.mp (bubble_perm _ _ _),λm hm=>?_⟩,?_⟩))
   ·show K (bubble _ _ _) m=_
    rw[kb,Ue (by(clear hk hn hok hak hz;omega)),Ue (by(clear hk hn hok hak hz hl;omega))]
   ·rw[show min (k+1) n=k+1 by(clear hk hn hok hak hz hl;omega)]
    intro i j h1 h2 h3
    show K (bubble _ _ _) i<=K (bubble _ _ _) j
    have lo4:∀m,lo<=m->m<lo+l->K (arrOf st'') m<=K (arrOf st'') (lo+k):=λm q1 q2=>by
     have:=a4 (m-lo) (by(clear hk hn hok hak hkn hz hl h1 h2 h3;omega))
     rwa[show lo+(m-lo)=m by(clear hk hn hok hak hkn hz hl h1 h2 h3 q2 this;omega)]at this
    have hi5:∀m,lo+l<=m->m<lo+k->K (arrOf st'') (lo+k)<=K (arrOf st'') m:=λm q1 q2=>by
     have:=a5 (m-lo) (by(clear hk hn hok hak hkn hz hl h1 h2 h3 q2;omega)) (by(clear hk hn hok hak hkn hz hl h1 h2 h3;omega))
     rw[show lo+(m-lo)=m by(clear hk hn hok hak hkn hz hl h1 h2 h3 q2 this;omega)]at this
     exact Tk this
    rw[kb,kb]
    by_cases i1:i=lo+l
    ·rw[Ud i1]
     by_cases j1:j=lo+l
     ·rw[Ud j1];exact U8 _
     ·rw[Ue j1,Ud (by(clear hk hn hok hak hkn hz hl h1;omega))];exact hi5 _ (by(clear hk hn hok hak hkn hz hl h1 h3;omega)) (by(clear hk hn hok hak hkn hz hl h1;omega))
    ·rw[Ue i1]
     by_cases i2:lo+l<i/\i<=lo+k
     ·rw[Ud i2,Ue (by(clear hk hn hok hak hkn hz hl h1 h3 i1;omega)),Ud (by(clear hk hn hok hak hkn hz hl h1 i1;omega))]
      exact S _ _ (by(clear hk hn hok hak hkn hz hl h2 h3 i1;omega)) (by(clear hk hn hok hak hkn hz hl h1 h3 i1;omega)) (by(clear hk hn hok hak hkn hz hl h1 i1;omega))
     ·rw[Ue i2]
      by_cases j1:j=lo+l
      ·rw[Ud j1];exact lo4 _ h1 (by(clear hk hn hok hak hkn hz hl h1;omega))
      ·rw[Ue j1]
       by_cases j2:lo+l<j/\j<=lo+k
       ·rw[Ud j2];exact S _ _ h1 (by(clear hk hn hok hak hkn hz hl h1 i1;omega)) (by(clear hk hn hok hak hkn hz hl h1 h2 i1 i2 j1;omega))
       ·rw[Ue j2];exact S _ _ h1 h2 (by(clear hk hn hok hak hkn hz h1 h2 i1 i2;omega))
end
noncomputable def upL(lo b nr:Nat):StateT SortSt Sem (Option (Option Nat)×Nat) :=
 forIn [b:nr] ((none,b):Option (Option Nat)×Nat) λ_ c=>do
  let z <-ltAt' (lo+c.snd) (lo+c.snd-1)
  match z with
  |some y=>if y=true then pure (ForInStep.done (none,c.snd)) else pure (ForInStep.yield (none,c.snd+1))
  |_=>pure (ForInStep.done (some none,c.snd))
noncomputable def endP(lo n nr:Nat):StateT SortSt Sem (Option Nat):=do
 reverseSlice' lo (lo+n)
 let c <-upL lo n nr
 match c.fst with
 |some r=>pure r
 |none=>pure (some c.snd)
noncomputable def dnL(lo n nr:Nat):StateT SortSt Sem (Option (Option Nat)×Nat×Nat) :=
 forIn [n:nr] ((none,n,0):Option (Option Nat)×Nat×Nat) λ_ c=>do
  let z <-ltAt' (lo+c.snd.fst) (lo+c.snd.fst-1)
  match z with
  |some y =>
   if y=true then
    if c.snd.snd > 0 then do
     reverseSlice' (lo+c.snd.fst - (c.snd.snd+1)) (lo+c.snd.fst)
     pure (ForInStep.yield (none,c.snd.fst+1,0))
    else pure (ForInStep.yield (none,c.snd.fst+1,0))
   else do
    let z <-ltAt' (lo+c.snd.fst-1) (lo+c.snd.fst)
    match z with
    |some g=>if g=true then pure (ForInStep.done (none,c.snd.fst,c.snd.snd)) else pure (ForInStep.yield (none,c.snd.fst+1,c.snd.snd+1))
    |_=>pure (ForInStep.done (some none,c.snd.fst,c.snd.snd))
  |_=>pure (ForInStep.done (some none,c.snd.fst,c.snd.snd))
noncomputable def dnP(lo n nr:Nat):StateT SortSt Sem (Option Nat):=do
 liftM (rule "list.sort.descending-run")
 let c <-dnL lo (n+1) nr
 match c.fst with
 |some r=>pure r
 |none =>
  if c.snd.snd > 0 then do
   reverseSlice' (lo+c.snd.fst - (c.snd.snd+1)) (lo+c.snd.fst)
   endP lo c.snd.fst nr
  else endP lo c.snd.fst nr
theorem Qot(lo nr:Nat):countRun' lo nr=(do
  let c <-upL lo 1 nr
  match c.fst with
  |some r=>pure r
  |none =>
   if (c.snd == nr)=true then pure (some c.snd)
   else if c.snd > 1 then do
    let z <-ltAt' lo (lo+c.snd-1)
    match z with
    |some y=>if y=true then pure (some c.snd) else do
      reverseSlice' lo (lo+c.snd)
      dnP lo c.snd nr
    |_=>pure none
   else dnP lo c.snd nr):=by
 rw[countRun'_eq]
 dsimp only
 unfold dnP endP dnL upL
 congr 1
 funext c
 obtain⟨r,n⟩:=c
 cases r with
 |some r=>rfl
 |none =>
  dsimp only
  split
  ·rfl
  ·split
   ·congr 1
    funext z
    cases z with
    |none=>rfl
    |some y =>
     dsimp only
     split
     ·rfl
     ·congr 1
      funext _
      congr 1;funext _;congr 1;funext c2;obtain⟨r2,n2,q2⟩:=c2;cases r2 with
      |some r2=>rfl
      |none=>(dsimp only;split;(congr 1;funext _;(congr 1;funext _;congr 1;funext c3;obtain⟨r3,n3⟩:=c3;cases r3 <;> rfl));(congr 1;funext _;congr 1;funext c3;obtain⟨r3,n3⟩:=c3;cases r3 <;> rfl))
   ·congr 1;funext _;congr 1;funext c2;obtain⟨r2,n2,q2⟩:=c2;cases r2 with
    |some r2=>rfl
    |none=>(dsimp only;split;(congr 1;funext _;(congr 1;funext _;congr 1;funext c3;obtain⟨r3,n3⟩:=c3;cases r3 <;> rfl));(congr 1;funext _;congr 1;funext c3;obtain⟨r3,n3⟩:=c3;cases r3 <;> rfl))
section
variable{prog:Program}{w:World}{A:Around}{E:Value->Shared->Prop}{s:Shared}{st:SortSt}{lo nr:Nat}
theorem Qkk{b:Nat}{Q:Option (Option Nat)×Nat->SortSt->Prop}(hk:kindOf st=oneType')(ki:∀x∈arrOf st,KI x)(hn:lo+nr<=(arrOf st).size)(hb:1<=b)(hbn:b<=nr)(so:SOn (arrOf st) lo (lo+b))(h:∀n,b<=n->n<=nr->SOn (arrOf st) lo (lo+n)->(n=nr\/K (arrOf st) (lo+n)<K (arrOf st) (lo+n-1))->Q (none,n) st):
  wpS (model prog w) A E s (upL lo b nr) Q st:=by
 unfold upL
 refine U4 (I:=λx c st'=>st'=st/\c=(none,x)/\SOn (arrOf st) lo (lo+x)) ?step ?fin ⟨rfl,rfl,so⟩
 case fin =>
  rintro c st' ⟨rfl,rfl,s'⟩
  rw[show max b nr=nr by(clear hb hk hn;omega)]at s' ⊢
  exact h nr hbn (Uc _) s' (.inl rfl)
 case step =>
  rintro x c st' h1 h2 ⟨rfl,rfl,s'⟩
  dsimp only
  refine Ui (QbO hk ki (by(clear hb hbn h1 hk;omega)) (by(clear hbn hk;omega)) ?_)
  dsimp only
  by_cases hl:K (arrOf st') (lo+x)<K (arrOf st') (lo+x-1)
  ·refine Qs (UC hl) ?_
   exact Ul (h x h1 (by(clear hb hbn h1 hk hn hl;omega)) s' (.inr hl))
  ·refine Qu (QbN hl) ?_
   refine Ul ⟨rfl,rfl,λi j q1 q2 q3=>?_⟩
   by_cases e:j<lo+x
   ·exact s' i j q1 q2 e
   ·have e':j=lo+x:=by(clear hb hbn h1 h2 hk hn hl q1 q2;omega)
    subst e'
    by_cases e2:i=lo+x
    ·subst e2;exact U8 _
    ·exact UN (s' i (lo+x-1) q1 (by(clear hbn h2 hk hn hl q1 q3 e;omega)) (by(clear hbn h2 hk hn hl q1 q2 q3 e e2;omega))) (RG.mp hl)
theorem QhW{st0:SortSt}{n:Nat}{Q:Option Nat->SortSt->Prop}(hk:kindOf st0=oneType')(ki:∀x∈arrOf st0,KI x)(hn:lo+nr<=(arrOf st0).size)(C:Chg st0 st lo (lo+nr))(h1:1<=n)(h2:n<=nr)(so:NOn (arrOf st) lo (lo+n))(h:∀m st',Chg st0 st' lo (lo+nr)->1<=m->m<=nr->SOn (arrOf st') lo (lo+m)->Q (some m) st'):wpS (model prog w) A E s (endP lo n nr) Q st:=by
 unfold endP
 have hz:lo+n<=(arrOf st).size:=by rw[C.size];(clear hk h1;omega)
 refine Ui (wpS_reverse ?_)
 have C':Chg st0 (setArr st (mirror (arrOf st) lo (lo+n) ((lo+n-lo) / 2))) lo (lo+nr):=C.trans ((JZ hz).wide (Uc _) (by(clear hk hn h1 hz;omega)))
 refine Ui (Qkk (C'.kind.trans hk) (C'.ki ki) (by rw[C'.size];exact hn) h1 h2 (λi j q1 q2 q3=>?_) λm q1 q2 q3 _=>Ul (h m _ C' (by(clear hk hn h2 hz q2;omega)) q2 q3))
 show K (mirror _ _ _ _) i<=K (mirror _ _ _ _) j
 rw[K_mirror hz,K_mirror hz,Ud (by(clear hk hn h1 h2 hz;omega)),Ud (by(clear hk hn h1 h2 hz;omega))]
 exact so _ _ (by(clear hk hn h1 h2 hz q1 q2;omega)) (by(clear hk hn h1 h2 hz q1;omega)) (by(clear hk hn h1 h2 hz q2;omega))
theorem Qnl{st0:SortSt}{n:Nat}{Q:Option (Option Nat)×Nat×Nat->SortSt->Prop}(hk:kindOf st0=oneType')(ki:∀x∈arrOf st0,KI x)(hn:lo+nr<=(arrOf st0).size)(C:Chg st0 st lo (lo+nr))(h1:1<=n)(h2:n<=nr)(so:NOn (arrOf st) lo (lo+n))(h:∀m q st',Chg st0 st' lo (lo+nr)->n<=m->m<=nr->NOn (arrOf st') lo (lo+m)->q+1<=m->(∀i,lo+m - (q+1)<=i->i<lo+m->K (arrOf st') i=K (arrOf st') (lo+m-1))->Q (none,m,q) st'):
  wpS (model prog w) A E s (dnL lo n nr) Q st:=by
 unfold dnL
 refine U4 (I:=λx c st'=>∃q,c=(none,x,q)/\Chg st0 st' lo (lo+nr)/\NOn (arrOf st') lo (lo+x)/\q+1<=x /\
   (∀i,lo+x - (q+1)<=i->i<lo+x->K (arrOf st') i=K (arrOf st') (lo+x-1))) ?step ?fin ⟨0,rfl,C,so,by(clear hk hn h2;omega),λi q1 q2=>by congr 1;(clear hk hn h2;omega)⟩
 case fin =>
  rintro c st' ⟨q,rfl,C',s',hq,he⟩
  rw[show max n nr=nr by(clear hk hn h1 hq;omega)]at s' hq he ⊢
  exact h nr q st' C' h2 (Uc _) s' hq he
 case step =>
  rintro x c st' a1 a2 ⟨q,rfl,C',s',hq,he⟩
  dsimp only
  have hz:lo+x<(arrOf st').size:=by rw[C'.size];(clear hk h1 h2 a1 hq;omega)
  have more:∀xs:Array Keyed,(∀k,K xs k=K (arrOf st') k)->K (arrOf st') (lo+x)<=K (arrOf st') (lo+x-1)->NOn xs lo (lo+(x+1)):=by
   intro xs hx hl i j q1 q2 q3
   rw[hx,hx]
   by_cases e:j<lo+x
   ·exact s' i j q1 q2 e
   ·have e':j=lo+x:=by(clear hk hn h1 h2 a1 a2 hq hz hl q1 q2;omega)
    subst e'
    by_cases e2:i=lo+x
    ·subst e2;exact U8 _
    ·exact UN hl (s' i (lo+x-1) q1 (by(clear hk hn h1 h2 a1 a2 hq hz hl q1 q3 e;omega)) (by(clear hk hn h2 a2 hq hz hl q1 q2 q3 e e2;omega)))
  refine Ui (QbO (C'.kind.trans hk) (C'.ki ki) hz (by(clear hk hn h2 a2 hq;omega)) ?_)
  dsimp only
  by_cases hl:K (arrOf st') (lo+x)<K (arrOf st') (lo+x-1)
  ·refine Qs (UC hl) ?_
   by_cases hq0:q > 0
   ·refine Qs hq0 ?_
    refine Ui (wpS_reverse (Ul ⟨0,rfl,C'.trans ((JZ (by(clear hk hn h1 h2 a1 a2 hq hl hq0;omega))).wide (by(clear hk hn h1 h2 a1 a2 hz hl hq0;omega)) (by(clear hk hn h1 h2 a1 hq hz hl hq0;omega))),more _ (λk=>RM (by(clear hk hn h1 h2 a1 a2 hq hl hq0;omega)) he k) (Tk hl),by(clear hk hn h1 h2 a1 a2 hq hz hl hq0;omega),λi q1 q2=>by congr 1;(clear hk hn h2 a2 hq hz hl hq0;omega)⟩))
   ·refine Qu hq0 ?_
    exact Ul ⟨0,rfl,C',more _ (λ_=>rfl) (Tk hl),by(clear hk hn h1 h2 a1 a2 hq hz hl hq0;omega),λi q1 q2=>by congr 1;(clear hk hn h2 a2 hq hz hl hq0;omega)⟩
  ·refine Qu (QbN hl) ?_
   refine Ui (QbO (C'.kind.trans hk) (C'.ki ki) (by(clear hk hn h2 a2 hq hl;omega)) hz ?_)
   dsimp only
   by_cases hg:K (arrOf st') (lo+x-1)<K (arrOf st') (lo+x)
   ·refine Qs (UC hg) ?_
    exact Ul (h x q st' C' a1 (by(clear hk hn h1 h2 a1 hq hz hl hg;omega)) s' hq he)
   ·refine Qu (QbN hg) ?_
    have e:K (arrOf st') (lo+x)=K (arrOf st') (lo+x-1):=by(clear hk hn h1 h2 a1 a2 hq hz;omega)
    refine Ul ⟨q+1,rfl,C',more _ (λ_=>rfl) (by(clear hk hn h1 h2 a1 a2 hq hz e;omega)),by(clear hk hn h1 h2 a1 a2 hz hl hg e;omega),λi q1 q2=>?_⟩
    rw[show lo+(x+1) - 1=lo+x by(clear hk hn h2 a2 hq hz hl hg e q1 q2;omega)]
    by_cases e2:i=lo+x
    ·subst e2;rfl
    ·rw[e];exact he i (by(clear hk hn h1 h2 a1 a2 hz hl hg e;omega)) (by(clear hk hn h1 h2 a1 a2 hq hz hl hg e q1;omega))
theorem Qkl{st0:SortSt}{n:Nat}{Q:Option Nat->SortSt->Prop}(hk:kindOf st0=oneType')(ki:∀x∈arrOf st0,KI x)(hn:lo+nr<=(arrOf st0).size)(C:Chg st0 st lo (lo+nr))(h2:n+1<=nr)(so:NOn (arrOf st) lo (lo+(n+1)))(h:∀m st',Chg st0 st' lo (lo+nr)->1<=m->m<=nr->SOn (arrOf st') lo (lo+m)->Q (some m) st'):wpS (model prog w) A E s (dnP lo n nr) Q st:=by
 unfold dnP
 refine Ui (W9 (Ri ⟨rfl,?_⟩))
 refine Ui (Qnl hk ki hn C (by(clear hk hn h2;omega)) h2 so λm q st' C' m1 m2 s' hq he=>?_)
 dsimp only
 have hz:lo+m<=(arrOf st').size:=by rw[C'.size];(clear hk h2 m1 hq;omega)
 by_cases hq0:q > 0
 ·refine Qs hq0 ?_
  refine Ui (wpS_reverse (QhW hk ki hn (C'.trans ((JZ hz).wide (by(clear hk hn h2 m1 m2 hz hq0;omega)) (by(clear hk hn h2 m1 hq hz hq0;omega)))) (by(clear hk hn h2 m1 m2 hz;omega)) m2 (λi j q1 q2 q3=>?_) h))
  show K (mirror _ _ _ _) j<=K (mirror _ _ _ _) i
  rw[RM hz he,RM hz he]
  exact s' i j q1 q2 q3
 ·refine Qu hq0 ?_
  exact QhW hk ki hn C' (by(clear hk hn h2 m1 m2 hz;omega)) m2 s' h
theorem Qou{Q:Option Nat->SortSt->Prop}(hk:kindOf st=oneType')(ki:∀x∈arrOf st,KI x)(hn:lo+nr<=(arrOf st).size)(h1:1<=nr)(h:∀m st',Chg st st' lo (lo+nr)->1<=m->m<=nr->SOn (arrOf st') lo (lo+m)->Q (some m) st'):wpS (model prog w) A E s (countRun' lo nr) Q st:=by
 rw[Qot]
 have one:SOn (arrOf st) lo (lo+1):=λi j q1 q2 q3=>by
  have e:i=j:=by(clear hk hn h1;omega)
  subst e
  exact U8 _
 refine Ui (Qkk hk ki hn (Uc 1) h1 one λn n1 n2 sn hor=>?_)
 dsimp only
 by_cases e:n=nr
 ·refine Qs (Q1 e) ?_
  exact Ul (h n st (.refl _ _ _) n1 n2 sn)
 refine Qu (ZB e) ?_
 have hl:=hor.resolve_left e
 by_cases hg:n > 1
 ·refine Qs hg ?_
  refine Ui (QbO hk ki (by(clear hk n1 n2 hor e hl hg;omega)) (by(clear hk h1 n1 hor e hl;omega)) ?_)
  dsimp only
  by_cases hr:K (arrOf st) lo<K (arrOf st) (lo+n-1)
  ·refine Qs (UC hr) ?_
   exact Ul (h n st (.refl _ _ _) n1 n2 sn)
  ·refine Qu (QbN hr) ?_
   have hz:lo+n<=(arrOf st).size:=by(clear hk h1 n1 hor e hl hg hr;omega)
   have all:∀k,lo<=k->k<lo+n->K (arrOf st) k=K (arrOf st) (lo+n-1):=λk q1 q2=>by
    have:=sn lo k (Uc _) q1 q2
    have:=sn k (lo+n-1) q1 (by(clear hk hn h1 n1 n2 hor e hl hg hr hz q1 this;omega)) (by(clear hk hn h1 n1 n2 hor e hl hr hz q1 q2 this;omega))
    (clear hk hn h1 n1 n2 hor e hl hg hz q1 q2;omega)
   refine Ui (wpS_reverse (Qkl hk ki hn ((JZ hz).wide (Uc _) (by(clear hk hn h1 n1 hor e hl hg hr hz;omega))) (by(clear hk hn h1 n1 hor hl hg hr hz;omega)) (λi j q1 q2 q3=>?_) h))
   show K (mirror _ _ _ _) j<=K (mirror _ _ _ _) i
   rw[RM hz all,RM hz all]
   by_cases ej:j<lo+n
   ·rw[all i q1 (by(clear hk hn h1 n1 n2 hor e hl hg hr hz q1 q3;omega)),all j (by(clear hk hn h1 n1 n2 hor e hl hg hr hz q3 ej;omega)) ej];exact U8 _
   ·have ej':j=lo+n:=by(clear hk hn h1 n1 n2 hor e hl hg hr hz q1 q2;omega)
    subst ej'
    by_cases ei:i=lo+n
    ·subst ei;exact U8 _
    ·rw[all i q1 (by(clear hk hn h1 n1 n2 hor e hl hg hr hz q1 q3 ej;omega))];exact Tk hl
 ·refine Qu hg ?_
  have e1:n=1:=by(clear hk hn h1 n2 hor e hl;omega)
  subst e1
  refine Qkl hk ki hn (.refl _ _ _) (by(clear hk hn n1 n2 hor hl hg;omega)) (λi j q1 q2 q3=>?_) h
  by_cases ei:i=j
  ·subst ei;exact U8 _
  ·have e2:i=lo:=by(clear hk hn h1 n1 n2 hor e hl hg;omega)
   have e3:j=lo+1:=by(clear hk hn h1 n1 n2 hor e hl hg q1;omega)
   subst e2;subst e3
   exact Tk hl
end
noncomputable abbrev Pn:=Nat×Nat×Nat
noncomputable def Tl(xs:Array Keyed):Nat->List Pn->Nat->Prop
 |a,[],b=>a=b
 |a,x::r,b=>x.1=a/\0<x.2.1/\SOn xs a (a+x.2.1)/\Tl xs (a+x.2.1) r b
theorem Tl.le{xs:Array Keyed}:∀{p:List Pn}{a b:Nat},Tl xs a p b->a+p.length<=b
 |[],_,_,h=>RN h
 |x::r,a,b,h=>by
  have:=Tl.le h.2.2.2
  have:=h.2.1
  rw[UQ]
  omega
theorem Tl.app{xs:Array Keyed}:∀{p q:List Pn}{a b:Nat},Tl xs a (p++q) b->∃c,Tl xs a p c/\Tl xs c q b
 |[],_,a,_,h=>⟨a,rfl,h⟩
 |_::_,_,_,_,h=>let ⟨c,h1,h2⟩:=Tl.app h.2.2.2;⟨c,⟨h.1,h.2.1,h.2.2.1,h1⟩,h2⟩
theorem Tl.glue{xs:Array Keyed}:∀{p q:List Pn}{a c b:Nat},Tl xs a p c->Tl xs c q b->Tl xs a (p++q) b
 |[],_,_,_,_,h,k=>by cases h;exact k
 |_::_,_,_,_,_,h,k=>⟨h.1,h.2.1,h.2.2.1,Tl.glue h.2.2.2 k⟩
theorem Tl.same{xs ys:Array Keyed}:∀{p:List Pn}{a b:Nat},Tl xs a p b->(∀k,a<=k->k<b->K ys k=K xs k)->Tl ys a p b
 |[],_,_,h,_=>h
 |x::r,a,b,h,e=>by
  have hl:=Tl.le h.2.2.2
  refine⟨h.1,h.2.1,λi j h1 h2 h3=>?_,Tl.same h.2.2.2 λk h1 h2=>e k (by omega) h2⟩
  rw[e i h1 (by omega),e j (by omega) (by omega)]
  exact h.2.2.1 i j h1 h2 h3
theorem Tl.pow{xs:Array Keyed}(f:Pn->Pn)(hf:∀x,(f x).1=x.1/\(f x).2.1=x.2.1):∀{p:List Pn}{i a b:Nat},Tl xs a p b->Tl xs a (p.modify i f) b
 |[],i,_,_,h=>by cases i <;> exact h
 |x::r,0,a,b,h=>by
  show Tl xs a (f x::r) b
  unfold Tl
  rw[(hf x).1,(hf x).2]
  exact h
 |_::_,_+1,_,_,h=>⟨h.1,h.2.1,h.2.2.1,Tl.pow f hf h.2.2.2⟩
theorem Qnm{l:List Pn}{i:Nat}(h:i+1<l.length):∃p x y q,l=p++x::y::q/\p.length=i:=by
 refine⟨l.take i,l[i],l[i+1],l.drop (i+2),?_,by rw[U5];omega⟩
 rw[<-Rt h,<-Rt (by omega),Tj]
theorem Qnn(p q:List Pn)(x y z:Pn):((p++x::y::q).set p.length z).eraseIdx (p.length+1)=p++z::q:=by
 rw[Bk _ _ (Uc _),Nat.sub_self,List.set_cons_zero,List.eraseIdx_append_of_length_le (Rs _ 1),RE,WU,List.eraseIdx_cons_zero]
structure Std(a₀:Array Keyed)(st:SortSt)(hi:Nat):Prop where
 kind:kindOf st=oneType'
 failed:failedOf st=none
 perm:(arrOf st).toList.Perm a₀.toList
 tl:Tl (arrOf st) 0 (pendingOf st).toList hi
 le:hi<=a₀.size
theorem Std.size{a₀:Array Keyed}{st:SortSt}{hi:Nat}(h:Std a₀ st hi):(arrOf st).size=a₀.size:=by
 have:=h.perm.length_eq
 rwa[Um,Um]at this
theorem Std.ki{a₀:Array Keyed}{st:SortSt}{hi:Nat}(h:Std a₀ st hi)(k:∀x∈a₀,KI x):∀x∈arrOf st,KI x :=
 λx hx=>k x (U9.mp (h.perm.mem_iff.mp (U9.mpr hx)))
section
variable{prog:Program}{w:World}{A:Around}{E:Value->Shared->Prop}{s:Shared}{a₀:Array Keyed}
theorem QhX{st:SortSt}{i hi:Nat}{Q:Bool->SortSt->Prop}(k0:∀x∈a₀,KI x)(S:Std a₀ st hi)(h1:i+1<(pendingOf st).size)(h:∀st',Std a₀ st' hi->(pendingOf st').size+1=(pendingOf st).size->(∀k,hi<=k->K (arrOf st') k=K (arrOf st) k)->Q true st'):
  wpS (model prog w) A E s (mergeAt' i) Q st:=by
 obtain⟨p,⟨u,m,pw⟩,⟨v,n,pw2⟩,q,e,hp⟩:=Qnm (l:=(pendingOf st).toList) (i:=i) (by rw[Um];exact h1)
 have T:=S.tl
 rw[e]at T
 obtain⟨c,T1,T2⟩:=T.app
 obtain⟨e1,m0,so1,e2,n0,so2,T3⟩:=T2
 dsimp only at e1 m0 so1 e2 n0 so2 T3
 subst e1
 subst e2
 have l3:=T3.le
 have l1:=T1.le
 have l0:=S.le
 have hz:=S.size
 have g1:(pendingOf st)[i]?=some (u,m,pw):=by
  rw[<-T4,e,Uu (by omega),hp,Nat.sub_self];rfl
 have g2:(pendingOf st)[i+1]?=some (u+m,n,pw2):=by
  rw[<-T4,e,Uu (by omega),hp,RE];rfl
 refine Qnk S.kind S.failed (S.ki k0) g1 g2 rfl m0 n0 (by omega) so1 so2 λst' hk hf hpe hpm hso hout=>?_
 have ep:(pendingOf st').toList=p++(u,m+n,pw)::q:=by
  rw[hpe,Array.toList_eraseIdxIfInBounds,Ws,e,<-hp,Qnn]
 refine h st' ⟨hk,hf,hpm.trans S.perm,?_,l0⟩ ?_ λk hk=>hout k (.inr (by omega))
 ·rw[ep]
  refine(T1.same λk _ h2=>hout k (.inl h2)).glue ⟨rfl,by show 0<m+n;omega,?_,?_⟩
  ·show SOn _ u (u+(m+n))
   rw[<-Nat.add_assoc];exact hso
  ·show Tl _ (u+(m+n)) q hi
   rw[<-Nat.add_assoc]
   exact T3.same λk h2 _=>hout k (.inr h2)
 ·rw[<-Um,ep,<-Um (xs:=pendingOf st),e,Us,Us]
  rfl
end
noncomputable def Qd8(z lo n:Nat):StateT SortSt Sem (ForInStep (Option Unit×Nat)):=do
 let t <-get
 match (pendingOf t).back? with
 |some (u,m,_)=>do
  let c <-forIn [0:z] ((none,()):Option Unit×Unit) λ_ _=>do
   let t <-get
   match (if (pendingOf t).size > 1 then (pendingOf t)[(pendingOf t).size-2]? else none) with
   |some (_,_,o) =>
    if o<=power' z (2*u+m) (2*u+m+m+n) z then pure (ForInStep.done (none,())) else do
     let y <-mergeAt' ((pendingOf t).size-2)
     if (!y)=true then pure (ForInStep.done (some (),())) else pure (ForInStep.yield (none,()))
   |_=>pure (ForInStep.done (none,()))
  match c.fst with
  |some r=>pure (ForInStep.done (some r,lo))
  |none=>do
   modify λt=>setPending t ((pendingOf t).modify ((pendingOf t).size-1) λx=>(x.fst,x.snd.fst,power' z (2*u+m) (2*u+m+m+n) z))
   modify λt=>setPending t ((pendingOf t).push (lo,n,0))
   pure (ForInStep.yield (none,lo+n))
 |_=>do
  modify λt=>setPending t ((pendingOf t).push (lo,n,0))
  pure (ForInStep.yield (none,lo+n))
section
variable{prog:Program}{w:World}{A:Around}{E:Value->Shared->Prop}{s:Shared}{a₀:Array Keyed}
theorem Std.push{st:SortSt}{lo n:Nat}(S:Std a₀ st lo)(h0:0<n)(hn:lo+n<=a₀.size)(so:SOn (arrOf st) lo (lo+n)):
  Std a₀ (setPending st ((pendingOf st).push (lo,n,0))) (lo+n):=by
 refine⟨S.kind,S.failed,S.perm,?_,hn⟩
 show Tl (arrOf st) 0 ((pendingOf st).push (lo,n,0)).toList (lo+n)
 rw[Rl]
 exact S.tl.glue ⟨rfl,h0,so,rfl⟩
noncomputable def Qov(a₀:Array Keyed)(v:Nat):ForInStep (Option Unit×Nat)->SortSt->Prop
 |.done _,_=>False
 |.yield c,st'=>c=(none,v)/\Std a₀ st' v
theorem QhY{st:SortSt}{z lo n:Nat}(k0:∀x∈a₀,KI x)(S:Std a₀ st lo)(h0:0<n)(hn:lo+n<=a₀.size)(so:SOn (arrOf st) lo (lo+n)):
  wpS (model prog w) A E s (Qd8 z lo n) (Qov a₀ (lo+n)) st:=by
 unfold Qd8
 refine Ui (WF ?_)
 cases hb:(pendingOf st).back? with
 |none=>exact Ui (WH (Ul ⟨rfl,S.push h0 hn so⟩))
 |some x =>
  obtain⟨u,m,pw⟩:=x
  dsimp only
  refine Ui (Tz (U4 (I:=λ_ c st'=>c=(none,())/\Std a₀ st' lo/\SOn (arrOf st') lo (lo+n)) (Q:=λc st'=>c=(none,())/\Std a₀ st' lo/\SOn (arrOf st') lo (lo+n))
   ?step (λ_ _ h=>h) ⟨rfl,S,so⟩) ?post)
  case post =>
   rintro c st' ⟨rfl,S',so'⟩
   dsimp only
   refine Ui (WH (Ui (WH (Ul ⟨rfl,Std.push (st:=setPending st' _) ⟨S'.kind,S'.failed,S'.perm,?_,S'.le⟩ h0 hn so'⟩))))
   show Tl (arrOf st') 0 ((pendingOf st').modify _ _).toList lo
   rw[Array.toList_modify]
   exact Tl.pow (λx=>(x.fst,x.snd.fst,power' z (2*u+m) (2*u+m+m+n) z)) (λ_=>⟨rfl,rfl⟩) S'.tl
  case step =>
   rintro x c st' _ _ ⟨rfl,S',so'⟩
   refine Ui (WF ?_)
   by_cases h1:(pendingOf st').size > 1
   ·rw[Ud h1]
    cases hg:(pendingOf st')[(pendingOf st').size-2]? with
    |none=>exact Ul ⟨rfl,S',so'⟩
    |some y =>
     obtain⟨y1,y2,o⟩:=y
     dsimp only
     split
     ·exact Ul ⟨rfl,S',so'⟩
     ·refine Ui (QhX k0 S' (by(clear h0 hn hb hg;omega)) λst2 S2 _ ho=>?_)
      rw[Ue (by decide)]
      refine Ul ⟨rfl,S2,λi j q1 q2 q3=>?_⟩
      rw[ho i q1,ho j (by(clear h0 hn hb h1 hg q3;omega))]
      exact so' i j q1 q2 q3
   ·rw[Ue h1]
    exact Ul ⟨rfl,S',so'⟩
theorem Qlp{st:SortSt}{Q:Unit->SortSt->Prop}(k0:∀x∈a₀,KI x)(S:Std a₀ st 0)(h:∀st',(arrOf st').Perm a₀->failedOf st'=none->SortedTo (arrOf st') a₀.size->Q () st'):wpS (model prog w) A E s sortRuns' Q st:=by
 rw[sortRuns'_eq]
 refine Ui (WF ?_)
 dsimp only
 generalize minRun' (arrOf st).size (arrOf st).size 0=mr
 have hz:=S.size
 generalize hzz:(arrOf st).size=z at hz
 have hz2:=hz
 clear hzz
 refine Ui (Tz (U4 (I:=λx c st'=>∃lo,c=(none,lo)/\Std a₀ st' lo/\(x<=lo\/lo=z))
  (Q:=λc st'=>c=(none,z)/\Std a₀ st' z) ?step ?fin ⟨0,rfl,S,.inl (Uc _)⟩) ?post)
 case fin =>
  rintro c st' ⟨lo,rfl,S',hx⟩
  have:=S'.le
  have e:lo=z:=by(clear hz2;omega)
  subst e
  exact⟨rfl,S'⟩
 case step =>
  rintro x c st' _ hx ⟨lo,rfl,S',hlo⟩
  dsimp only
  have hle:=S'.le
  by_cases hge:lo>=z
  ·refine Qs hge ?_
   have e:lo=z:=by(clear hz2 hx hlo;omega)
   subst e
   exact Ul ⟨rfl,S'⟩
  refine Qu hge ?_
  have hs:=S'.size
  refine Ui (Qou S'.kind (S'.ki k0) (by(clear hz2 hx hlo hle;omega)) (by(clear hz2 hx hlo hle;omega)) λm st2 C2 m1 m2 so2=>?_)
  have S2:Std a₀ st2 lo:=⟨C2.kind.trans S'.kind,C2.failed.trans S'.failed,C2.perm.trans S'.perm,by
   rw[C2.pend];exact S'.tl.same λk _ h2=>C2.out k (.inl h2),hle⟩
  dsimp only
  have fin:∀{n:Nat}{st3:SortSt}(q:StateT SortSt Sem (ForInStep (Option Unit×Nat))),q=Qd8 z lo n->0<n->lo+n<=a₀.size->Std a₀ st3 lo->SOn (arrOf st3) lo (lo+n) ->
    wpS (model prog w) A E s q (λr st'=>match r with
     |.done c=>c=(none,z)/\Std a₀ st' z
     |.yield c=>∃lo,c=(none,lo)/\Std a₀ st' lo/\(x+1<=lo\/lo=z)) st3:=by
   rintro n st3 _ rfl n0 hn S3 so3
   refine Tz (QhY k0 S3 n0 hn so3) λr st4 hr=>?_
   cases r with
   |done c=>exact hr.elim
   |yield c=>exact⟨lo+n,hr.1,hr.2,by(clear hz2 hx hle m1 m2;omega)⟩
  by_cases hm:m<mr
  ·refine Qs hm ?_
   refine Ui (W9 (Ri ⟨rfl,?_⟩))
   have hz3:=S2.size
   refine Ui (Qos S2.kind (S2.ki k0) (n:=min (z-lo) mr) (by(clear hz2 hx hlo hle m1 m2 hm;omega)) (by(clear hz hz2 hx hlo hle hge hs m1 hz3;omega)) so2 λst3 C3 so3=>?_)
   rw[Ue (by decide)]
   have S3:Std a₀ st3 lo:=⟨C3.kind.trans S2.kind,C3.failed.trans S2.failed,C3.perm.trans S2.perm,by
    rw[C3.pend];exact S2.tl.same λk _ h2=>C3.out k (.inl h2),hle⟩
   refine Tz (fin (n:=min (z-lo) mr) _ ?_ (by(clear hz hz2 hx hlo hle hge hs hz3;omega)) (by(clear hz2 hx hlo hle m1 m2 hm;omega)) S3 so3) λr _ h=>by cases r <;> exact h
   unfold Qd8
   congr 1
   funext t
   cases (pendingOf t).back? with
   |none=>rfl
   |some x =>
    obtain⟨u,m,pw⟩:=x
    dsimp only
    congr 1
    funext c
    obtain⟨r,u'⟩:=c
    cases r <;> rfl
  ·refine Qu hm ?_
   refine Tz (fin (n:=m) _ ?_ (by(clear hz hz2 hx hlo hle hge hs m2 hm;omega)) (by(clear hz2 hx hlo hle m1 hm;omega)) S2 so2) λr _ h=>by cases r <;> exact h
   unfold Qd8
   congr 1
   funext t
   cases (pendingOf t).back? with
   |none=>rfl
   |some x =>
    obtain⟨u,m,pw⟩:=x
    dsimp only
    congr 1
    funext c
    obtain⟨r,u'⟩:=c
    cases r <;> rfl
 case post =>
  rintro c st' ⟨rfl,S'⟩
  dsimp only
  refine Ui (Tz (U4 (I:=λx c st'=>c=(none,())/\Std a₀ st' z/\((pendingOf st').size<=1\/(pendingOf st').size+x<=z))
   (Q:=λc st'=>c=(none,())/\Std a₀ st' z/\(pendingOf st').size<=1) ?s1 ?f1 ⟨rfl,S',.inr ?i1⟩) ?p1)
  case i1 =>
   have:=S'.tl.le
   rw[Um]at this
   (clear hz2;omega)
  case f1 =>
   rintro c st2 ⟨rfl,S2,hp⟩
   exact⟨rfl,S2,by(clear hz2;omega)⟩
  case p1 =>
   rintro c st2 ⟨rfl,S2,hp⟩
   dsimp only
   refine Ul (h st2 (Rn.mpr S2.perm) S2.failed ?_)
   intro i j hij hj
   have T:=S2.tl
   rw[<-Um]at hp
   cases hl:(pendingOf st2).toList with
   |nil =>
    rw[hl]at T
    have:0=z:=T
    (clear hz2 hp hij hl;omega)
   |cons x r =>
    rw[hl]at T hp
    have hr:r=[]:=by
     cases r with
     |nil=>rfl
     |cons _ _=>simp at hp
    subst hr
    have e:0+x.2.1=z:=T.2.2.2
    exact T.2.2.1 i j (U2 _) hij (by(clear hz2 hij hp hl;omega))
  case s1 =>
   rintro x c st2 _ hx ⟨rfl,S2,hp⟩
   refine Ui (WF ?_)
   by_cases h1:(pendingOf st2).size<=1
   ·rw[Ud h1]
    exact Ul ⟨rfl,S2,h1⟩
   rw[Ue h1]
   have go:∀i,i+1<(pendingOf st2).size->wpS (model prog w) A E s (do
     let y <-mergeAt' i
     if (!y)=true then pure (ForInStep.done (some (),())) else pure (ForInStep.yield (none,())))
     (λr st'=>match r with
      |.done c=>c=(none,())/\Std a₀ st' z/\(pendingOf st').size<=1
      |.yield c=>c=((none,()):Option Unit×Unit)/\Std a₀ st' z/\((pendingOf st').size<=1\/(pendingOf st').size+(x+1)<=z)) st2:=λi hi =>
    Ui (QhX k0 S2 hi λst3 S3 hs _=>by
     rw[Ue (by decide)]
     exact Ul ⟨rfl,S3,by(clear hz2 hx h1 hi;omega)⟩)
   by_cases hc:Option.any (λq=>decide (q<(pendingOf st2)[(pendingOf st2).size-2+1]?.elim 0 λx=>x.2.1)) (if (pendingOf st2).size-2 > 0 then (pendingOf st2)[(pendingOf st2).size-2-1]?.map (λx=>x.2.1) else none)=true
   ·rw[Ud hc]
    exact Tz (go _ (by(clear hz hz2 hx hp hc;omega))) λr _ h=>by cases r <;> exact h
   ·rw[Ue hc]
    exact Tz (go _ (by(clear hz hz2 hx hp hc;omega))) λr _ h=>by cases r <;> exact h
end
section
variable{prog:Program}{w:World}{A:Around}{E:Value->Shared->Prop}{s:Shared}
theorem Qjl{p:Addr}{us:List Value}{zs:List Int}{e0:Nat}{P:Fin->Shared->Prop}(ho:s.heap.get? p=some (seqObj "list" us.toArray e0))(hu:IntsAre us zs)(hl:us.length<=sizeLine)(h:∀(out:Array Value) (ys:List Int),IntsAre out.toList ys->ys.Perm zs->ys.Pairwise (· <= ·)->P (.done (.ret .none)) {s with heap:=sortedHeap s.heap p us out}):
  wpAny (model prog w) A (Builtin.«list.sort» ⟨[.ref p],[]⟩) P E s:=by
 by_cases h64:us.length<64
 ·exact list_sort_tree ho hu h64 h
 rw[list_sort_plain]
 have hp:p<s.heap.objs.size:=Uk ho
 have hs:us.toArray.size=us.length:=Uf
 refine Ua (listItems_at ho rfl (Ua (listUpdate_at ho rfl ?_ (by rw[hs];exact hl) (U2 _))))
 obtain⟨e1,o1⟩:∃e1,(s.heap.update p (Obj.mapSeq λ_=>#[])).get? p=some (seqObj "list" #[] e1):=⟨_,get?_update_seq ho (λ_=>#[])⟩
 refine Ua (seqEpoch_at o1 rfl (Ua (wpAny_newTuple (Ua (wpAny_newList (TU ?_))))))
 have o2:(((s.heap.update p (Obj.mapSeq λ_=>#[])).push (seqObj "tuple" us.toArray 0)).push (seqObj "list" #[] 0)).get? p=some (seqObj "list" #[] e1):=by
  rw[Heap.get?_push_ne _ _ _ (by rw[size_push',WZ];exact UF (Nat.lt_succ_of_lt hp)),
   Heap.get?_push_ne _ _ _ (by rw[WZ];exact UF hp)]
  exact o1
 show wpAny (model prog w) A _ P E
  {s with heap:=((s.heap.update p (Obj.mapSeq λ_=>#[])).push (seqObj "tuple" us.toArray 0)).push (seqObj "list" #[] 0)}
 dsimp only
 rw[Ue (by omega),Ue (by omega)]
 have kk:keyKind' us.toArray=pure oneType':=by
  match us,hu,h64 with
  |[],_,h64=>exact absurd (show(0:Nat)<64 by omega) h64
  |[_],_,h64=>exact absurd (show(1:Nat)<64 by omega) h64
  |_::_::_,hu,_=>exact keyKind_ints hu
 rw[kk]
 have KS:∀x∈pairsOf us,KI x:=λx hx=>hu.intKeys x (U9.mpr hx)
 have ST:Std (pairsOf us) (SortSt.mk' oneType' (us.toArray.zip us.toArray) #[] 7 none) 0:=⟨rfl,rfl,List.Perm.refl _,rfl,U2 _⟩
 refine Ua (Uj (Ua (Tf (Qlp KS ST
  (Q:=λ_ t=>(arrOf t).Perm (pairsOf us)/\failedOf t=none/\SortedTo (arrOf t) (pairsOf us).size) λt b1 b2 b3=>⟨b1,b2,b3⟩) ?_ λ_ _ x=>x)))
 rintro ⟨⟨⟩,t⟩ s' ⟨rfl,b1,b2,b3⟩
 dsimp only
 refine Ua (seqEpoch_at o2 rfl (Ua (listUpdate_at o2 rfl ?_ (U2 _) ?_)))
 ·rw[b2]
  simp only[bne_self_eq_false,Rh,WK]
  obtain⟨ys,c1,c2,c3⟩:=sorted_out hu b1 b3
  exact Uj (h _ ys c1 c2 c3)
 ·have:=b1.size_eq
  rw[pairsOf_size]at this
  rw[Array.size_map]
  exact Ut (RN this) (Nat.le_succ_of_le hl)
theorem sorted_any{p:Addr}{us:List Value}{zs:List Int}{Q:Value->Shared->Prop}(hp:s.heap.IsList p us.toArray)(hu:IntsAre us zs)(hl:us.length<=sizeLine)(h:∀(out:Array Value) (ys:List Int),IntsAre out.toList ys->ys.Perm zs->ys.Pairwise (· <= ·)->Q (.ref (s.heap.objs.size+1)) {s with heap:=sortedAll s.heap us out}):
  wpAny (model prog w) A (call (.builtin "sorted") [.ref p]) Q E s:=by
 refine Calls.call_function_entry kind_sorted plain_sorted entry_sorted (args_sorted1 _) ?_
 unfold Builtin.«sorted»
 refine Ua (m:=checkCount "sorted" 1 1 _) (Uj (Ua (collect_list hp (Ua (wpAny_newList ?_)) hl)))
 have z:((s.heap.push (seqObj "list" #[] 0)).update s.heap.objs.size (Obj.mapSeq (· ++ us.toArray))).objs.size=s.heap.objs.size+1:=by rw[WZ,size_push']
 have o:(((s.heap.push (seqObj "list" #[] 0)).update s.heap.objs.size (Obj.mapSeq (· ++ us.toArray))).push (seqObj "list" us.toArray 0)).get? (s.heap.objs.size+1)
   = some (seqObj "list" us.toArray 0):=by rw[<-z];exact Uo _ rfl
 show wpAny _ _ _ _ _
  {s with heap:=((s.heap.push (seqObj "list" #[] 0)).update s.heap.objs.size (Obj.mapSeq (· ++ us.toArray))).push (seqObj "list" us.toArray 0)}
 rw[z]
 refine Ua (TU (TV slot_list_sort ⟨_,o,rfl⟩ entry_list_sort (Qjl o hu hl λout ys b1 b2 b3=>⟨_,rfl,Uj ⟨_,rfl,h out ys b1 b2 b3⟩⟩) (args_list_sort _)))
end
end SO
namespace L3
open PySem
noncomputable def insZ(x:Int):List Int->List Int
 |[]=>[x]
 |y::r=>if x<=y then x::y::r else y::insZ x r
noncomputable def Yz:List Int->List Int
 |[]=>[]
 |x::r=>insZ x (Yz r)
noncomputable def Qaj(x:D)(g:G):Res D:=match QB g x with
 |some (true,ds)=>(match QdT ds with
  |some ns=>.ok (.ref g.length) (g++[.lst ((Yz ns).map .int)])
  |none=>.stuck)
 |_=>.stuck
theorem QbP(x:Int):∀l:List Int,(insZ x l).Perm (x::l)
 |[]=>.refl _
 |y::r=>by
  unfold insZ
  split
  ·exact .refl _
  ·exact((QbP x r).cons y).trans (List.Perm.swap x y r)
theorem Ym:∀l:List Int,(Yz l).Perm l
 |[]=>.refl _
 |x::r=>(QbP x (Yz r)).trans ((Ym r).cons x)
theorem QbQ(x:Int):∀l:List Int,l.Pairwise (· <= ·)->(insZ x l).Pairwise (· <= ·)
 |[],_=>by simp[insZ]
 |y::r,h=>by
  unfold insZ
  have h':=TB.mp h
  split
  ·rename_i hxy
   exact TB.mpr ⟨λz hz=>by
    rcases UD.mp hz with rfl|hz
    ·exact hxy
    ·exact UN hxy (h'.1 z hz),h⟩
  ·rename_i hxy
   refine TB.mpr ⟨λz hz=>?_,QbQ x r h'.2⟩
   rcases UD.mp ((QbP x r).mem_iff.mp hz) with rfl|hz
   ·omega
   ·exact h'.1 z hz
theorem JM:∀l:List Int,(Yz l).Pairwise (· <= ·)
 |[]=>.nil
 |x::r=>QbQ x _ (JM r)
theorem QbR:∀(l m:List Int),l.Perm m->l.Pairwise (· <= ·)->m.Pairwise (· <= ·)->l=m
 |[],m,h,_,_=>(List.nil_perm.mp h).symm
 |x::l,[],h,_,_=>by have:=h.length_eq;simp at this
 |x::l,y::m,h,hl,hm=>by
  have hl':=TB.mp hl
  have hm':=TB.mp hm
  have e:x=y:=by
   have h1:x∈y::m:=h.mem_iff.mp (Uv ..)
   have h2:y∈x::l:=h.mem_iff.mpr (Uv ..)
   have a:y<=x:=by
    rcases UD.mp h1 with e|h1
    ·omega
    ·exact hm'.1 x h1
   have b:x<=y:=by
    rcases UD.mp h2 with e|h2
    ·omega
    ·exact hl'.1 y h2
   omega
  subst e
  rw[QbR l m ((List.perm_cons x).mp h) hl'.2 hm'.2]
end L3
namespace L3
open PySem PySem.Spec PyProof.Rows L2
section
variable{X:Cx}{ca:Nat->Addr}{a b e o i:Expr}{ma mb me mo mi:ME}{pos p p2 apos:Pos}{k:Nat}
theorem intsAre_of:∀{ns:List Int}{us:List Value},Vals (ns.map V.int) us->IntsAre us ns
 |[],_,h=>by cases h;exact .nil
 |n::ns,_,h=>by
  cases h with
  |cons h1 h2 =>
   obtain⟨t,rfl⟩:=h1
   exact .cons n t (intsAre_of h2)
theorem QhZ:∀{us:List Value}{ns:List Int},IntsAre us ns->Vals (ns.map V.int) us
 |_,_,.nil=>.nil
 |_,_,.cons n t r=>.cons ⟨t,rfl⟩ (QhZ r)
theorem QeV:CallR X (.builtin "sorted") (λxs H Q=>∃(p:Addr)(ns:List Int),xs=[.ref p]/\SqL X.K H p (ns.map V.int)/\∀l,H l=none->Q (.ref l) (upd H l (.lst ((Yz ns).map V.int)))):=by
 intro pins s σ H xs us Q I r h
 obtain⟨p,ns,rfl,hq,q⟩:=h
 obtain⟨u,rfl,rx⟩:=QiZ r
 cases rx
 obtain⟨its,r',pl,hz⟩:=I.list hq
 have hlen:=r'.length
 rw[Uw]at hlen
 refine SO.sorted_any pl.isList (intsAre_of r') (by rw[Uw]at hz;rw[<-hlen];exact hz) λout ns' a1 a2 a3=>?_
 have e:ns'=Yz ns:=QbR _ _ (a2.trans (Ym ns).symm) a3 (JM ns)
 subst e
 obtain⟨c,he⟩:=sortedAll_at s.heap its out
 have hl2:((Yz ns).map V.int).length<=sizeLine:=by rw[Uw,(Ym ns).length_eq];rw[Uw]at hz;exact hz
 exact⟨.ref (s.heap.objs.size+1),_,I.laid (t':=s.toks) (λb o=>sortedAll_old) (R0 _) (show ObjOk X.prog X.w _ _ _ (.lst ((Yz ns).map V.int)) from ⟨hl2,out.toList,c,QhZ a1,he⟩),rfl,q _ (I.hok.fresh (R0 _))⟩
theorem QeW{K:PySem.W.Frag}{μ:List Addr}{H:Hp}:∀ns:List Int,Dens K μ H (ns.map V.int) (ns.map D.int)
 |[]=>.nil
 |n::ns=>.cons (.int n) (QeW ns)
theorem Qjm(hm:X.mg "sorted" = none)(he:PE3 ca X e me)(hg:Gl X "sorted":=by rfl)(hs:starEach [e] X.env=[(false,eval e X.env)]:=by rfl)(hpl:(backTo pos (starEach [] X.env)).any (·.1)=false:=by rfl):
  PE3 ca X (.Call (.Name "sorted" p) [e] [] pos) (mOp1 Qaj me) :=
 Qjd (r:=λxs H Q=>∃(p:Addr)(ns:List Int),xs=[V.ref p]/\SqL X.K H p (ns.map V.int)/\∀l,H l=none->Q (.ref l) (upd H l (.lst ((Yz ns).map V.int)))) (λ_ _=>QeV) hm boot_sorted (λΦ σ H μ g y d Q r q pp=>by
  have el:∀l:Addr,(μ++[l])[g.length]?=some l:=λl=>by rw[<-r.len];simp
  unfold Qaj at pp
  cases hs1:QB g d with
  |none=>rw[hs1]at pp;exact pp.elim
  |some p1 =>
   obtain⟨b,ds⟩:=p1
   rw[hs1]at pp
   cases b with
   |false=>exact pp.elim
   |true =>
    dsimp only at pp
    cases hi:QdT ds with
    |none=>rw[hi]at pp;exact pp.elim
    |some ns =>
     rw[hi]at pp
     dsimp only at pp
     obtain⟨a,ws,rfl,sq,dn⟩:=YV r q hs1
     have ew:=Qd3 dn hi
     subst ew
     exact⟨a,ns,rfl,sq,λl hl=>pp _ _ (μ++[l]) (Qt hl) (r.push hl ⟨_,Qp,QeW _⟩) (.ref (el l))⟩) he hg (by decide) (by decide) hs hpl
end
end L3
namespace PySem
open Sem (wp)
namespace F
theorem nolen_lri:typeLookup (.type "list_reverseiterator") "__len__" = pure none:=by rw[typeLookup_type,builtinLookup_eq_fast];kernel_rfl
theorem hint_lri:typeLookup (.type "list_reverseiterator") "__length_hint__" = pure (some (.builtin "list_reverseiterator.__length_hint__")):=by rw[typeLookup_type,builtinLookup_eq_fast];kernel_rfl
end F
section
variable{prog:Program}{w:World}{A:Around}{E:Value->Shared->Prop}{s:Shared}{I:Addr}{fp wr:List Addr}{G:Array GenState->Array GenState->Prop}{n:Nat}{P:Nat->Value->Prop}{St:Nat->Shared->Prop}
theorem QaT{Q:List Value->Shared->Prop}(W:WalksS prog w A.in1 I fp wr G n P St)(hT:∀i s,St i s->s.TypeIs (.ref I) "list_reverseiterator")(hst:St 0 s)(hfp:∀b∈fp,b<s.heap.objs.size)(hI:I∈fp)(hQ:∀s' acc,Moved wr G s s'->ItemsOf P acc n->Q acc.toList s')(hn:n<=sizeLine):wpAny (model prog w) A (collect (.ref I)) Q E s:=by
 have hSf:s.heap.objs.size∉fp:=λhm=>Tc _ (hfp _ hm)
 have hSI:s.heap.objs.size≠I:=λe=>hSf (e ▸ hI)
 unfold collect
 refine Ua (wpAny_runValue (Bc F.entry_proto_collect ?_))
 rw[RZ F.plain_proto_collect _]
 show wpAny _ A.in1 (newList [] >>= λl=>again (.builtin "list.__iadd__" ⟨[l,.ref I],[]⟩)) _ _ s
 refine Ua (U7 ?_)
 refine Uj ⟨WT F.plain_list_iadd _,Bc F.entry_list_iadd ?_⟩
 rw[RZ F.plain_list_iadd _]
 have hst₁:=W.frame 0 s (s.heap.push {cls:=.type "list",data:=.seq ([]:List Value).toArray}) s.toks hst (Uc _) λb _ o e=>Ub _ e
 have hS₁:(s.heap.push {cls:=.type "list",data:=.seq ([]:List Value).toArray}).get? s.heap.objs.size=some {cls:=.type "list",data:=.seq ([]:List Value).toArray}:=Uo _ rfl
 have h1:Builtin.List.listSameRef (.ref s.heap.objs.size) (.ref I)=false:=by simp[Builtin.List.listSameRef,hSI]
 show wpAny _ A.in1 (Builtin.List.listExtendWith (.ref s.heap.objs.size) (.ref I) (.ref s.heap.objs.size)) _ _ _
 unfold Builtin.List.listExtendWith
 refine Ua (RO (hT 0 _ hst₁) ?_)
 rw[Ue (by rw[h1];decide)]
 refine Ua (W.self 0 _ _ _ hst₁ ?_)
 refine Ua (TU ?_)
 unfold Builtin.List.listLengthHint
 refine Ua (Wg (hT 0 _ hst₁) F.nolen_lri ?_)
 show wpAny _ A.in1 (specialOf (Value.ref I) (Str.ofString "__length_hint__") >>= _) _ _ _
 refine Ua (Wg (hT 0 _ hst₁) F.hint_lri ?_)
 (generalize hid:("list_reverseiterator.__length_hint__" : String)=id0;(fail_if_success (clear hid id0));wp_delta;rw[show splitId id0=some ("list_reverseiterator", "__length_hint__") from by subst hid;decide +kernel];subst hid)
 refine Ua (WY (b:=true) (hT 0 _ hst₁) (by rw[isSubtype_type];kernel_rfl) ?_)
 refine Uj ?_
 rw[Ue (by decide)]
 refine Uj ⟨WT F.plain_extend_loop _,codeAny_extend_loopS W hn _ hSf _ n 0 _ _ _ rfl (U2 _) hst₁ hS₁ (ItemsOf.nil P) λs' acc' c' hm hS' hacc=>?_⟩
 show wpAny _ A (load s.heap.objs.size >>= _) _ _ s'
 refine Ua (wpAny_load hS' ?_)
 exact Uj (hQ s' acc' (Moved.drop_new (o:={cls:=.type "list",data:=.seq ([]:List Value).toArray}) (tk:=s.toks) hm (Uc _)) hacc)
theorem Qax{Q₁:Value->Shared->Prop}(W:WalksS prog w A.in1.in1 I fp wr G n P St)(hT:∀i s,St i s->s.TypeIs (.ref I) "list_reverseiterator")(hst:St 0 s)(hfp:∀b∈fp,b<s.heap.objs.size)(hI:I∈fp)(h:∀s' acc,Moved wr G s s'->ItemsOf P acc n->Q₁ (.ref s'.heap.objs.size) {s' with heap:=s'.heap.push {cls:=.type "tuple",data:=.seq acc} })(hsz:n<=sizeLine):
  codeAny (model prog w) A (.call (.builtin "tuple.__new__") ⟨[.type "tuple",.ref I],[]⟩) (wants Q₁ E) s:=by
 refine codeAny_of_tree ?_
 show wpAny _ A.in1 (do checkBuiltinCall "tuple.__new__" ⟨[.type "tuple",.ref I],[]⟩;again (.builtin "tuple.__new__" ⟨[.type "tuple",.ref I],[]⟩)) _ _ s
 refine Ua (wpAny_of_eq (F.newCall_tuple_1 _) (Uj ⟨WT F.plain_tuple_new _,Bc F.entry_tuple_new ?_⟩))
 rw[RZ F.plain_tuple_new _]
 have hsub:=sub_tuple_self
 have hinit:=init_tuple_lookup
 have hmh:=madeHere_tuple
 have hTI:=hT 0 s hst
 wp_walk using RO hTI,QaT (hn:=hsz) W hT hst hfp hI
 intro s' acc hm hacc
 show wpAny _ _ (Builtin.Tuple.tupleExact acc.toList.toArray >>= λv=>ret v) _ _ _
 unfold Builtin.Tuple.tupleExact
 refine Ua (U7 ?_ (by show acc.toList.toArray.size<=sizeLine;simp only[Array.toArray_toList];rw[hacc.1];exact hsz))
 refine Uj ?_
 have e:acc.toList.toArray=acc:=by simp
 rw[e]
 exact h s' acc hm hacc
theorem Qcs{Q:Value->Shared->Prop}(W:WalksS prog w A.in1.in1.in1 I fp wr G n P St)(hT:∀i s,St i s->s.TypeIs (.ref I) "list_reverseiterator")(hst:St 0 s)(hfp:∀b∈fp,b<s.heap.objs.size)(hI:I∈fp)(hQ:∀s' acc,Moved wr G s s'->ItemsOf P acc n->Q (.ref s'.heap.objs.size) {s' with heap:=s'.heap.push {cls:=.type "tuple",data:=.seq acc} })(hsz:n<=sizeLine):
  wpAny (model prog w) A (call (.type "tuple") [.ref I]) Q E s:=by
 refine callType_codes (Q₁:=λobj s₁=>s₁.TypeIs obj "tuple" /\ Q obj s₁) F.called_tuple (F.typeCall_tuple_1 _) F.entry_object_init
  (Qax (hsz:=hsz) W hT hst hfp hI λs' acc hm hacc=>⟨⟨_,Uo _ rfl,rfl⟩,hQ s' acc hm hacc⟩) λobj s₁ h₁=>?_
 exact⟨h₁.1,F.args_object_init_2 obj _,object_init_meets F.called_tuple.init.lookup F.called_tuple.made (by decide) prog w A.in1 _ s₁ ⟨h₁.1,rfl,h₁.2⟩⟩
theorem Qct{l:Addr}{its:List Value}{Q:Value->Shared->Prop}(hh:A.handled=none)(hne:l≠I)(hit:s.heap.IsRevIter I l ((its.toArray.size:Int) - 1))(hl:s.heap.IsList l its.toArray)(hsz:its.toArray.size<=sizeLine)(hQ:∀(h':Heap) (tk:Nat),(∀b o,b≠I->s.heap.get? b=some o->h'.get? b=some o)->Q (.ref h'.objs.size) {s with heap:=h'.push {cls:=.type "tuple",data:=.seq its.reverse.toArray},toks:=tk}):
  wpAny (model prog w) A (call (.type "tuple") [.ref I]) Q E s:=by
 refine Qcs (Walks.listRev (A:=A.in1.in1.in1) hh I l hne its.toArray).toS (λ_ _ st=>st.2.1.typeIs) ⟨U2 _,by simpa using hit,hl⟩ (λb hb=>?_) (by simp) (λs' acc hm ha=>?_) hsz
 ·obtain⟨o,ho,_⟩:=hit
  obtain⟨o',ho',_⟩:=hl
  rcases UD.mp hb with rfl|hb
  ·exact Uk ho
  ·rw[Uz.mp hb];exact Uk ho'
 ·have e:acc=its.reverse.toArray:=by
   apply Array.ext_getElem?
   intro i
   by_cases hi:i<its.length
   ·have h1:acc[i]?=some (acc[i]'(by rw[ha.1];simpa using hi)):=WI _
    have h2:=ha.2 i _ h1
    rw[h1,<-h2]
    simp only[Uf,Tw,Bm hi]
   ·have hs:acc.size=its.length:=by rw[ha.1];simp
    rw[W8 (by omega),Tw,Tx (by simp;omega)]
  subst e
  have e2:s' = {s with heap:=s'.heap,toks:=s'.toks}:=by
   have a1:=hm.gens
   have a2:=hm.drawn
   have a3:=hm.os
   cases s'
   cases s
   simp only at a1 a2 a3 ⊢
   subst a1 a2 a3
   rfl
  have:=hQ s'.heap s'.toks λb o hb e=>hm.heap b o (by simpa using hb) e
  rw[e2]
  exact this
end
end PySem
namespace L3
open PySem
noncomputable def JN(x:D)(g:G):Res D:=match QB g x with
 |some (true,ds)=>.ok (.tup ds.reverse) g
 |_=>.stuck
end L3
namespace L3
open PySem PySem.Spec PyProof.Rows L2
theorem Qdi:∀{xs:List V}{us:List Value},Vals xs us->Vals xs.reverse us.reverse
 |_,_,.nil=>.nil
 |_,_,.cons h t=>by rw[T9,T9];exact(Qdi t).append (.cons h .nil)
theorem Dens.rev{K:PySem.W.Frag}{μ:List Addr}{H:Hp}:∀{vs:List V}{ds:List D},Dens K μ H vs ds->Dens K μ H vs.reverse ds.reverse
 |_,_,.nil=>.nil
 |_,_,.cons h t=>by rw[T9,T9];exact(Dens.rev t).append (.cons h .nil)
section
variable{X:Cx}{ca:Nat->Addr}{e:Expr}{me:ME}{p p2 pos pos2:Pos}
theorem Qh0{ta:TA}(hs0:starEach [.Call (.Name "reversed" p2) [e] [] pos2] X.env=[(false,eval (.Call (.Name "reversed" p2) [e] [] pos2) X.env)])(hg:Gl X "tuple")(hm:X.mg "tuple" = none)(hg2:Gl X "reversed")(hm2:X.mg "reversed" = none)(ha:PA X [e] ta)(hs:starEach [e] X.env=[(false,eval e X.env)])(hc:X.calm=true):
  PE X (.Call (.Name "tuple" p) [.Call (.Name "reversed" p2) [e] [] pos2] [] pos) (λσ H Q=>ta σ H λvs H1=>∃a xs,vs=[.ref a]/\SqL X.K H1 a xs/\∀l,H1 l=none->Q (.ref l) (upd H1 l (.tup xs.reverse))):=by
 intro pins s σ H Q I h
 refine Call_ (Qap I hg hm boot_tuple (UV ?_ hs0 rfl))
 rw[hs0]
 show wpAny _ _ (spliced ((false,eval (.Call (.Name "reversed" p2) [e] [] pos2) X.env)::[])) _ _ s
 refine Wv (Call_ (Qap I hg2 hm2 boot_reversed (UV (thn (ha pos2 pins s σ H _ I h) λus s1 hv=>?_) hs rfl)))
 obtain⟨vs,H1,I1,r1,a,xs,rfl,hq,q⟩:=hv
 cases r1 with
 |cons r rr =>
  cases rr
  cases r
  have h63:=QcA
  obtain⟨its,rv,pl,hz⟩:=I1.list hq
  have hl:=rv.length
  obtain⟨f0,f1,f2,f3,f4,f5⟩:=I1.fpOk (Uc _) (I1.hok.fresh (Uc _))
  refine call_reversed_list pl.isList (WM ?_)
  have I2:Inv X pins σ H1 {s1 with heap:=s1.heap.push (revObj a ((its.toArray.size:Int) - 1))}:=I1.kept (t':=s1.toks) λb o e=>Ub _ e
  have ll:a≠s1.heap.objs.size:=λz=>by
   obtain⟨o,ho,_⟩:=pl.isList
   exact absurd (Uk ho) (by rw[z];exact Tc _)
  refine Qct (I:=s1.heap.objs.size) (l:=a) (its:=its) (s:={s1 with heap:=s1.heap.push (revObj a ((its.toArray.size:Int) - 1))}) (I1.ok.hd hc) ll ⟨_,Uo _ rfl,rfl,rfl⟩ (pl.isList.at λo e=>Ub _ e) (by simp only[Uf];omega) λh' tk kp=>?_
  have I3:Inv X pins σ H1 {s1 with heap:=h',toks:=tk}:=I2.turned (t':=tk) (λb o hb e=>kp b o hb e) f0 f1 f3 f4 f5
  refine⟨.ref h'.objs.size,_,I3.laid (t':=tk) (λb o e=>Ub _ e) (Uc _) (show ObjOk X.prog X.w _ _ _ (.tup xs.reverse) from ⟨by rw[Rc];exact hz,its.reverse,Qdi rv,IsTup.new _ _⟩),rfl,q _ (I3.hok.fresh (Uc _))⟩
theorem Qgy(hc:X.calm=true)(hm:X.mg "tuple" = none)(hm2:X.mg "reversed" = none)(he:PE3 ca X e me)(hs0:starEach [.Call (.Name "reversed" p2) [e] [] pos2] X.env=[(false,eval (.Call (.Name "reversed" p2) [e] [] pos2) X.env)]:=by rfl)(hg:Gl X "tuple":=by rfl)(hg2:Gl X "reversed":=by rfl)(hs:starEach [e] X.env=[(false,eval e X.env)]:=by rfl):
  PE3 ca X (.Call (.Name "tuple" p) [.Call (.Name "reversed" p2) [e] [] pos2] [] pos) (mOp1 JN me) :=
 λpn Φ=>Q6 (Qh0 (X:=xat X ca pn Φ) hs0 hg hm hg2 hm2 (Yv he Qj hs pn Φ) hs hc) λσ H Q hQ=>by
  obtain⟨σ3,g,μ,R,q⟩:=hQ
  refine⟨σ3,g,μ,R,?_⟩
  unfold mOp1 at q
  unfold Qb mNil
  cases hm:me σ3 g with
  |raise _ _=>rw[hm]at q;exact q
  |stuck=>rw[hm]at q;exact q.elim
  |ok d g1 =>
   rw[hm,Res.bind_ok]at q
   rw[Res.bind_ok,Res.bind_ok]
   intro vs H1 μ1 e1 r1 q1
   cases q1 with
   |@cons v _ _ _ h1 h2 =>
    cases h2
    unfold JN at q
    cases hs1:QB g1 d with
    |none=>rw[hs1]at q;exact q.elim
    |some p1 =>
     obtain⟨b,ds⟩:=p1
     rw[hs1]at q
     cases b with
     |false=>exact q.elim
     |true =>
      obtain⟨a,ws,rfl,sq,dn⟩:=YV r1 h1 hs1
      exact⟨a,ws,rfl,sq,λl hl=>q _ _ μ1 (e1.trans (QZ hl)) (r1.new hl) (.tup (.of Qp) (dn.rev.mono (QZ hl)))⟩
end
end L3
namespace PySem
open Sem (wp)
section
variable{prog:Program}{w:World}{A:Around}{E:Value->Shared->Prop}{s:Shared}{I:Addr}{fp wr:List Addr}{G:Array GenState->Array GenState->Prop}{n:Nat}{P:Nat->Value->Prop}{St:Nat->Shared->Prop}
theorem Qgz{R:Result->Shared->Prop}(W:WalksS prog w A.in1 I fp wr G n P St)(hT:∀i s,St i s->s.TypeIs (.ref I) "list_reverseiterator")(S:Addr)(res:Value)(c₀:Nat)(hst:St 0 s)(hSf:S∉fp)(hI:I∈fp)(hS:s.heap.get? S=some {cls:=.type "list",data:=.seq #[] c₀})(hR:∀s' acc' c',Moved (S::wr) G s s'->s'.heap.get? S=some {cls:=.type "list",dict:=none,data:=.seq acc' c',slots:=#[]}->ItemsOf P acc' n->R (.ok (.ret res)) s')(hn:n<=sizeLine):
  wpAny (model prog w) A.in1 (Builtin.List.listExtendWith (.ref S) (.ref I) res)
   (λfin s'=>match fin with | .done f=>R (.ok f) s' | .again c'=>c'.quiet=true/\codeAny (model prog w) A c' R s') (λe s'=>R (.error e) s') s:=by
 have hSI:S≠I:=λe=>hSf (e ▸ hI)
 have h1:Builtin.List.listSameRef (.ref S) (.ref I)=false:=by simp[Builtin.List.listSameRef,hSI]
 unfold Builtin.List.listExtendWith
 refine Ua (RO (hT 0 _ hst) ?_)
 rw[Ue (by rw[h1];decide)]
 refine Ua (W.self 0 _ _ _ hst ?_)
 refine Ua (TU ?_)
 unfold Builtin.List.listLengthHint
 refine Ua (Wg (hT 0 _ hst) F.nolen_lri ?_)
 show wpAny _ A.in1 (specialOf (Value.ref I) (Str.ofString "__length_hint__") >>= _) _ _ _
 refine Ua (Wg (hT 0 _ hst) F.hint_lri ?_)
 (generalize hid:("list_reverseiterator.__length_hint__" : String)=id0;(fail_if_success (clear hid id0));wp_delta;rw[show splitId id0=some ("list_reverseiterator", "__length_hint__") from by subst hid;decide +kernel];subst hid)
 refine Ua (WY (b:=true) (hT 0 _ hst) (by rw[isSubtype_type];kernel_rfl) ?_)
 refine Uj ?_
 rw[Ue (by decide)]
 refine Uj ⟨WT F.plain_extend_loop _,codeAny_extend_loopS W hn _ hSf _ n 0 _ _ _ rfl (U2 _) hst hS (ItemsOf.nil P) λs' acc' c' hm hS' hacc=>?_⟩
 exact hR s' acc' c' hm hS' hacc
theorem Qjn{R:Result->Shared->Prop}(W:WalksS prog w A.in1 I fp wr G n P St)(hT:∀i s,St i s->s.TypeIs (.ref I) "list_reverseiterator")(S:Addr)(hst:St 0 s)(hSf:S∉fp)(hI:I∈fp)(hS:s.heap.get? S=some {cls:=.type "list",data:=.seq #[]})(hR:∀s' acc' c',Moved (S::wr) G s s'->s'.heap.get? S=some {cls:=.type "list",dict:=none,data:=.seq acc' c',slots:=#[]}->ItemsOf P acc' n->R (.ok (.ret .none)) s')(hn:n<=sizeLine):
  wpAny (model prog w) A.in1 (Builtin.«list.__init__» ⟨[.ref S,.ref I],[]⟩)
   (λfin s'=>match fin with | .done f=>R (.ok f) s' | .again c'=>c'.quiet=true/\codeAny (model prog w) A c' R s') (λe s'=>R (.error e) s') s:=by
 show wpAny _ A.in1 (do let old <-Builtin.List.listItems (.ref S);Builtin.List.listUpdate (.ref S) (λ_=>#[]);letGo old.toList.reverse;Builtin.List.listExtendWith (.ref S) (.ref I) .none) _ _ s
 refine Ua ?_
 unfold Builtin.List.listItems
 refine Ua (TH hS rfl (Uj ?_))
 show wpAny _ A.in1 (updateSeq S (λ_=>#[]) >>= λ_=>letGo (#[]:Array Value).toList.reverse >>= λ_=>Builtin.List.listExtendWith (.ref S) (.ref I) .none) _ _ s
 refine Ua (wpAny_updateSeq hS rfl ?_)
 have hS₂:=Rj (Obj.mapSeq (λ_=>(#[]:Array Value))) hS rfl
 have oth:∀b o,b≠S->s.heap.get? b=some o->(s.heap.update S (Obj.mapSeq (λ_=>(#[]:Array Value)))).get? b=some o:=λb o hb e=>(U1 _ _ (Ne.symm hb)).trans e
 refine Ua (Bx ?_)
 refine Qgz (hn:=hn) W hT S .none _ (W.frame 0 s _ s.toks hst (Uc _) λb hb o e=>oth b o (λh=>hSf (h ▸ hb)) e) hSf hI hS₂ λs' acc' c' hm hS' hacc=>?_
 exact hR s' acc' c' (Moved.trans W.gtrans ((Moved.refl W.grefl).then_heap (Uc _) λb o hb e=>oth b o (λh=>hb (h ▸ Uv)) e) hm) hS' hacc
theorem Qdj{Q:Value->Shared->Prop}(W:WalksS prog w A.in1.in1 I fp wr G n P St)(hT:∀i s,St i s->s.TypeIs (.ref I) "list_reverseiterator")(hst:St 0 s)(hfp:∀b∈fp,b<s.heap.objs.size)(hI:I∈fp)(hQ:∀s' acc' c',Moved (s.heap.objs.size::wr) G {s with heap:=s.heap.push {cls:=.type "list",data:=.seq #[]} } s' ->
   s'.heap.get? s.heap.objs.size=some {cls:=.type "list",dict:=none,data:=.seq acc' c',slots:=#[]}->ItemsOf P acc' n->Q (.ref s.heap.objs.size) s')(hn:n<=sizeLine):
  wpAny (model prog w) A (call (.type "list") [.ref I]) Q E s:=by
 have hSf:s.heap.objs.size∉fp:=λhm=>Tc _ (hfp _ hm)
 refine callType_codes (Q₁:=λobj s₁=>obj=.ref s.heap.objs.size/\s₁ = {s with heap:=s.heap.push {cls:=.type "list",data:=.seq #[]} }) F.called_list (F.typeCall_list_1 _) F.entry_list_init
  (code_list_new _ ⟨rfl,rfl⟩) λobj s₁ h₁=>?_
 obtain⟨rfl,rfl⟩:=h₁
 have hS:(s.heap.push {cls:=.type "list",data:=.seq #[]}).get? s.heap.objs.size=some {cls:=.type "list",data:=.seq #[]}:=Uo _ rfl
 refine⟨⟨_,hS,rfl⟩,F.args_list_init_2 _ _,Qjn (hn:=hn) W hT _ (W.frame 0 s _ s.toks hst (Uc _) λb _ o e=>Ub _ e) hSf hI hS λs' acc' c' hm hS' hacc=>?_⟩
 exact⟨rfl,hQ s' acc' c' hm hS' hacc⟩
theorem Qdk{l:Addr}{its:List Value}{Q:Value->Shared->Prop}(hh:A.handled=none)(hne:l≠I)(hit:s.heap.IsRevIter I l ((its.toArray.size:Int) - 1))(hl:s.heap.IsList l its.toArray)(hsz:its.toArray.size<=sizeLine)(hQ:∀(h':Heap) (tk c:Nat),(∀b o,b≠I->s.heap.get? b=some o->h'.get? b=some o)->h'.get? s.heap.objs.size=some {cls:=.type "list",data:=.seq its.reverse.toArray c}->Q (.ref s.heap.objs.size) {s with heap:=h',toks:=tk}):
  wpAny (model prog w) A (call (.type "list") [.ref I]) Q E s:=by
 refine Qdj (Walks.listRev (A:=A.in1.in1) hh I l hne its.toArray).toS (λ_ _ st=>st.2.1.typeIs) ⟨U2 _,by simpa using hit,hl⟩ (λb hb=>?_) (by simp) (λs' acc c' hm hS ha=>?_) hsz
 ·obtain⟨o,ho,_⟩:=hit
  obtain⟨o',ho',_⟩:=hl
  rcases UD.mp hb with rfl|hb
  ·exact Uk ho
  ·rw[Uz.mp hb];exact Uk ho'
 ·have e:acc=its.reverse.toArray:=by
   apply Array.ext_getElem?
   intro i
   by_cases hi:i<its.length
   ·have h1:acc[i]?=some (acc[i]'(by rw[ha.1];simpa using hi)):=WI _
    have h2:=ha.2 i _ h1
    rw[h1,<-h2]
    simp only[Uf,Tw,Bm hi]
   ·have hs:acc.size=its.length:=by rw[ha.1];simp
    rw[W8 (by omega),Tw,Tx (by simp;omega)]
  subst e
  have e2:s' = {s with heap:=s'.heap,toks:=s'.toks}:=by
   have a1:=hm.gens
   have a2:=hm.drawn
   have a3:=hm.os
   cases s'
   cases s
   simp only at a1 a2 a3 ⊢
   subst a1 a2 a3
   rfl
  have:=hQ s'.heap s'.toks c' (λb o hb e=>hm.heap b o (by simp;exact⟨UF (Uk e),hb⟩) (Ub _ e)) hS
  rw[e2]
  exact this
end
end PySem
namespace L2
open PySem PySem.Spec PyProof.Rows
section
variable{κ:Type}[DecidableEq κ]
noncomputable def valV(kvs:List (κ×V))(k:κ):Option V:=(kvs.find? λkv=>decide (kv.1=k)).map (·.2)
noncomputable def putK(kvs:List (κ×V))(k:κ)(v:V):List (κ×V) :=
 if (kvs.any λkv=>decide (kv.1=k))=true then kvs.map (λkv=>if kv.1=k then (kv.1,v) else kv) else kvs++[(k,v)]
noncomputable def Qd9(kvs:List (κ×V))(k:κ):List (κ×V):=kvs.filter λkv=>decide (kv.1≠k)
theorem QfQ{p:κ×V}{r:List (κ×V)}{k:κ}(e:p.1=k):valV (p::r) k=some p.2:=by simp[valV,UM,e]
theorem QfR{p:κ×V}{r:List (κ×V)}{k:κ}(e:¬p.1=k):valV (p::r) k=valV r k:=by simp[valV,UM,e]
theorem QeX(kvs:List (κ×V))(k:κ)(v:V):(putK kvs k v).length<=kvs.length+1:=by
 unfold putK
 split
 ·rw[Uw];omega
 ·rw[Us,UQ,List.length_nil];omega
theorem RelO.getD{o:Option V}{u:Option Value}{d:V}{d':Value}(r:RelO o u)(rd:RelV d d'):RelV (o.getD d) (u.getD d'):=by
 cases o with
 |none=>cases u with
  |none=>exact rd
  |some _=>exact(show False from r).elim
 |some _=>cases u with
  |none=>exact(show False from r).elim
  |some _=>exact r
theorem KV.val{kvs:List (κ×V)}{vs:List (κ×Value)}(r:KV kvs vs)(k:κ):RelO (valV kvs k) (valueAt vs k):=by
 unfold KV at r
 induction r with
 |nil=>exact True.intro
 |@cons p q ps qs h t ih =>
  obtain⟨h1,h2⟩:=h
  by_cases e:p.1=k
  ·have e':q.1=k:=h1.symm.trans e
   have b:valueAt (q::qs) k=some q.2:=by simp[valueAt,UM,e']
   rw[QfQ e,b];exact h2
  ·have e':¬q.1=k:=λz=>e (h1.trans z)
   have b:valueAt (q::qs) k=valueAt qs k:=by simp[valueAt,UM,e']
   rw[QfR e,b];exact ih
theorem KV.any{kvs:List (κ×V)}{vs:List (κ×Value)}(r:KV kvs vs)(k:κ):(kvs.any λkv=>decide (kv.1=k))=vs.any λkv=>decide (kv.1=k):=by
 unfold KV at r
 induction r with
 |nil=>rfl
 |cons h t ih=>rw[TW,TW,ih,h.1]
theorem KV.repl{kvs:List (κ×V)}{vs:List (κ×Value)}(r:KV kvs vs)(k:κ){y:V}{u:Value}(ry:RelV y u):
  KV (kvs.map λkv=>if kv.1=k then (kv.1,y) else kv) (vs.map λkv=>if kv.1=k then (kv.1,u) else kv):=by
 unfold KV at r ⊢
 induction r with
 |nil=>exact .nil
 |@cons p q ps qs h t ih =>
  rw[UH,UH]
  refine .cons ?_ ih
  obtain⟨h1,h2⟩:=h
  by_cases e:p.1=k
  ·rw[Ud e,Ud (h1.symm.trans e)];exact⟨h1,ry⟩
  ·rw[Ue e,Ue (λz=>e (h1.trans z))];exact⟨h1,h2⟩
theorem KV.put{kvs:List (κ×V)}{vs:List (κ×Value)}(r:KV kvs vs)(k:κ){y:V}{u:Value}(ry:RelV y u):KV (putK kvs k y) (stored vs k u):=by
 unfold putK stored
 rw[r.any k]
 by_cases e:(vs.any λkv=>decide (kv.1=k))=true
 ·rw[Ud e,Ud e];exact r.repl k ry
 ·rw[Ue e,Ue e];exact Paired.snoc r ⟨rfl,ry⟩
theorem KV.drop{kvs:List (κ×V)}{vs:List (κ×Value)}(r:KV kvs vs)(k:κ):KV (Qd9 kvs k) (without vs k):=by
 unfold KV at r ⊢
 unfold Qd9 without
 induction r with
 |nil=>exact .nil
 |@cons p q ps qs h t ih =>
  obtain⟨h1,h2⟩:=h
  rw[TX,TX]
  by_cases e:p.1=k
  ·have a:¬decide (p.1≠k)=true:=by simp[e]
   have b:¬decide (q.1≠k)=true:=by simp[h1.symm.trans e]
   rw[Ue a,Ue b];exact ih
  ·have e':¬q.1=k:=λz=>e (h1.trans z)
   have a:decide (p.1≠k)=true:=by simp[e]
   have b:decide (q.1≠k)=true:=by simp[e']
   rw[Ud a,Ud b];exact .cons ⟨h1,h2⟩ ih
theorem KV.length{kvs:List (κ×V)}{vs:List (κ×Value)}(r:KV kvs vs):kvs.length=vs.length:=Paired.length r
theorem Qjo(kvs:List (κ×V))(k:κ):(Qd9 kvs k).length<=kvs.length:=Bn _ _
end
theorem Qjp{P:Program}{w:World}{k:Key}{u:Value}(r:RelV (kV k) u):(Yt P w).is k u=true:=by
 cases k with
 |inl i=>obtain⟨t,e⟩:=(show ∃t,u=Value.int i t from r);subst e;exact QeB P w i t
 |inr x=>obtain⟨t,e⟩:=(show ∃t,u=Value.str x t from r);subst e;exact QeC P w x t
section
variable{P:Program}{w:World}{H:Hp}{h:Heap}{a:Addr}
theorem Qow{u:HO}(ok:HOk P w H h)(e:Rd H a u):ObjOk P w H h a u:=e.ok ok
theorem Qno{kvs:List (Key×V)}(ok:HOk P w H h)(e:Rd H a (.dK kvs)):kvs.length<=sizeLine/\(a == sysModules)=false/\∃vs,KV kvs vs/\h.DictOf (Yt P w) a vs :=
 show ObjOk P w H h a (.dK kvs) from Qow ok e
theorem Qh1{kvs:List (Key×V)}(ok:HOk P w H h)(e:H a=some (.dK kvs)):kvs.length<=sizeLine/\(a == sysModules)=false/\∃vs,KV kvs vs/\h.DictOf (Yt P w) a vs:=Qno ok (.inl e)
end
section
variable{X:Cx}{pins:List (Addr×Obj)}{σ:St}{H:Hp}{s:Shared}{a:Addr}{y v:V}{u r:Value}{o:Option V}{A:Around}{E:Value->Shared->Prop}
theorem Inv.big(I:Inv X pins σ H s):sysModules<s.heap.objs.size:=by
 have h:mainGlobals<s.heap.objs.size:=(I.mod.glob.keeps I.bk).lt
 exact Nat.lt_trans (by decide) h
theorem Qh2{h':Heap}{t':Nat}{ob:HO}(I:Inv X pins σ H s)(mu:Mut (H a))(hs:Heap.SameBut a s.heap h')(he:∃q,h'.get? a=some q)(new:ObjOk X.prog X.w (upd H a ob) h' a ob):
  Inv X pins σ (upd H a ob) {s with heap:=h',toks:=t'} :=
 I.write (x:=a) (e:=a) mu (.inl rfl) (λb q hb z=>(hs.2 b hb).trans z) he new
theorem Qh3{P:Program}{w:World}{H':Hp}{h':Heap}{kvs:List (Key×V)}{vs:List (Key×Value)}(z:kvs.length<=sizeLine)(hd:(a == sysModules)=false)(rel:KV kvs vs)(dd:h'.DictOf (Yt P w) a vs):
  ObjOk P w H' h' a (.dK kvs):=⟨z,hd,vs,rel,dd⟩
end
section
variable{X:Cx}{pins:List (Addr×Obj)}{σ:St}{H:Hp}{s:Shared}{a:Addr}{kvs:List (Key×V)}{k:Key}{u:Value}{A:Around}{E:Value->Shared->Prop}
theorem Qox{v:V}{more:List Value}{Q:Value->Shared->Prop}(I:Inv X pins σ H s)(e:H a=some (.dK kvs))(ry:RelV (kV k) u)(l:valV kvs k=some v)(hm:more=[]\/∃x,more=[x])(h:∀w' s',Inv X pins σ (upd H a (.dK (Qd9 kvs k))) s'->RelV v w'->Q w' s'):wpAny (model X.prog X.w) A (call (.builtin "dict.pop") (.ref a::u::more)) Q E s:=by
 obtain⟨z,hd,vs,rel,dd⟩:=Qh1 I.hok e
 obtain⟨w',hw,rw'⟩:=RelO.some_of (v:=v) (o:=valueAt vs k) (by rw[<-l];exact rel.val k)
 have hp:(keyPart u).isSome=true:=by
  cases k with
  |inl i=>obtain⟨t,q⟩:=(show ∃t,u=Value.int i t from ry);subst q;rfl
  |inr x=>obtain⟨t,q⟩:=(show ∃t,u=Value.str x t from ry);subst q;rfl
 have ha:argsOk "dict.pop" ⟨.ref a::u::more,[]⟩:=by
  rcases hm with q|⟨x,q⟩
  ·subst q;exact PySem.F.args_dict_pop_2 _ _
  ·subst q;exact PySem.F.args_dict_pop_3 _ _ _
 refine call_meetsIn Bo dd.typeIs PySem.F.entry_dict_pop ha (meets_dict_pop_there (Yt X.prog X.w) a (Qjp ry) more hm hp)
  ⟨vs,w',dd,by rw[<-rel.length];exact z,hw,λh' dd' hs=>h w' _ ?_ rw'⟩
 have he:∃q,h'.get? a=some q:=let ⟨q,_,_,hq,_⟩:=dd';⟨q,hq⟩
 exact Qh2 I (by rw[e];exact True.intro) hs he (Qh3 (Ut (Qjo kvs k) z) hd (rel.drop k) dd')
end
section
variable{X:Cx}{o i e value:Expr}{pos pos' tpos:Pos}{td ty tv:TE}
end
theorem Qjq{P:Program}{w:World}{H:Hp}(h:Heap)(hb:sysModules<h.objs.size):ObjOk P w H (h.push {cls:=.type "dict",data:=.dict #[]}) h.objs.size (.dK []) :=
 ⟨U2 _,Tg.mpr (Ne.symm (UF hb)),[],.nil,Heap.DictOf.new h⟩
noncomputable def Qnp:TE:=λ_ H Q=>∀p,H p=none->Q (.ref p) (upd H p (.dK []))
section
variable{X:Cx}{pos:Pos}
theorem Qjr:PE X (.Dict [] [] pos) Qnp:=λpins s σ H Q I h =>
 wpAny_Dict_empty ⟨.ref s.heap.objs.size,_,I.laid (a:=s.heap.objs.size) (o:=.dK []) (t':=s.toks) (λ_ _ q=>Ub _ q) (Uc _) (Qjq s.heap I.big),rfl,h _ (I.hok.fresh (Uc _))⟩
end
section
variable{X:Cx}{pins:List (Addr×Obj)}{σ:St}{H:Hp}{s:Shared}{a:Addr}{y d:V}{u r:Value}{o:Option V}{A:Around}{E:Value->Shared->Prop}
end
section
variable{X:Cx}{o e f:Expr}{apos cpos:Pos}{td ty tx:TE}
end
section
variable{X:Cx}{pins:List (Addr×Obj)}{σ:St}{H:Hp}{s:Shared}{a:Addr}{kvs:List (Key×V)}{A:Around}{E:Value->Shared->Prop}
theorem Qjs{Q:Value->Shared->Prop}(I:Inv X pins σ H s)(e:Rd H a (.dK kvs))(h:∀p s',H p=none->Inv X pins σ (upd H p (.dK kvs)) s'->Q (.ref p) s'):wpAny (model X.prog X.w) A (call (.type "dict") [.ref a]) Q E s:=by
 obtain⟨z,hd,vs,rel,dd⟩:=Qno I.hok e
 refine kt_call_dict hd dd (by rw[<-rel.length];exact z) λh' dd' hs=>?_
 refine h _ _ (I.hok.fresh (Uc _)) (I.laid (a:=s.heap.objs.size) (o:=.dK kvs) (t':=s.toks) (λb q hq=>?_) (Uc _) (Qh3 z (Tg.mpr (Ne.symm (UF I.big))) rel dd'))
 exact(hs.2 b (UF (Uk hq))).trans (Ub _ hq)
end
section
variable{X:Cx}{pins:List (Addr×Obj)}{σ:St}{H:Hp}{s:Shared}{a:Addr}{y:V}{u:Value}{A:Around}{E:Value->Shared->Prop}
end
end L2
namespace L3
open PySem
noncomputable abbrev DK:=Sum Int Str
noncomputable def dGet(ks:List (DK×D))(k:DK):Option D:=(ks.find? λp=>decide (p.1=k)).map (·.2)
noncomputable def dPut(ks:List (DK×D))(k:DK)(v:D):List (DK×D):=if (ks.any λp=>decide (p.1=k))=true then ks.map λp=>if p.1=k then (p.1,v) else p else ks++[(k,v)]
noncomputable def Qba(ks:List (DK×D))(k:DK):List (DK×D):=ks.filter λp=>decide (p.1≠k)
noncomputable def Qjt:ME:=λ_ g=>.ok (.ref g.length) (g++[.dct []])
noncomputable def Qh4(x:D)(g:G):Res D:=match x with
 |.ref n=>(match g[n]? with
  |some (.dct ks)=>.ok (.ref g.length) (g++[.dct ks])
  |_=>.stuck)
 |_=>.stuck
noncomputable def Qea(o k x:ME):ME:=λσ g=>(o σ g).bind λa g1=>match a with
 |.ref n=>(match g1[n]? with
  |some (.dct _)=>(k σ g1).bind λy g2=>(x σ g2).bind λz g3=>(match y with
   |.int i=>(match g3[n]? with
    |some (.dct ks)=>.ok ((dGet ks (.inl i)).getD z) g3
    |_=>.stuck)
   |_=>.stuck)
  |_=>.stuck)
 |_=>.stuck
noncomputable def QgA(o k:ME):ME:=λσ g=>(o σ g).bind λa g1=>match a with
 |.ref n=>(match g1[n]? with
  |some (.dct _)=>(k σ g1).bind λy g2=>(match y with
   |.int i=>(match g2[n]? with
    |some (.dct ks)=>(match dGet ks (.inl i) with
     |some v=>.ok v (g2.set n (.dct (Qba ks (.inl i))))
     |none=>.stuck)
    |_=>.stuck)
   |_=>.stuck)
  |_=>.stuck)
 |_=>.stuck
noncomputable def Qdl(o k v:ME):MS:=λσ g=>match v σ g with
 |.ok y g1=>(match o σ g1 with
  |.ok (.ref n) g2=>(match k σ g2 with
   |.ok (.int i) g3=>(match g3[n]? with
    |some (.dct ks)=>if ks.length<SZ then .nx σ (g3.set n (.dct (dPut ks (.inl i) y))) else .stuck
    |_=>.stuck)
   |.raise e g'=>.raise e σ g'
   |_=>.stuck)
  |.raise e g'=>.raise e σ g'
  |_=>.stuck)
 |.raise e g'=>.raise e σ g'
 |.stuck=>.stuck
end L3
namespace L3
open PySem PySem.Spec PyProof.Rows L2
section
variable{K:PySem.W.Frag}{μ:List Addr}{H:Hp}
theorem KRel.get{kv:List (Key×V)}{ks:List (Key×D)}(r:KRel K μ H kv ks)(k:Key):(valV kv k=none/\dGet ks k=none)\/∃v d,valV kv k=some v/\dGet ks k=some d/\Den K μ H v d:=by
 unfold KRel at r
 induction r with
 |nil=>exact .inl ⟨rfl,rfl⟩
 |@cons p q ps qs h t ih =>
  obtain⟨h1,h2⟩:=h
  by_cases e:p.1=k
  ·refine .inr ⟨p.2,q.2,QfQ e,?_,h2⟩
   unfold dGet;rw[UM,UC (h1.symm.trans e)];rfl
  ·have e':dGet (q::qs) k=dGet qs k:=by
    unfold dGet;rw[UM,UB (λz=>e (h1.trans z))]
   rw[QfR e,e'];exact ih
theorem KRel.put{kv:List (Key×V)}{ks:List (Key×D)}{v:V}{d:D}(r:KRel K μ H kv ks)(k:Key)(h:Den K μ H v d):KRel K μ H (putK kv k v) (dPut ks k d):=by
 have ha:(kv.any λp=>decide (p.1=k))=ks.any λp=>decide (p.1=k):=by
  unfold KRel at r
  induction r with
  |nil=>rfl
  |cons h t ih=>rw[TW,TW,ih,h.1]
 unfold putK dPut
 rw[ha]
 by_cases e:(ks.any λp=>decide (p.1=k))=true
 ·rw[Ud e,Ud e]
  clear ha e
  unfold KRel at r ⊢
  induction r with
  |nil=>exact .nil
  |@cons p q ps qs hp t ih =>
   rw[UH,UH]
   refine .cons ?_ ih
   obtain⟨h1,h2⟩:=hp
   by_cases e:p.1=k
   ·rw[Ud e,Ud (h1.symm.trans e)];exact⟨h1,h⟩
   ·rw[Ue e,Ue (λz=>e (h1.trans z))];exact⟨h1,h2⟩
 ·rw[Ue e,Ue e];exact Paired.snoc r ⟨rfl,h⟩
theorem KRel.drop{kv:List (Key×V)}{ks:List (Key×D)}(r:KRel K μ H kv ks)(k:Key):KRel K μ H (Qd9 kv k) (Qba ks k):=by
 unfold KRel at r ⊢
 unfold Qd9 Qba
 induction r with
 |nil=>exact .nil
 |@cons p q ps qs h t ih =>
  obtain⟨h1,h2⟩:=h
  rw[TX,TX,<-h1]
  by_cases e:decide (p.1≠k)=true
  ·rw[Ud e,Ud e];exact .cons ⟨h1,h2⟩ ih
  ·rw[Ue e,Ue e];exact ih
end
section
variable{X:Cx}
theorem Qju:MtR X "dict.get" (λx vs H Q=>∃a kvs k d,x=.ref a/\vs=[kV k,d]/\H a=some (.dK kvs)/\Q ((valV kvs k).getD d) H):=by
 intro pins s σ H x vs v us Q I rx rv h
 obtain⟨a,kvs,k,d,rfl,rfl,e,q⟩:=h
 cases rx
 cases rv with
 |cons ry r2=>cases r2 with
  |cons rd r3 =>
   cases r3
   obtain⟨z,hd,vs,rel,dd⟩:=Qh1 I.hok e
   exact call_meetsIn Bp dd.typeIs PySem.F.entry_dict_get (PySem.F.args_dict_get_3 _ _ _) (meets_dict_get_default (Yt X.prog X.w) a (Qjp ry) hd _) ⟨_,dd.mapOf,_,H,I.tok _,(rel.val k).getD rd,q⟩
theorem Qlq:MtR X "dict.pop" (λx vs H Q=>∃a kvs k v,x=.ref a/\vs=[kV k]/\H a=some (.dK kvs)/\valV kvs k=some v/\Q v (upd H a (.dK (Qd9 kvs k)))):=by
 intro pins s σ H x vs v us Q I rx rv h
 obtain⟨a,kvs,k,w,rfl,rfl,e,l,q⟩:=h
 cases rx
 obtain⟨u,rfl,ru⟩:=rv.one
 exact Qox I e ru l (.inl rfl) λw' s' I' rw'=>⟨_,_,I',rw',q⟩
theorem Qjv:PSet X (λo i v H Q=>∃a kvs k,o=.ref a/\i=kV k/\H a=some (.dK kvs)/\kvs.length<sizeLine/\Q (upd H a (.dK (putK kvs k v)))):=by
 intro pins s σ H o i v ov iv u Q I ro ri rv h
 obtain⟨a,kvs,k,rfl,rfl,e,l,q⟩:=h
 cases ro
 obtain⟨z,hd,vs,rel,dd⟩:=Qh1 I.hok e
 have hz:vs.length<=sizeLine:=by rw[<-rel.length];exact z
 have hl:(putK kvs k v).length<=sizeLine:=by have:=QeX kvs k v;omega
 refine wpAny_setItem_pairs (hsz:=hz) (Qjp ri) dd λh' dd' hs=>?_
 have he:∃q,h'.get? a=some q:=let ⟨q,_,_,hq,_⟩:=dd';⟨q,hq⟩
 exact⟨_,Qh2 I (by rw[e];exact True.intro) hs he (Qh3 hl hd (rel.put k rv) dd'),q⟩
theorem QgB:CallR X (.type "dict") (λxs H Q=>∃a kvs,xs=[.ref a]/\H a=some (.dK kvs)/\∀p,H p=none->Q (.ref p) (upd H p (.dK kvs))):=by
 intro pins s σ H xs us Q I rv h
 obtain⟨a,kvs,rfl,e,q⟩:=h
 obtain⟨u,rfl,ru⟩:=rv.one
 cases ru
 exact Qjs I (.inl e) λp s' hp I'=>⟨.ref p,_,I',rfl,q p hp⟩
end
section
variable{X:Cx}{ca:Nat->Addr}{o e f:Expr}{mo me mf:ME}{p pos apos:Pos}
theorem Qnq:PE3 ca X (.Dict [] [] pos) Qjt :=
 λpn Φ=>Q6 (Qjr (X:=xat X ca pn Φ)) λσ H Q ⟨σ3,g,μ,R,q⟩=>λt ht=>q _ _ (μ++[t]) (Qt ht) (R.g.push ht ⟨[],Qp,.nil⟩) (.ref (by rw[<-R.g.len];simp))
theorem Qnr(hm:X.mg "dict" = none)(he:PE3 ca X e me)(hg:Gl X "dict":=by rfl)(hs:starEach [e] X.env=[(false,eval e X.env)]:=by rfl)(hpl:(backTo pos (starEach [] X.env)).any (·.1)=false:=by rfl):
  PE3 ca X (.Call (.Name "dict" p) [e] [] pos) (mOp1 Qh4 me) :=
 r_ty (λ_ _=>QgB) hm boot_dict (λΦ σ H μ g y d Q r q pp=>by
  unfold Qh4 at pp
  cases q with
  |@ref n t hn =>
   dsimp only at pp
   cases hgn:g[n]? with
   |none=>rw[hgn]at pp;exact pp.elim
   |some ob =>
    rw[hgn]at pp
    obtain⟨t',ht',orp⟩:=r.addr hgn
    rw[hn]at ht';cases ht'
    cases ob with
    |dct ks=>obtain⟨kv,hH,q⟩:=orp;exact⟨t,kv,rfl,hH,λl hl=>pp _ _ (μ++[l]) (Qt hl) (r.push hl ⟨kv,Qp,q.mono (Qt hl)⟩) (.ref (by rw[<-r.len];simp))⟩
    |_=>exact pp.elim
  |_=>exact pp.elim) he hg (by decide) (by decide) hs hpl
theorem Qh5(ho:PE3 ca X o mo)(he:PE3 ca X e me)(hf:PE3 ca X f mf)(hbase:attributeBase o "get" X.env (eval o X.env)=eval o X.env:=by rfl)(hfew:((backTo pos (starEach [e,f] X.env)).all (λx=>!x.1) && (backToKw pos (keywordEach [] X.env)).all (λx=>x.1.isSome) && decide ([e,f].length+([]:List Keyword).length+(if ([]:List Keyword).isEmpty then 0 else 1)<30))=true:=by rfl)(hline:(apos.endLine == pos.line)=true:=by rfl)(hs:starEach [e,f] X.env=(false,eval e X.env)::starEach [f] X.env:=by rfl)(hs2:starEach [f] X.env=(false,eval f X.env)::starEach [] X.env:=by rfl)(hplain:(backTo pos (starEach [f] X.env)).any (·.1)=false:=by rfl):
  PE3 ca X (.Call (.Attribute o "get" apos) [e,f] [] pos) (Qea mo me mf) :=
 λpn Φ=>Q6 (Qi5 (X:=xat X ca pn Φ) WW Bp PySem.F.type_dict_get Qju (ho pn Φ) (Yv he (Yv hf Qj hs2) hs pn Φ) hbase hfew hline hs hplain) λσ H Q ⟨σ3,g,μ,R,q⟩=>Q5 (Jm R q) λx H1 hQ=>by
  obtain⟨d,g1,μ1,e1,R1,q1,p1⟩:=hQ
  cases q1 with
  |@ref n t hn =>
   dsimp only at p1
   cases hgn:g1[n]? with
   |none=>rw[hgn]at p1;exact p1.elim
   |some ob =>
    rw[hgn]at p1
    obtain⟨t',ht',orp⟩:=R1.g.addr hgn
    rw[hn]at ht';cases ht'
    cases ob with
    |dct ks0 =>
     obtain⟨kv0,hH0,_⟩:=orp
     dsimp only at p1
     refine⟨.inr (.inr (.inl ⟨rfl,.inl ⟨_,hH0⟩⟩)),σ3,g1,μ1,R1,?_⟩
     unfold Qb mNil
     cases hm:me σ3 g1 with
     |raise _ _=>rw[hm]at p1;exact p1
     |stuck=>rw[hm]at p1;exact p1.elim
     |ok y g2 =>
      rw[hm,Res.bind_ok]at p1
      rw[Res.bind_ok]
      cases hm2:mf σ3 g2 with
      |raise _ _=>rw[hm2]at p1;exact p1
      |stuck=>rw[hm2]at p1;exact p1.elim
      |ok z g3 =>
       rw[hm2,Res.bind_ok]at p1
       rw[Res.bind_ok,Res.bind_ok,Res.bind_ok]
       intro vs H2 μ2 e2 r2 q2
       cases q2 with
       |cons h1 h2=>cases h2 with
        |cons h2 h3 =>
         cases h3
         cases h1 with
         |int i =>
          dsimp only at p1
          cases hg2:g3[n]? with
          |none=>rw[hg2]at p1;exact p1.elim
          |some ob2 =>
           rw[hg2]at p1
           obtain⟨t',ht',orp⟩:=r2.addr hg2
           rw[e2.at hn]at ht';cases ht'
           cases ob2 with
           |dct ks =>
            obtain⟨kv,hH,qs⟩:=orp
            dsimp only at p1
            refine⟨t,kv,.inl i,_,rfl,rfl,hH,p1 _ _ μ2 e2 r2 ?_⟩
            rcases qs.get (.inl i) with⟨a,b⟩|⟨v,d,a,b,c⟩
            ·rw[a,b];exact h2
            ·rw[a,b];exact c
           |_=>exact p1.elim
         |_=>exact p1.elim
    |_=>exact p1.elim
  |_=>exact p1.elim
theorem Qns(ho:PE3 ca X o mo)(he:PE3 ca X e me)(hbase:attributeBase o "pop" X.env (eval o X.env)=eval o X.env:=by rfl)(hfew:((backTo pos (starEach [e] X.env)).all (λx=>!x.1) && (backToKw pos (keywordEach [] X.env)).all (λx=>x.1.isSome) && decide ([e].length+([]:List Keyword).length+(if ([]:List Keyword).isEmpty then 0 else 1)<30))=true:=by rfl)(hline:(apos.endLine == pos.line)=true:=by rfl)(hs:starEach [e] X.env=(false,eval e X.env)::starEach [] X.env:=by rfl)(hplain:(backTo pos (starEach [] X.env)).any (·.1)=false:=by rfl):
  PE3 ca X (.Call (.Attribute o "pop" apos) [e] [] pos) (QgA mo me) :=
 λpn Φ=>Q6 (Qi5 (X:=xat X ca pn Φ) WW Bo PySem.F.type_dict_pop Qlq (ho pn Φ) (Yv he Qj hs pn Φ) hbase hfew hline hs hplain) λσ H Q ⟨σ3,g,μ,R,q⟩=>Q5 (Jm R q) λx H1 hQ=>by
  obtain⟨d,g1,μ1,e1,R1,q1,p1⟩:=hQ
  cases q1 with
  |@ref n t hn =>
   dsimp only at p1
   cases hgn:g1[n]? with
   |none=>rw[hgn]at p1;exact p1.elim
   |some ob =>
    rw[hgn]at p1
    obtain⟨t',ht',orp⟩:=R1.g.addr hgn
    rw[hn]at ht';cases ht'
    cases ob with
    |dct ks0 =>
     obtain⟨kv0,hH0,_⟩:=orp
     dsimp only at p1
     refine⟨.inr (.inr (.inl ⟨rfl,.inl ⟨_,hH0⟩⟩)),σ3,g1,μ1,R1,?_⟩
     unfold Qb mNil
     cases hm:me σ3 g1 with
     |raise _ _=>rw[hm]at p1;exact p1
     |stuck=>rw[hm]at p1;exact p1.elim
     |ok y g2 =>
      rw[hm,Res.bind_ok]at p1
      rw[Res.bind_ok,Res.bind_ok]
      intro vs H2 μ2 e2 r2 q2
      cases q2 with
      |cons h1 h2 =>
       cases h2
       cases h1 with
       |int i =>
        dsimp only at p1
        cases hg2:g2[n]? with
        |none=>rw[hg2]at p1;exact p1.elim
        |some ob2 =>
         rw[hg2]at p1
         obtain⟨t',ht',orp⟩:=r2.addr hg2
         rw[e2.at hn]at ht';cases ht'
         cases ob2 with
         |dct ks =>
          obtain⟨kv,hH,qs⟩:=orp
          dsimp only at p1
          rcases qs.get (.inl i) with⟨a,b⟩|⟨v,d,a,b,c⟩
          ·rw[b]at p1;exact p1.elim
          ·rw[b]at p1
           have ex:Ext X.K μ2 H2 μ2 (upd H2 t (.dK (Qd9 kv (.inl i)))):=JE hH (by intro _ z;cases z) (by intro _ _ z;cases z)
           refine⟨t,kv,.inl i,v,rfl,rfl,hH,a,p1 _ _ μ2 (e2.trans ex) ?_ (c.mono ex)⟩
           exact r2.set (e2.at hn) hH (by intro _ z;cases z) (by intro _ _ z;cases z) ⟨_,Qp,(qs.mono ex).drop _⟩
         |_=>exact p1.elim
       |_=>exact p1.elim
    |_=>exact p1.elim
  |_=>exact p1.elim
theorem Qnt{i:Expr}{mi:ME}{pos':Pos}(ho:PE3 ca X o mo)(hi:PE3 ca X i mi)(he:PE3 ca X e me)(hs:swapsWithSole [.Subscript o i pos'] e pos.line X.env=pure false:=by rfl)(hw:swappedStores [.Subscript o i pos'] e X.env=pure none:=by rfl)(h1:(assignEach [.Subscript o i pos'] X.env).map (·.2)=[assign (.Subscript o i pos') X.env]:=by rfl)(ha:∀v,assign (.Subscript o i pos') X.env v=(do
   let ov <-holding [v] (eval o X.env)
   let iv <-holding [v,ov] (eval i X.env)
   standAt pos'
   holding [v,ov,iv] (setItem ov iv v)
   release [v,ov,iv] []):=by intro _;rfl):PS3 ca X (.Assign [.Subscript o i pos'] e pos) (Qdl mo mi me) :=
 λpn Φ=>Ye (Qg2 (X:=xat X ca pn Φ) (he pn Φ) (Qj2 (X:=xat X ca pn Φ) (ho pn Φ) (hi pn Φ) Qjv ha) hs hw h1) λE σ H ⟨σ3,g,μ,R,p⟩=>⟨σ3,g,μ,R,by
  unfold Qdl at p
  cases hm:me σ3 g with
  |ok y g1 =>
   rw[hm]at p
   dsimp only at p
   intro vy H1 μ1 e1 r1 q1
   refine⟨σ3,g1,μ1,R.go e1 r1,?_⟩
   cases hm2:mo σ3 g1 with
   |ok d g2 =>
    rw[hm2]at p
    intro vx H2 μ2 e2 r2 q2
    cases q2 with
    |@ref n a hn =>
     dsimp only at p
     refine⟨σ3,g2,μ2,R.go (e1.trans e2) r2,?_⟩
     cases hm3:mi σ3 g2 with
     |ok di g3 =>
      rw[hm3]at p
      intro vi H3 μ3 e3 r3 q3
      cases q3 with
      |int k =>
       dsimp only at p
       cases hg:g3[n]? with
       |none=>rw[hg]at p;exact p.elim
       |some ob =>
        rw[hg]at p
        obtain⟨a',ha',orp⟩:=r3.addr hg
        rw[e3.at hn]at ha';cases ha'
        cases ob with
        |dct ks =>
         dsimp only at p
         obtain⟨kv,hH,q⟩:=orp
         by_cases z:ks.length<SZ
         ·rw[Ud z]at p
          have ex:Ext X.K μ3 H3 μ3 (upd H3 a (.dK (putK kv (.inl k) vy))):=JE hH (by intro _ z;cases z) (by intro _ _ z;cases z)
          refine⟨a,kv,.inl k,rfl,rfl,hH,by rw[Paired.length q];exact Ur z Y4,?_⟩
          refine p σ _ μ3 (((e1.trans e2).trans e3).trans ex) ((R.go ((e1.trans e2).trans e3) r3).go ex ?_)
          exact r3.set (e3.at hn) hH (by intro _ z;cases z) (by intro _ _ z;cases z) ⟨_,Qp,(q.mono ex).put _ (((q1.mono e2).mono e3).mono ex)⟩
         ·rw[Ue z]at p;exact p.elim
        |_=>exact p.elim
      |_=>exact p.elim
     |raise _ _=>rw[hm3]at p;exact(RaP.stmt R p).go (e1.trans e2)
     |stuck=>rw[hm3]at p;exact p
    |_=>exact p.elim
   |raise _ _=>rw[hm2]at p;exact(RaP.stmt R p).go e1
   |stuck=>rw[hm2]at p;exact p
  |raise _ _=>rw[hm]at p;exact RaP.stmt R p
  |stuck=>rw[hm]at p;exact p⟩
end
end L3
namespace L3
open PySem
noncomputable def Qjw(x y:D)(g:G):Res D:=match x,y with
 |.int i,.int j=>.ok (.int (if j<i then j else i)) g
 |_,_=>.stuck
noncomputable def Qh6(x y:D)(g:G):Res D:=match x,y with
 |.int i,.int j=>.ok (.int (if i<j then j else i)) g
 |_,_=>.stuck
noncomputable def QeY(o e:ME):ME:=λσ g=>(o σ g).bind λx g1=>match x with
 |.ref n=>(match g1[n]? with
  |some (.lst _)=>(e σ g1).bind λy g2=>(match y with
   |.ref m=>(match g2[n]?,g2[m]? with
    |some (.lst ds),some (.lst es)=>if n≠m/\ds.length+es.length<=SZ then .ok .non (g2.set n (.lst (ds++es))) else .stuck
    |_,_=>.stuck)
   |_=>.stuck)
  |_=>.stuck)
 |_=>.stuck
noncomputable def Yk:List (DK×D)->Option (List Int)
 |[]=>some []
 | (.inl i,_)::r=>(Yk r).map (i :: ·)
 |_::_=>none
noncomputable def QeZ(x:D)(g:G):Res D:=match x with
 |.ref n=>(match g[n]? with
  |some (.dct ks)=>(match Yk ks with
   |some is=>if is.length<=100000 then .ok (.ref g.length) (g++[.lst (is.map .int)]) else .stuck
   |none=>.stuck)
  |_=>.stuck)
 |_=>.stuck
noncomputable def pDIx(x y:D)(g:G):Res D:=match x,y with
 |.ref n,.int i=>(match g[n]? with
  |some (.dct ks)=>(match dGet ks (.inl i) with
   |some v=>.ok v g
   |none=>.stuck)
  |_=>.stuck)
 |_,_=>.stuck
end L3
namespace L3
open PySem PySem.Spec PyProof.Rows L2
section
variable{X:Cx}
theorem Qlr{i:Int}{v:Value}(h:QeA (.inl i) v=true):∃t,v=.int i t:=by
 rcases QY h with⟨j,t,e1,e2⟩|⟨x,t,e1,e2⟩
 ·cases e1;exact⟨t,e2⟩
 ·cases e1
theorem Qls{kvs:List (Key×V)}{vs:List (Key×Value)}(rel:KV kvs vs):kvs.map (·.1)=vs.map (·.1):=by
 unfold KV at rel
 induction rel with
 |nil=>rfl
 |cons h t ih=>rw[UH,UH,ih,h.1]
theorem Qh7(hc:X.calm=true):CallR X (.type "list") (λxs H Q=>∃(a:Addr)(kvs:List (Key×V))(is:List Int),xs=[.ref a]/\H a=some (.dK kvs)/\kvs.map (·.1)=is.map Sum.inl/\∀l,H l=none->Q (.ref l) (upd H l (.lst (is.map V.int)))):=by
 intro pins s σ H xs us Q I rv h
 obtain⟨a,kvs,is,rfl,e,hk,q⟩:=h
 obtain⟨u,rfl,ru⟩:=rv.one
 cases ru
 obtain⟨z,hd,vs,rel,dd⟩:=Qh1 I.hok e
 obtain⟨ep,hat⟩:=dd.dictAt
 have hl:vs.length=is.length:=by rw[<-rel.length,<-Uw (f:=λp:Key×V=>p.1),hk,Uw]
 have hkv:kvs.length=is.length:=by rw[rel.length,hl]
 refine kdl_call (kdl_dict (knd:=Yt X.prog X.w) (kvs:=vs) (ep:=ep) hd) (I.ok.hd hc) hat (by rw[<-rel.length];exact z) λh' tk acc' c' kp hD hacc=>?_
 refine⟨.ref s.heap.objs.size,_,I.laid (a:=s.heap.objs.size) (o:=.lst (is.map V.int)) (t':=tk) kp (Uc _) (show ObjOk X.prog X.w _ _ _ (.lst (is.map V.int)) from ⟨by rw[Uw,<-hkv];exact z,acc'.toList,c',?_,hD⟩),rfl,q _ (I.hok.fresh (Uc _))⟩
 have key:∀(ws:List Value)(js:List Int),ws.length=js.length->(∀(j:Nat)(v:Value)(i:Int),ws[j]?=some v->js[j]?=some i->∃t,v=Value.int i t)->Vals (js.map V.int) ws:=by
  intro ws
  induction ws with
  |nil=>intro js h1 _;cases js with
   |nil=>exact .nil
   |cons _ _=>cases h1
  |cons w ws ih =>
   intro js h1 h2
   cases js with
   |nil=>cases h1
   |cons i js=>exact .cons (h2 0 w i rfl rfl) (ih js (by simpa using h1) λj v k a b=>h2 (j+1) v k a b)
 refine key _ _ (by rw[Um,hacc.1,hl]) λj v i hv hi=>?_
 obtain⟨k,x,hx,hkk⟩:=hacc.2 j v (by rw[<-T4];exact hv)
 have h1:(vs.map (·.1))[j]?=some k:=by rw[UA,hx];rfl
 have hkeys:=Qls rel
 rw[<-hkeys,hk,UA,hi]at h1
 cases h1
 exact Qlr hkk
theorem Qjx:IxR X (λx y H Q=>∃a kvs k v,x=.ref a/\y=kV k/\H a=some (.dK kvs)/\valV kvs k=some v/\Q v H):=by
 intro value slice pins s σ H x y v u Q I rx ry h hs
 obtain⟨a,kvs,k,w,rfl,rfl,e,l,q⟩:=h
 cases rx
 obtain⟨z,hd,vs,rel,dd⟩:=Qh1 I.hok e
 obtain⟨w',hw,rw'⟩:=RelO.some_of (v:=w) (o:=valueAt vs k) (by rw[<-l];exact rel.val k)
 exact tail_any dd.typeIs PySem.F.slot_dict_getitem.lookup (wpAny_getItem_of (Qjp ry) dd.mapOf hw ⟨_,H,I.tok _,rw',q⟩) hs
end
section
variable{X:Cx}{ca:Nat->Addr}{a b e f o:Expr}{ma mb me mf mo:ME}{p pos apos:Pos}
theorem Qjy{K:PySem.W.Frag}:Jo K ca (λx y H Q=>∃a kvs k v,x=.ref a/\y=kV k/\H a=some (.dK kvs)/\valV kvs k=some v/\Q v H) pDIx:=by
 intro Φ σ H μ g x y dx dy Q r qx qy p
 unfold pDIx at p
 cases qx with
 |@ref n t hn =>
  cases qy with
  |int i =>
   dsimp only at p
   cases hg:g[n]? with
   |none=>rw[hg]at p;exact p.elim
   |some ob =>
    rw[hg]at p
    obtain⟨t',ht',orp⟩:=r.addr hg
    rw[hn]at ht';cases ht'
    cases ob with
    |dct ks =>
     obtain⟨kv,hH,q⟩:=orp
     dsimp only at p
     rcases q.get (.inl i) with⟨a,b⟩|⟨v,d,a,b,c⟩
     ·rw[b]at p;exact p.elim
     ·rw[b]at p
      exact⟨t,kv,.inl i,v,rfl,rfl,hH,a,p v H μ .refl r c⟩
    |_=>exact p.elim
  |_=>exact p.elim
 |_=>cases qy <;> exact p.elim
theorem Qoy(ha:PE3 ca X a ma)(hb:PE3 ca X b mb)(hs:QcZ b:=by exact λ_ _=>rfl):PE3 ca X (.Subscript a b pos) (mOp2 pDIx ma mb):=r_ix (λ_ _=>Qjx) Qjy ha hb hs
theorem KRel.keys{K:PySem.W.Frag}{μ:List Addr}{H:Hp}{kv:List (Key×V)}{ks:List (Key×D)}(r:KRel K μ H kv ks):kv.map (·.1)=ks.map (·.1):=by
 unfold KRel at r
 induction r with
 |nil=>rfl
 |cons h t ih=>rw[UH,UH,ih,h.1]
theorem Qeb:∀{ks:List (Key×D)}{is:List Int},Yk ks=some is->ks.map (·.1)=is.map Sum.inl
 |[],_,h=>by cases h;rfl
 | (.inl i,_)::r,is,h=>by
  have h:(Yk r).map (i :: ·)=some is:=h
  obtain⟨js,h1,h2⟩:=Rf.mp h
  subst h2
  rw[UH,UH,Qeb h1]
theorem Qnu(hc:X.calm=true)(hm:X.mg "list" = none)(he:PE3 ca X e me)(hg:Gl X "list":=by rfl)(hs:starEach [e] X.env=[(false,eval e X.env)]:=by rfl)(hpl:(backTo pos (starEach [] X.env)).any (·.1)=false:=by rfl):
  PE3 ca X (.Call (.Name "list" p) [e] [] pos) (mOp1 QeZ me) :=
 r_ty (λpn Φ=>Qh7 (X:=xat X ca pn Φ) hc) hm boot_list (λΦ σ H μ g y d Q r q pp=>by
  unfold QeZ at pp
  cases q with
  |@ref n t hn =>
   dsimp only at pp
   cases hgn:g[n]? with
   |none=>rw[hgn]at pp;exact pp.elim
   |some ob =>
    rw[hgn]at pp
    obtain⟨t',ht',orp⟩:=r.addr hgn
    rw[hn]at ht';cases ht'
    cases ob with
    |dct ks =>
     obtain⟨kv,hH,q⟩:=orp
     dsimp only at pp
     cases hk:Yk ks with
     |none=>rw[hk]at pp;exact pp.elim
     |some is =>
      rw[hk]at pp
      dsimp only at pp
      by_cases z:is.length<=100000
      ·rw[Ud z]at pp
       have e1:kv.map (·.1)=ks.map (·.1):=q.keys
       exact⟨t,kv,is,rfl,hH,by rw[e1];exact Qeb hk,λl hl=>pp _ _ (μ++[l]) (Qt hl) (r.push hl ⟨_,Qp,QeW _⟩) (.ref (by rw[<-r.len];simp))⟩
      ·rw[Ue z]at pp;exact pp.elim
    |_=>exact pp.elim
  |_=>exact pp.elim) he hg (by decide) (by decide) hs hpl
theorem Qkm{x:Str}{id:String}{r:List V->Hp->VK->Prop}{h:D->D->G->Res D}(hc:∀pn Φ,CallR (xat X ca pn Φ) (.builtin id) r)(hm:X.mg x=none)(hv:bootBuiltins x=some (.builtin id))(hp:∀(Φ:XS) (σ:L2.St) (H:Hp) (μ:List Addr) (g:G) (y z:V) (d c:D) (Q:VK),GRep X.K ca μ H g->Den X.K μ H y d->Den X.K μ H z c->Post X.K ca Φ σ Q H μ (h d c g)->r [y,z] H Q)(he:PE3 ca X e me)(hf:PE3 ca X f mf)(hg:Gl X x)(hn:x ≠ "__name__")(hdb:(x == ("__debug__" : Str))=false)(hs:starEach [e,f] X.env=(false,eval e X.env)::starEach [f] X.env)(hs2:starEach [f] X.env=(false,eval f X.env)::starEach [] X.env)(hpl:(backTo pos (starEach [f] X.env)).any (·.1)=false):PE3 ca X (.Call (.Name x p) [e,f] [] pos) (mOp2 h me mf) :=
 λpn Φ=>Q6 (Qbh (X:=xat X ca pn Φ) (hc pn Φ) hg hm hv (Yv he (Yv hf Qj hs2) hs pn Φ) hn hdb hs hpl) λσ H Q hQ=>by
  obtain⟨σ3,g,μ,R,q⟩:=hQ
  refine⟨σ3,g,μ,R,?_⟩
  unfold mOp2 at q
  unfold Qb mNil
  cases hm:me σ3 g with
  |raise _ _=>rw[hm]at q;exact q
  |stuck=>rw[hm]at q;exact q.elim
  |ok d g1 =>
   rw[hm,Res.bind_ok]at q
   rw[Res.bind_ok]
   cases hm2:mf σ3 g1 with
   |raise _ _=>rw[hm2]at q;exact q
   |stuck=>rw[hm2]at q;exact q.elim
   |ok c g2 =>
    rw[hm2,Res.bind_ok]at q
    rw[Res.bind_ok,Res.bind_ok,Res.bind_ok]
    intro vs H1 μ1 e1 r1 q1
    cases q1 with
    |cons h1 h2=>cases h2 with
     |cons h2 h3 =>
      cases h3
      exact hp Φ σ H1 μ1 g2 _ _ d c Q r1 h1 h2 (q.go e1)
theorem Qnv(hc:X.calm=true)(hm:X.mg "min" = none)(he:PE3 ca X e me)(hf:PE3 ca X f mf)(hg:Gl X "min":=by rfl)(hs:starEach [e,f] X.env=(false,eval e X.env)::starEach [f] X.env:=by rfl)(hs2:starEach [f] X.env=(false,eval f X.env)::starEach [] X.env:=by rfl)(hpl:(backTo pos (starEach [f] X.env)).any (·.1)=false:=by rfl):
  PE3 ca X (.Call (.Name "min" p) [e,f] [] pos) (mOp2 Qjw me mf) :=
 Qkm (λpn Φ=>Qg8 (X:=xat X ca pn Φ) hc) hm boot_min (λΦ σ H μ g y z d c Q r q1 q2 pp=>by
  unfold Qjw at pp
  cases q1 with
  |int i =>
   cases q2 with
   |int j=>exact⟨i,j,rfl,pp _ H μ .refl r (.int _)⟩
   |_=>exact pp.elim
  |_=>cases q2 <;> exact pp.elim) he hf hg (by decide) (by decide) hs hs2 hpl
theorem Qnw(hc:X.calm=true)(hm:X.mg "max" = none)(he:PE3 ca X e me)(hf:PE3 ca X f mf)(hg:Gl X "max":=by rfl)(hs:starEach [e,f] X.env=(false,eval e X.env)::starEach [f] X.env:=by rfl)(hs2:starEach [f] X.env=(false,eval f X.env)::starEach [] X.env:=by rfl)(hpl:(backTo pos (starEach [f] X.env)).any (·.1)=false:=by rfl):
  PE3 ca X (.Call (.Name "max" p) [e,f] [] pos) (mOp2 Qh6 me mf) :=
 Qkm (λpn Φ=>Qg7 (X:=xat X ca pn Φ) hc) hm boot_max (λΦ σ H μ g y z d c Q r q1 q2 pp=>by
  unfold Qh6 at pp
  cases q1 with
  |int i =>
   cases q2 with
   |int j=>exact⟨i,j,rfl,pp _ H μ .refl r (.int _)⟩
   |_=>exact pp.elim
  |_=>cases q2 <;> exact pp.elim) he hf hg (by decide) (by decide) hs hs2 hpl
theorem Qjz(ho:PE3 ca X o mo)(he:PE3 ca X e me)(hbase:attributeBase o "extend" X.env (eval o X.env)=eval o X.env:=by rfl)(hfew:((backTo pos (starEach [e] X.env)).all (λx=>!x.1) && (backToKw pos (keywordEach [] X.env)).all (λx=>x.1.isSome) && decide ([e].length+([]:List Keyword).length+(if ([]:List Keyword).isEmpty then 0 else 1)<30))=true:=by rfl)(hline:(apos.endLine == pos.line)=true:=by rfl)(hs:starEach [e] X.env=(false,eval e X.env)::starEach [] X.env:=by rfl)(hplain:(backTo pos (starEach [] X.env)).any (·.1)=false:=by rfl):
  PE3 ca X (.Call (.Attribute o "extend" apos) [e] [] pos) (QeY mo me) :=
 λpn Φ=>Q6 (Qi5 (X:=xat X ca pn Φ) RD PySem.F.slot_list_extend PySem.F.type_list_extend Qhh (ho pn Φ) (Yv he Qj hs pn Φ) hbase hfew hline hs hplain) λσ H Q ⟨σ3,g,μ,R,q⟩=>Q5 (Jm R q) λx H1 hQ=>by
  obtain⟨d,g1,μ1,e1,R1,q1,p1⟩:=hQ
  cases q1 with
  |@ref n t hn =>
   dsimp only at p1
   cases hgn:g1[n]? with
   |none=>rw[hgn]at p1;exact p1.elim
   |some ob =>
    rw[hgn]at p1
    obtain⟨t',ht',orp⟩:=R1.g.addr hgn
    rw[hn]at ht';cases ht'
    cases ob with
    |lst ds0 =>
     obtain⟨vs0,hH0,_⟩:=orp
     dsimp only at p1
     refine⟨.inl ⟨rfl,_,.of hH0⟩,σ3,g1,μ1,R1,?_⟩
     unfold Qb mNil
     cases hm:me σ3 g1 with
     |raise _ _=>rw[hm]at p1;exact p1
     |stuck=>rw[hm]at p1;exact p1.elim
     |ok y g2 =>
      rw[hm,Res.bind_ok]at p1
      rw[Res.bind_ok,Res.bind_ok]
      intro vs H2 μ2 e2 r2 q2
      cases q2 with
      |cons h1 h2 =>
       cases h2
       cases h1 with
       |@ref m c hmm =>
        dsimp only at p1
        cases hg2:g2[n]? with
        |none=>rw[hg2]at p1;exact p1.elim
        |some ob2 =>
         cases hg3:g2[m]? with
         |none=>rw[hg2,hg3]at p1;cases ob2 <;> exact p1.elim
         |some ob3 =>
          rw[hg2,hg3]at p1
          obtain⟨t',ht',orp⟩:=r2.addr hg2
          rw[e2.at hn]at ht';cases ht'
          obtain⟨c',hc',orp3⟩:=r2.addr hg3
          rw[hmm]at hc';cases hc'
          cases ob2 with
          |lst ds =>
           cases ob3 with
           |lst es =>
            obtain⟨ws,hH,qs⟩:=orp
            obtain⟨zs,hH3,qz⟩:=orp3
            dsimp only at p1
            by_cases z:n≠m/\ds.length+es.length<=SZ
            ·rw[Ud z]at p1
             have ex:Ext X.K μ2 H2 μ2 (upd H2 t (.lst (ws++zs))):=JE hH (by intro _ z;cases z) (by intro _ _ z;cases z)
             refine⟨t,c,ws,zs,rfl,rfl,hH,hH3,by rw[qs.length,qz.length];exact Ut z.2 Y4,p1 _ _ μ2 (e2.trans ex) ?_ .non⟩
             exact r2.set (e2.at hn) hH (by intro _ z;cases z) (by intro _ _ z;cases z) ⟨_,Qp,(qs.mono ex).append (qz.mono ex)⟩
            ·rw[Ue z]at p1;exact p1.elim
           |_=>exact p1.elim
          |_=>cases ob3 <;> exact p1.elim
       |_=>exact p1.elim
    |_=>exact p1.elim
  |_=>exact p1.elim
end
end L3
namespace L3
open PySem
noncomputable def Qec(x:D)(g:G):Res D:=match tyOf g x with
 |some t=>.ok (.bl (tyLe t .list || tyLe t .tuple)) g
 |none=>.stuck
noncomputable def cP(i j:Int):Prop:=0<=j/\j<=1000/\i.natAbs<1000000
noncomputable instance (i j:Int):Decidable (cP i j):=inferInstanceAs (Decidable (_/\_/\_))
noncomputable def pPow(x y:D)(g:G):Res D:=match x,y with
 |.int i,.int j=>if cP i j then .ok (.int (i^j.toNat)) g else .stuck
 |_,_=>.stuck
end L3
namespace L3
open PySem PySem.Spec PyProof.Rows L2
section
variable{X:Cx}{ca:Nat->Addr}{e:Expr}{me:ME}{pos p p2 tp:Pos}{all cs:List Nat}
theorem JO(K:PySem.W.Frag)(t:Ty):kitAny K (.type t.name) [.type "list",.type "tuple"]=some (tyLe t .list || tyLe t .tuple):=by
 unfold kitAny
 rw[show Value.type "list" = .type Ty.list.name from rfl,Y5]
 cases tyLe t .list with
 |true=>rfl
 |false =>
  dsimp only
  unfold kitAny
  rw[show Value.type "tuple" = .type Ty.tuple.name from rfl,Y5]
  cases tyLe t .tuple <;> rfl
theorem Qlt{h:Heap}{a:Addr}{xs:Array Value}(p:IsTup h a xs):∃dd n sl,h.get? a=some ⟨.type "tuple",dd,.seq xs n,sl⟩:=by
 obtain⟨⟨cls,dd,data,sl⟩,h1,h2,n,h3⟩:=p
 simp only at h2 h3
 subst h2 h3
 exact⟨dd,n,sl,h1⟩
theorem QgC:CallR X (.builtin "isinstance") (λxs H Q=>∃x q g μ d t,xs=[x,.ref q]/\SqT X.K H q [.ty "list",.ty "tuple"]/\GRep X.K ca μ H g/\Den X.K μ H x d/\tyOf g d=some t/\Q (.bl (tyLe t .list || tyLe t .tuple)) H):=by
 intro pins s σ H xs us Q I rv h
 obtain⟨x,q,g,μ,d,t,rfl,hq,r,qd,ht,qq⟩:=h
 obtain⟨u,u2,rfl,ru,ru2⟩:=rv.two
 cases ru2
 obtain⟨its,r1,p1,_⟩:=I.tuple hq
 obtain⟨w1,w2,rfl,a1,a2⟩:=r1.two
 cases a1;cases a2
 obtain⟨dd,n,sl,ho⟩:=Qlt p1
 have fin:∀tk,EP X pins σ Q (.bool (tyLe t .list || tyLe t .tuple)) {s with toks:=tk}:=λtk=>⟨.bl _,H,I.tok tk,rfl,qq⟩
 cases qd with
 |non=>cases ht;cases (show u=Value.none from ru);exact TL kitx_none I.kIn True.intro ho (JO X.K .non) (λz=>nomatch z) fin
 |bl y=>cases ht;cases (show u=Value.bool y from ru);exact TL kitx_bool I.kIn True.intro ho (JO X.K .bool) (λz=>nomatch z) fin
 |int y=>cases ht;obtain⟨t,q⟩:=(show ∃t,u=Value.int y t from ru);cases q;exact TL kitx_int I.kIn True.intro ho (JO X.K .int) (λz=>nomatch z) fin
 |str y=>cases ht;obtain⟨t,q⟩:=(show ∃t,u=Value.str y t from ru);cases q;exact TL kitx_str I.kIn True.intro ho (JO X.K .str) (λz=>nomatch z) fin
 |@tup a vs ds hq hs =>
  cases ht
  cases ru
  obtain⟨its,_,⟨o,h1,h2,_⟩,_⟩:=I.tuple hq
  exact TL Wu I.kIn ⟨o,h1,h2⟩ ho (JO X.K .tuple) (λz=>nomatch z) fin
 |@fl a vs ds hq hs =>
  cases ht
  cases ru
  obtain⟨its,_,p,_⟩:=I.list hq.sq
  obtain⟨o,h1,h2,_⟩:=p.isList
  exact TL Rk I.kIn ⟨o,h1,h2⟩ ho (JO X.K .list) (λz=>nomatch z) fin
 |@ref n a hn =>
  unfold tyOf at ht
  dsimp only at ht
  cases hg:g[n]? with
  |none=>rw[hg]at ht;cases ht
  |some o =>
   rw[hg]at ht
   obtain⟨a',ha',ob⟩:=r.addr hg
   rw[hn]at ha';cases ha'
   cases o with
   |lst ds =>
    cases ht
    obtain⟨vs,hH,_⟩:=ob
    cases ru
    obtain⟨_,_,n,_,h1⟩:=(show ObjOk X.prog X.w H s.heap a (.lst vs) from I.hok a _ hH)
    exact TL Rk I.kIn ⟨_,h1,rfl⟩ ho (JO X.K .list) (λz=>nomatch z) fin
   |dct ks =>
    cases ht
    obtain⟨kv,hH,_⟩:=ob
    cases ru
    obtain⟨_,_,vs,_,p⟩:=(show ObjOk X.prog X.w H s.heap a (.dK kv) from I.hok a _ hH)
    obtain⟨o,es,ep,h1,h2,_⟩:=p
    exact TL WL I.kIn ⟨o,h1,h2.1⟩ ho (JO X.K .dict) (λz=>nomatch z) fin
   |ins _ _=>cases ht
   |exc _=>cases ht
theorem Qlu{k:Nat}{p3:Pos}(hi:X.mg "isinstance" = none)(hl:X.mg "list" = none)(ht:X.mg "tuple" = none)(he:PE3 ca X e me)(hgi:Gl X "isinstance":=by rfl)(hgl:Gl X "list":=by rfl)(hgt:Gl X "tuple":=by rfl)(hs:starEach [e,.Tuple [.Name "list" p2,.Name "tuple" p3] k tp] X.env=(false,eval e X.env)::starEach [.Tuple [.Name "list" p2,.Name "tuple" p3] k tp] X.env:=by rfl)(hs2:starEach [.Tuple [.Name "list" p2,.Name "tuple" p3] k tp] X.env=(false,eval (.Tuple [.Name "list" p2,.Name "tuple" p3] k tp) X.env)::starEach [] X.env:=by rfl)(hs3:starEach [.Name "list" p2,.Name "tuple" p3] X.env=(false,eval (.Name "list" p2) X.env)::starEach [.Name "tuple" p3] X.env:=by rfl)(hs4:starEach [.Name "tuple" p3] X.env=(false,eval (.Name "tuple" p3) X.env)::starEach [] X.env:=by rfl)(hpl:(backTo pos (starEach [.Tuple [.Name "list" p2,.Name "tuple" p3] k tp] X.env)).any (·.1)=false:=by rfl):
  PE3 ca X (.Call (.Name "isinstance" p) [e,.Tuple [.Name "list" p2,.Name "tuple" p3] k tp] [] pos) (mOp1 Qec me) :=
 λpn Φ=>Q6 (Qbh (X:=xat X ca pn Φ) (QgC (ca:=ca)) hgi hi boot_isinstance (Qah (X:=xat X ca pn Φ) (he pn Φ) (Qah (X:=xat X ca pn Φ) (Qj5 (X:=xat X ca pn Φ) (Qah (X:=xat X ca pn Φ) (QeD (X:=xat X ca pn Φ) (v:=.ty "list") hgl hl boot_list rfl (by decide) (by decide)) (Qah (X:=xat X ca pn Φ) (QeD (X:=xat X ca pn Φ) (v:=.ty "tuple") hgt ht boot_tuple rfl (by decide) (by decide)) Qfp hs4) hs3)) Qfp hs2) hs) (by decide) (by decide) hs hpl) λσ H Q ⟨σ3,g,μ,R,q⟩ =>
  Q5 (Jm R q) λy H1 hQ=>by
   obtain⟨d,g1,μ1,e1,R1,q1,p1⟩:=hQ
   unfold Qec at p1
   cases ht:tyOf g1 d with
   |none=>rw[ht]at p1;exact p1.elim
   |some t =>
    rw[ht]at p1
    exact⟨Ut (by decide:2<=SZ) Y4,λq hq=>⟨y,q,g1,μ1,d,t,rfl,.of Qp,R1.g.new hq,q1.mono (QZ hq),ht,p1 _ _ μ1 (QZ hq) (R1.g.new hq) (.bl _)⟩⟩
end
theorem Qnx{X:Cx}{ca:Nat->Addr}{a b:Expr}{ma mb:ME}{pos:Pos}(ha:PE3 ca X a ma)(hb:PE3 ca X b mb):PE3 ca X (.BinOp a .Pow b pos) (mOp2 pPow ma mb) :=
 Qgp (λ_ _=>Qmm) (QeO (λΦ σ i j g Q H μ r p=>by
  unfold pPow at p
  by_cases z:cP i j
  ·dsimp only at p;rw[Ud z]at p;exact⟨⟨z.1,UN z.2.1 (by decide),Ur z.2.2 (by decide)⟩,p _ H μ .refl r (.int _)⟩
  ·dsimp only at p;rw[Ue z]at p;exact p.elim) (Qat λx y g=>by cases x <;> cases y <;> first|exact .inl ⟨_,_,rfl,rfl⟩|exact .inr rfl)) ha hb
end L3
namespace L3
open PySem
noncomputable def anyB:List D->Option Bool
 |[]=>some false
 |.bl b::r=>(anyB r).map (b || ·)
 |_::_=>none
noncomputable def pAny(x:D)(g:G):Res D:=match x with
 |.ref n=>(match g[n]? with
  |some (.lst ds)=>(match anyB ds with
   |some b=>.ok (.bl b) g
   |none=>.stuck)
  |_=>.stuck)
 |_=>.stuck
noncomputable def ZC(x:D)(g:G):Res D:=match QB g x with
 |some (true,ds)=>.ok (.ref g.length) (g++[.lst ds.reverse])
 |_=>.stuck
end L3
namespace L3
open PySem PySem.Spec PyProof.Rows L2
section
variable{X:Cx}{ca:Nat->Addr}{e:Expr}{me:ME}{p p2 pos pos2:Pos}
theorem QfS{K:PySem.W.Frag}{μ:List Addr}{H:Hp}:∀{vs:List V}{ds:List D}{us:List Value}{b:Bool},Dens K μ H vs ds->Vals vs us->anyB ds=some b->∃bs:List Bool,us=bs.map Value.bool/\bs.any id=b
 |_,_,_,b,.nil,.nil,h=>by cases h;exact⟨[],rfl,rfl⟩
 |_,_,_,b,@Dens.cons _ _ _ _ _ _ ds q qs,.cons r rs,h=>by
  cases q with
  |bl c =>
   unfold anyB at h
   cases hd:anyB ds with
   |none=>rw[hd]at h;cases h
   |some d =>
    rw[hd]at h
    cases h
    obtain⟨bs,h1,h2⟩:=QfS qs rs hd
    cases r
    exact⟨c::bs,by rw[h1];rfl,by simp[h2]⟩
  |_=>cases h
theorem Qh8(bs:List Bool):((List.range bs.length).any λi=>(bs[i]?).getD false)=bs.any id:=by
 rw[T7,List.any_eq_true,List.any_eq_true]
 constructor
 ·intro ⟨i,hi,h⟩
  have hi':=Tt.mp hi
  exact⟨bs[i],UL hi',by simpa[hi']using h⟩
 ·intro ⟨b,hb,h⟩
  obtain⟨i,hi,rfl⟩:=Th hb
  exact⟨i,Tt.mpr hi,by simpa[hi]using h⟩
theorem Qh9(hc:X.calm=true):CallR X (.builtin "any") (λxs H Q=>∃p vs ds μ b,xs=[.ref p]/\SqL X.K H p vs/\Dens X.K μ H vs ds/\anyB ds=some b/\Q (.bl b) H):=by
 intro pins s σ H xs us Q I rv h
 obtain⟨l,vs,ds,μ,b,rfl,hq,q,hb,qq⟩:=h
 obtain⟨u,rfl,ru⟩:=rv.one
 cases ru
 obtain⟨its,rs,pl,_⟩:=I.list hq
 obtain⟨bs,rfl,e2⟩:=QfS q rs hb
 have hl:=pl.isList
 have hlt:l<s.heap.objs.size:=by obtain⟨_,e,_⟩:=hl;exact Uk e
 refine call_any_walk (RJ hl ⟨s.heap.objs.size,[s.heap.objs.size,l],[s.heap.objs.size],_,_,_,λi=>(bs[i]?).getD false,rfl,Walks.list (A:=X.A.in1) (show X.A.in1.handled=none from I.ok.hd hc) _ l (UF hlt) _,⟨⟨_,Uo _ rfl,rfl,rfl⟩,hl.push _⟩,λi v s' Q' E' hP hQ=>?_,λh' tk hk=>?_⟩)
 ·have hP:(bs.map Value.bool).toArray[i]?=some v:=hP
  rw[Tw,UA]at hP
  cases hi:bs[i]? with
  |none=>rw[hi]at hP;cases hP
  |some c =>
   rw[hi]at hP
   cases hP
   simp only[hi,Option.getD_some]at hQ
   exact TK hQ
 ·have kept:∀c o,s.heap.get? c=some o->h'.get? c=some o:=λc o e=>hk c o (λhm=>by rw[Uz.mp hm]at e;exact Tc _ (Uk e)) (Ub _ e)
  have ea:((List.range (bs.map Value.bool).toArray.size).any λi=>(bs[i]?).getD false)=b:=by
   rw[Uf,Uw,Qh8,e2]
  rw[ea]
  exact⟨.bl b,H,I.kept kept,rfl,qq⟩
theorem Qoz(hc:X.calm=true)(hm:X.mg "any" = none)(he:PE3 ca X e me)(hg:Gl X "any":=by rfl)(hs:starEach [e] X.env=[(false,eval e X.env)]:=by rfl)(hpl:(backTo pos (starEach [] X.env)).any (·.1)=false:=by rfl):
  PE3 ca X (.Call (.Name "any" p) [e] [] pos) (mOp1 pAny me) :=
 Qjd (r:=λxs H Q=>∃p vs ds μ b,xs=[V.ref p]/\SqL X.K H p vs/\Dens X.K μ H vs ds/\anyB ds=some b/\Q (.bl b) H) (λpn Φ=>Qh9 (X:=xat X ca pn Φ) hc) hm boot_any (λΦ σ H μ g y d Q r q pp=>by
  unfold pAny at pp
  cases q with
  |@ref n t hn =>
   dsimp only at pp
   cases hgn:g[n]? with
   |none=>rw[hgn]at pp;exact pp.elim
   |some ob =>
    rw[hgn]at pp
    obtain⟨t',ht',orp⟩:=r.addr hgn
    rw[hn]at ht';cases ht'
    cases ob with
    |lst ds =>
     obtain⟨vs,hH,q⟩:=orp
     dsimp only at pp
     cases hb:anyB ds with
     |none=>rw[hb]at pp;exact pp.elim
     |some b=>rw[hb]at pp;exact⟨t,vs,ds,μ,b,rfl,.of hH,q,hb,pp _ H μ .refl r (.bl _)⟩
    |_=>exact pp.elim
  |_=>exact pp.elim) he hg (by decide) (by decide) hs hpl
theorem QgD{ta:TA}(hs0:starEach [.Call (.Name "reversed" p2) [e] [] pos2] X.env=[(false,eval (.Call (.Name "reversed" p2) [e] [] pos2) X.env)])(hg:Gl X "list")(hm:X.mg "list" = none)(hg2:Gl X "reversed")(hm2:X.mg "reversed" = none)(ha:PA X [e] ta)(hs:starEach [e] X.env=[(false,eval e X.env)])(hc:X.calm=true):
  PE X (.Call (.Name "list" p) [.Call (.Name "reversed" p2) [e] [] pos2] [] pos) (λσ H Q=>ta σ H λvs H1=>∃a xs,vs=[.ref a]/\SqL X.K H1 a xs/\∀l,H1 l=none->Q (.ref l) (upd H1 l (.lst xs.reverse))):=by
 intro pins s σ H Q I h
 refine Call_ (Qap I hg hm boot_list (UV ?_ hs0 rfl))
 rw[hs0]
 show wpAny _ _ (spliced ((false,eval (.Call (.Name "reversed" p2) [e] [] pos2) X.env)::[])) _ _ s
 refine Wv (Call_ (Qap I hg2 hm2 boot_reversed (UV (thn (ha pos2 pins s σ H _ I h) λus s1 hv=>?_) hs rfl)))
 obtain⟨vs,H1,I1,r1,a,xs,rfl,hq,q⟩:=hv
 cases r1 with
 |cons r rr =>
  cases rr
  cases r
  obtain⟨its,rv,pl,hz⟩:=I1.list hq
  have hl:=rv.length
  obtain⟨f0,f1,f2,f3,f4,f5⟩:=I1.fpOk (Uc _) (I1.hok.fresh (Uc _))
  refine call_reversed_list pl.isList (WM ?_)
  have I2:Inv X pins σ H1 {s1 with heap:=s1.heap.push (revObj a ((its.toArray.size:Int) - 1))}:=I1.kept (t':=s1.toks) λb o e=>Ub _ e
  have ll:a≠s1.heap.objs.size:=λz=>by
   obtain⟨o,ho,_⟩:=pl.isList
   exact absurd (Uk ho) (by rw[z];exact Tc _)
  refine Qdk (I:=s1.heap.objs.size) (l:=a) (its:=its) (s:={s1 with heap:=s1.heap.push (revObj a ((its.toArray.size:Int) - 1))}) (I1.ok.hd hc) ll ⟨_,Uo _ rfl,rfl,rfl⟩ (pl.isList.at λo e=>Ub _ e) (by simp only[Uf];omega) λh' tk c kp e=>?_
  have kq:∀b o,s1.heap.get? b=some o->h'.get? b=some o:=λb o eb=>kp b o (UF (Uk eb)) (Ub _ eb)
  have hsz:s1.heap.objs.size<=(s1.heap.push (revObj a ((its.toArray.size:Int) - 1))).objs.size:=by rw[Tu];exact R0 _
  exact⟨.ref _,_,I1.laid (t':=tk) kq hsz (show ObjOk X.prog X.w _ h' _ (.lst xs.reverse) from ⟨by rw[Rc];exact hz,its.reverse,c,Qdi rv,e⟩),rfl,q _ (I1.hok.fresh hsz)⟩
theorem Qay(hc:X.calm=true)(hm:X.mg "list" = none)(hm2:X.mg "reversed" = none)(he:PE3 ca X e me)(hs0:starEach [.Call (.Name "reversed" p2) [e] [] pos2] X.env=[(false,eval (.Call (.Name "reversed" p2) [e] [] pos2) X.env)]:=by rfl)(hg:Gl X "list":=by rfl)(hg2:Gl X "reversed":=by rfl)(hs:starEach [e] X.env=[(false,eval e X.env)]:=by rfl):
  PE3 ca X (.Call (.Name "list" p) [.Call (.Name "reversed" p2) [e] [] pos2] [] pos) (mOp1 ZC me) :=
 λpn Φ=>Q6 (QgD (X:=xat X ca pn Φ) hs0 hg hm hg2 hm2 (Yv he Qj hs pn Φ) hs hc) λσ H Q hQ=>by
  obtain⟨σ3,g,μ,R,q⟩:=hQ
  refine⟨σ3,g,μ,R,?_⟩
  unfold mOp1 at q
  unfold Qb mNil
  cases hm:me σ3 g with
  |raise _ _=>rw[hm]at q;exact q
  |stuck=>rw[hm]at q;exact q.elim
  |ok d g1 =>
   rw[hm,Res.bind_ok]at q
   rw[Res.bind_ok,Res.bind_ok]
   intro vs H1 μ1 e1 r1 q1
   cases q1 with
   |@cons v _ _ _ h1 h2 =>
    cases h2
    unfold ZC at q
    cases hs1:QB g1 d with
    |none=>rw[hs1]at q;exact q.elim
    |some p1 =>
     obtain⟨b,ds⟩:=p1
     rw[hs1]at q
     cases b with
     |false=>exact q.elim
     |true =>
      obtain⟨a,ws,rfl,sq,dn⟩:=YV r1 h1 hs1
      have el:∀l:Addr,(μ1++[l])[g1.length]?=some l:=λl=>by rw[<-r1.len];simp
      exact⟨a,ws,rfl,sq,λl hl=>q _ _ (μ1++[l]) (e1.trans (Qt hl)) (r1.push hl ⟨_,Qp,dn.rev.mono (Qt hl)⟩) (.ref (el l))⟩
end
end L3
namespace L3
open PySem
noncomputable def Qe0(a:MA)(d:D):MA:=λσ g=>(a σ g).bind λxs g1=>.ok (xs++[d]) g1
end L3
namespace L3
open PySem PySem.Spec PyProof.Rows L2
structure FunD(K:PySem.W.Frag)(x qual:Str)(st:Stmt)(i:Int)(f:Addr)(fd:FuncData):Prop where
 ex:∃(oc:Value)(od:Option Addr)(kV doc pm:Value)(an:Option Addr)(cdv ct:Value)(osl:Array (Option Value))(dt:Addr)(dk:Tok)(de:Value)(dd:Option Addr)(dn:Nat)(ds:Array (Option Value)),
  fd=fnOf x qual (Qn st) (Qm st) (Qc st) (.ref dt) kV doc pm an cdv ct/\K.lookup f=some ⟨oc,od,.func fd,osl⟩/\codeIn K cdv qual=true/\K.lookup dt=some ⟨de,dd,.seq #[.int i dk] dn,ds⟩
 kp:keepIn K (.ref f)=true
theorem Qlv{K:PySem.W.Frag}{x qual:Str}{st:Stmt}{i:Int}{f dt:Addr}{dk:Tok}{oc de:Value}{od an dd:Option Addr}{osl ds:Array (Option Value)}{dn:Nat}{kV doc pm cdv ct:Value}(l:K.lookup f=some ⟨oc,od,.func (fnOf x qual (Qn st) (Qm st) (Qc st) (.ref dt) kV doc pm an cdv ct),osl⟩)(c:codeIn K cdv qual=true)(k:keepIn K (.ref f)=true)(y:K.lookup dt=some ⟨de,dd,.seq #[.int i dk] dn,ds⟩):FunD K x qual st i f (fnOf x qual (Qn st) (Qm st) (Qc st) (.ref dt) kV doc pm an cdv ct):=⟨⟨oc,od,kV,doc,pm,an,cdv,ct,osl,dt,dk,de,dd,dn,ds,rfl,l,c,y⟩,k⟩
theorem FunD.binds{K:PySem.W.Frag}{x qual:Str}{st:Stmt}{i:Int}{f:Addr}{fd:FuncData}{ps:List Str}(F:FunD K x qual st i f fd)(h:∀(dt:Addr) (dk:Tok) (kV doc pm:Value) (an:Option Addr) (cdv ct:Value) (us:List Value),us.length=ps.length->∃k:Option (Array Value)->Sem (List (Str×Value)),bindArgs (fnOf x qual (Qn st) (Qm st) (Qc st) (.ref dt) kV doc pm an cdv ct) ⟨us,[]⟩=(seqItems? (.ref dt) >>= k)/\k (some #[.int i dk])=pure (ps.zip us)):Binds K fd ps []:=by
 obtain⟨oc,od,kV,doc,pm,an,cdv,ct,osl,dt,dk,de,dd,dn,ds,rfl,lk,hcd,y⟩:=F.ex
 intro s us KX hl
 rw[UJ]at hl ⊢
 obtain⟨k,h1,h2⟩:=h dt dk kV doc pm an cdv ct us hl
 exact BindsTo.of_defaults (T:=dt) rfl (KX _ _ y) rfl h1 h2
theorem FunD.bindsD{K:PySem.W.Frag}{x qual:Str}{st:Stmt}{i:Int}{f:Addr}{fd:FuncData}{ps:List Str}(F:FunD K x qual st i f fd)(h:∀(dt:Addr) (dk:Tok) (kV doc pm:Value) (an:Option Addr) (cdv ct:Value) (us:List Value),us.length+1=ps.length->∃k:Option (Array Value)->Sem (List (Str×Value)),bindArgs (fnOf x qual (Qn st) (Qm st) (Qc st) (.ref dt) kV doc pm an cdv ct) ⟨us,[]⟩=(seqItems? (.ref dt) >>= k)/\k (some #[.int i dk])=pure (ps.zip (us++[.int i dk]))):∃t,Binds K fd ps [.int i t]:=by
 obtain⟨oc,od,kV,doc,pm,an,cdv,ct,osl,dt,dk,de,dd,dn,ds,rfl,lk,hcd,y⟩:=F.ex
 refine⟨dk,λs us KX hl=>?_⟩
 obtain⟨k,h1,h2⟩:=h dt dk kV doc pm an cdv ct us (by simpa using hl)
 exact BindsTo.of_defaults (T:=dt) rfl (KX _ _ y) rfl h1 h2
structure FnD(P:Program)(w:World)(K:PySem.W.Frag)(mg:Str->Option Value)(base:Heap)(ca:Nat->Addr)(x:Str)(k n:Nat)(i:Int)(F:MF):Prop where
 ex:∃(f:Addr)(fd:FuncData)(ps:List Str)(t:Tok),FnOk P w K mg base (CXW P w ca) k f fd ps (spM K ca n F)/\mg x=some (.ref f)/\keepIn K (.ref f)=true/\Binds K fd ps []/\Binds K fd ps [.int i t]
 st:∀ds g,ds.length≠n->F ds g=.stuck
theorem FnD.full{P:Program}{w:World}{K:PySem.W.Frag}{mg:Str->Option Value}{base:Heap}{ca:Nat->Addr}{x:Str}{k n:Nat}{i:Int}{F:MF}(h:FnD P w K mg base ca x k n i F):FnH P w K mg base ca x k n F:=by
 obtain⟨f,fd,ps,t,a,b,c,d,e⟩:=h.ex
 exact⟨⟨f,fd,ps,a,b,c,d⟩,h.st⟩
theorem Qny{P:Program}{w:World}{K:PySem.W.Frag}{mg:Str->Option Value}{base:Heap}{ca:Nat->Addr}{x qual:Str}{st:Stmt}{i:Int}{f:Addr}{fd:FuncData}{N ps:List Str}{k n j:Nat}{m:MS}(F:FunD K x qual st i f fd)(S:FnScope N ps (Qc st))(hj:ps.length=j)(hn:N.length-ps.length=n)(h:∀(cdv:Value) (A:Around) (outer:List Env) (s:Shared) (H:Hp) (E:XK),Room k (A.deeper (envOfC qual (Qc st) s.heap.objs.size f cdv)) ->
   PSs3 ca (cxOf (CXW P w ca) P w K mg base N qual (Qc st) f cdv A outer s H E) (Qm st) m):FnOk P w K mg base (CXW P w ca) (k+1) f fd ps (spM K ca j (mDef j n m)):=by
 subst hj
 obtain⟨oc,od,kV,doc,pm,an,cdv,ct,osl,dt,dk,de,dd,dn,ds,rfl,lk,hcd,y⟩:=F.ex
 refine QkS lk hcd S (λvs H Q E q=>q.1) λA outer s H vs Q E hr hsp=>?_
 obtain⟨hl,ds,g,μ,r,q,p⟩:=hsp
 refine⟨_,QdY (h cdv A outer s H E hr [] _),ds.map some++List.replicate n none,g,μ,?_,?_⟩
 ·have z:=QdX N r q
  rw[hl,hn]at z
  exact z
 ·unfold mDef at p
  rw[Ud (by rw[<-q.length,hl])]at p
  cases hm:m (ds.map some++List.replicate n none) g with
  |nx σ' g'=>rw[hm]at p;exact λσ'' H' μ' e' R'=>p .non H' μ' e' R'.g .non
  |rt d g'=>rw[hm]at p;exact p
  |bk _ _=>rw[hm]at p;exact p.elim
  |ct _ _=>rw[hm]at p;exact p.elim
  |raise _ _ _=>rw[hm]at p;exact λσ'' H' μ' e' R'=>p H' μ' e' R'.g
  |stuck=>rw[hm]at p;exact p.elim
section
variable{X:Cx}{ca:Nat->Addr}{k n:Nat}{F:MF}{e:Expr}{es:List Expr}{mr:MA}{p pos:Pos}
theorem Qia{x:Str}{i:Int}(h:FnD X.prog X.w X.K X.mg X.base ca x k n i F)(hr:Room k X.A)(ha:PA3 ca X (e::es) mr)(hg:Gl X x:=by rfl)(hdb:(x == ("__debug__" : Str))=false:=by decide)(he:starEach (e::es) X.env=(false,eval e X.env)::starEach es X.env:=by rfl)(hpl:(backTo pos (starEach es X.env)).any (·.1)=false:=by rfl):PE3 ca X (.Call (.Name x p) (e::es) [] pos) (Qo F (Qe0 mr (.int i))):=by
 obtain⟨f,fd,ps,t,F1,m1,k1,_,b1⟩:=h.ex
 intro pn Φ pins s σ H Q I ⟨σ3,g,μ,R,q⟩
 refine Rg (QaM I hg m1 ?_ hdb)
 have e0:Qo F (Qe0 mr (.int i)) σ3 g=(mr σ3 g).bind λxs g1=>F (xs++[.int i]) g1:=by unfold Qo Qe0;cases mr σ3 g <;> rfl
 rw[e0]at q
 have z:upA X.K ca Φ mr σ H λvs H1=>spM X.K ca n F (vs++[.int i]) H1 Q (EK Φ σ):=Jn (QcF R q) λxs H1 ⟨ds,g1,μ1,e1,R1,q1,p1⟩=>QdZ h.st R1.g (q1.append (.cons (.int i) .nil)) p1
 refine RB (h₀:=X.base) I.ok.mod.kin k1 (thn (ha pn Φ pos pins s σ H _ I z) λus s1 ⟨vs,H1,I1,r,q1⟩=>⟨I1.kIn,?_⟩) he hpl
 have r2:Vals (vs++[.int i]) (us++[.int i t]):=r.append (.cons ⟨t,rfl⟩ .nil)
 have hl:(us++[Value.int i t]).length=ps.length:=by rw[<-r2.length];exact F1.len _ _ _ _ q1
 refine wpAny_call (Wo (F1.run X.A X.stack s1 H1 ⟨us,[]⟩ (us++[.int i t]) (vs++[.int i]) Q (EK Φ σ) hr I1.env0 (b1 s1 us I1.kIn hl) r2 q1) λres s' hq=>?_)
 cases res with
 |error z=>exact QeK I1 hq
 |ok fl =>
  cases fl with
  |ret u=>exact I1.after hq
  |_=>exact False.elim hq
end
end L3
namespace L3
open PySem
noncomputable def QgE:MS:=(mRet (mAnd (mOp1 (ZV .int) (mVar 0)) (mNot (mOp1 (ZV .bool) (mVar 0)))))
noncomputable def Jc:MF:=mDef 1 0 QgE
noncomputable def QgF:MS:=(mRet (mAnd (Qo Jc (Qb (mVar 0) mNil)) (QcD pLe pLt (mLit (.int 0)) (mVar 0) (mVar 1))))
noncomputable def ZE:MF:=mDef 2 0 QgF
noncomputable def Qbb:MS:=(mRet (mAnd (Qo Jc (Qb (mVar 0) mNil)) (mOp2 pGe (mVar 0) (mLit (.int 0)))))
noncomputable def QU:MF:=mDef 1 0 Qbb
noncomputable def QgG:MS:=(mSeq (mIf (Qk (mOp2 pIs (mVar 0) (mLit .non))) (mRet (mLit (.bl true))) QG)
 (mSeq (mIf (mOrT (Jl (Qk (mOp1 (ZV .tuple) (mVar 0)))) (Qk (mOp2 pNe (mOp1 pLen (mVar 0)) (mLit (.int 3))))) (mRet (mLit (.bl false))) QG)
 (mRet (mAnd (Qo ZE (Qb (mOp2 pIx (mVar 0) (mLit (.int 0))) (Qb (mVar 2) mNil))) (mAnd (mOp2 (pIn false) (mOp2 pIx (mVar 0) (mLit (.int 1))) (mOpA pTup (Qb (mLit (.str "l")) (Qb (mLit (.str "r")) mNil)))) (Qo ZE (Qb (mOp2 pIx (mVar 0) (mLit (.int 2))) (Qb (mVar 1) mNil))))))))
noncomputable def Yn:MF:=mDef 3 0 QgG
noncomputable def Q7:MS:=(mSeq (mIf (Qk (mOp2 pNe (mOp1 pLen (mVar 3)) (mVar 2))) YO QG)
 (mIf (Jl (Qk (mOp1 pAll (JC (Zy (mVar 3)) 1 [1,2] (gSet 0) YM (Qo Yn (Qb (mVar 0) (Qb (mVar 1) (Qb (mVar 2) mNil)))))))) YO QG))
noncomputable def ZF:MS:=(mSeq (mIf (Qk (mOp2 pEq (mOp1 pLen (mVar 0)) (mLit (.int 0)))) YO QG)
 (mSeq (mAsg (gSet 1) (mOp1 pLen (mVar 0)))
 (mSeq (mAsg (gSet 2) (mOp1 pLen (mOp2 pIx (mVar 0) (mLit (.int 0)))))
 (mSeq (mIf (Qk (mOp2 pEq (mVar 2) (mLit (.int 0)))) YO QG)
 (mFor (Zy (mVar 0)) (gSet 3) Q7)))))
noncomputable def ZG:MF:=mDef 1 3 ZF
noncomputable def Qae:MS:=(mSeq (mAsg (gSet 2) (mOp1 YR (JC (Zy (mVar 1)) 1 [] (gSet 0) YM (mOp1 YR (mVar 0)))))
 (mSeq (Zw (Qo ZG (Qb (mVar 2) mNil)))
 (QP [11,13] "table" (mVar 0) (mVar 2))))
noncomputable def QJ:MF:=mDef 2 1 Qae
noncomputable def QbS:MS:=(mRet (mOp1 pLen (ZU [11,13] "table" (mVar 0))))
noncomputable def Qak:MF:=mDef 1 0 QbS
noncomputable def QcP:MS:=(mRet (mOp1 pLen (mOp2 pIx (ZU [11,13] "table" (mVar 0)) (mLit (.int 0)))))
noncomputable def QaU:MF:=mDef 1 0 QcP
noncomputable def ZO:MS:=(mSeq (mIf (Qk (mOp2 pLt (mVar 2) (mLit (.int 1)))) Qk1 QG)
 (mIf (QaN (Qk (mOp2 pGt (mOp1 pLen (mVar 0)) (mLit (.int 0)))) (Qk (mOp2 pEq (mOp2 pIx (mOp2 pIx (mVar 0) (mOp1 pNeg (mLit (.int 1)))) (mLit (.int 0))) (mVar 1)))) (YQ (mVar 0) (mOp1 pNeg (mLit (.int 1))) (mOpA pTup (Qb (mVar 1) (Qb (mOp2 pAdd (mOp2 pIx (mOp2 pIx (mVar 0) (mOp1 pNeg (mLit (.int 1)))) (mLit (.int 1))) (mVar 2)) mNil)))) (Zw (Yu (mVar 0) (mOpA pTup (Qb (mVar 1) (Qb (mVar 2) mNil)))))))
noncomputable def Jp:MF:=mDef 3 0 ZO
noncomputable def Qa5:MS:=(mSeq (mIf (mOrT (Jl (Qk (mOp1 (ZV .tuple) (mVar 0)))) (Qk (mOp2 pNe (mOp1 pLen (mVar 0)) (mLit (.int 2))))) (mRet (mLit (.bl false))) QG)
 (mRet (mAnd (Qo QU (Qb (mOp2 pIx (mVar 0) (mLit (.int 0))) mNil)) (mAnd (Qo QU (Qb (mOp2 pIx (mVar 0) (mLit (.int 1))) mNil)) (mOp2 pGt (mOp2 pIx (mVar 0) (mLit (.int 1))) (mLit (.int 0)))))))
noncomputable def Z8:MF:=mDef 1 0 Qa5
noncomputable def YA:MS:=(mIf (Qk (mOp2 pEq (mOp2 pIx (mVar 1) (mLit (.int 0))) (mOp2 pIx (mVar 2) (mLit (.int 0))))) YO QG)
noncomputable def JP:MS:=(mSeq (mIf (mOrT (Jl (Qk (mOp1 Qec (mVar 0)))) (Jl (Qk (mOp1 pAll (JC (Zy (mVar 0)) 1 [] (gSet 0) YM (Qo Z8 (Qb (mVar 0) mNil))))))) YO QG)
 (mSeq (mFor (Qa4 (mVar 0) (Qar (mVar 0) (Qco (mLit (.int 1))) JD)) (Qai [(gSet 1),(gSet 2)]) YA)
 (mIf (QaN (Qk (mOp2 pGt (mOp1 pLen (mVar 0)) (mLit (.int 0)))) (Qk (mOp2 pEq (mOp2 pIx (mOp2 pIx (mVar 0) (mOp1 pNeg (mLit (.int 1)))) (mLit (.int 0))) (mLit (.int 0))))) YO QG)))
noncomputable def YW:MF:=mDef 1 2 JP
noncomputable def Jd:MS:=(mSeq (mIf (mOrT (Jl (Qk (mOp1 (ZV .tuple) (mVar 0)))) (Qk (mOp2 pNe (mOp1 pLen (mVar 0)) (mLit (.int 3))))) YO QG)
 (mSeq (mIf (Jl (Qk (Qo QU (Qb (mOp2 pIx (mVar 0) (mLit (.int 0))) mNil)))) YO QG)
 (mSeq (Zw (Qo YW (Qb (mOp2 pIx (mVar 0) (mLit (.int 1))) mNil)))
 (Zw (Qo YW (Qb (mOp2 pIx (mVar 0) (mLit (.int 2))) mNil))))))
noncomputable def Zq:MF:=mDef 1 0 Jd
noncomputable def Yl:MS:=(mSeq (mIf (Qk (mOp2 pNe (mVar 5) (mLit (.int 0)))) (Zw (QeY (mVar 3) (JC (Qx (mVar 6)) 1 [5,4,2] (gSet 0) YM (mOpA pTup (Qb (mOp2 pAdd (mVar 2) (mOp2 pMul (mVar 3) (mVar 0))) (Qb (mVar 1) mNil)))))) QG)
 (mAsg (gSet 4) (mOp2 pAdd (mVar 4) (mOp2 pMul (mVar 2) (mVar 6)))))
noncomputable def QaV:MS:=(mSeq (mAsg (gSet 3) (mOpA newL mNil))
 (mSeq (mAsg (gSet 4) (mVar 1))
 (mSeq (mFor (Zy (mVar 0)) (Qai [(gSet 5),(gSet 6)]) Yl)
 (mRet (mVar 3)))))
noncomputable def J0:MF:=mDef 3 4 QaV
noncomputable def QbT:MS:=(mSeq (Zw (Qo Zq (Qb (mVar 0) mNil)))
 (mSeq (mAsg (gSet 2) (Qo J0 (Qb (mOp2 pIx (mVar 0) (mLit (.int 1))) (Qb (mOp2 pSub (mVar 1) (mLit (.int 1))) (Qb (mOp1 pNeg (mLit (.int 1))) mNil)))))
 (mSeq (mAsg (gSet 3) (Qo J0 (Qb (mOp2 pIx (mVar 0) (mLit (.int 2))) (Qb (mVar 1) (Qb (mLit (.int 1)) mNil)))))
 (mRet (mOpA pTup (Qb (mOp2 pIx (mVar 0) (mLit (.int 0))) (Qb (mVar 1) (Qb (mOp2 pAdd (mOp1 JN (mVar 2)) (mOp1 YR (mVar 3))) mNil))))))))
noncomputable def QbU:MF:=mDef 2 2 QbT
noncomputable def QjA:MS:=(mIf (mOrT (Qk (mOp2 pGt (mOp1 pLen (mVar 0)) (mLit (.int 0)))) (Qk (mOp2 pNe (mVar 1) (mLit (.int 0))))) (Zw (Qo Jp (Qb (mVar 0) (Qb (mVar 1) (Qb (mVar 2) mNil))))) QG)
noncomputable def QgH:MF:=mDef 3 0 QjA
noncomputable def Qib:MS:=(mIf (Qk (mOp2 pGt (mOp1 pLen (mVar 0)) (mLit (.int 0)))) (mSeq (mAsg (gSet 2) (mOp1 pPop (mVar 0)))
 (Zw (Qo QgH (Qb (mVar 0) (Qb (mOp2 pIx (mVar 2) (mLit (.int 0))) (Qb (mOp2 pSub (mOp2 pIx (mVar 2) (mLit (.int 1))) (mVar 1)) mNil)))))) QG)
noncomputable def QbV:MF:=mDef 2 1 Qib
noncomputable def Y6:MS:=(mRet (mIfE (Qk (mOp2 pGt (mOp1 pLen (mVar 0)) (mLit (.int 0)))) (mOp2 pIx (mOp2 pIx (mVar 0) (mOp1 pNeg (mLit (.int 1)))) (mLit (.int 0))) (mLit (.int 0))))
noncomputable def Q2:MF:=mDef 1 0 Y6
noncomputable def Qdm:MS:=(mSeq (mIf (Qk (mOp2 pNe (Qo Q2 (Qb (mVar 0) mNil)) (mVar 1))) (mRet (mLit (.int 0))) QG)
 (mRet (mIfE (Qk (mOp2 pGt (mOp1 pLen (mVar 0)) (mLit (.int 0)))) (mOp2 Qjw (mOp2 pIx (mOp2 pIx (mVar 0) (mOp1 pNeg (mLit (.int 1)))) (mLit (.int 1))) (mVar 2)) (mVar 2))))
noncomputable def QbW:MF:=mDef 3 0 Qdm
noncomputable def YB:MS:=(mSeq (QP [11,13] "table" (mVar 0) (ZU [11,13] "table" (mVar 1)))
 (mSeq (QP [13] "state" (mVar 0) (mOp2 pIx (mVar 2) (mLit (.int 0))))
 (mSeq (QP [13] "left" (mVar 0) (mOp1 ZC (mOp2 pIx (mVar 2) (mLit (.int 1)))))
 (mSeq (QP [13] "right" (mVar 0) (mOp1 ZC (mOp2 pIx (mVar 2) (mLit (.int 2)))))
 (mSeq (QP [13] "own" (mVar 0) (Qo Q2 (Qb (ZU [13] "right" (mVar 0)) mNil)))
 (mSeq (Zw (Qo QbV (Qb (ZU [13] "right" (mVar 0)) (Qb (mLit (.int 1)) mNil))))
 (QP [13] "moved" (mVar 0) (mLit (.int 0)))))))))
noncomputable def ZP:MF:=mDef 3 0 YB
noncomputable def Jz:MS:=(mRet (mOp2 pIx (mOp2 pIx (ZU [11,13] "table" (mVar 0)) (ZU [13] "state" (mVar 0))) (ZU [13] "own" (mVar 0))))
noncomputable def Zd:MF:=mDef 1 0 Jz
noncomputable def Zj:MS:=(mSeq (mAsg (gSet 2) (Qcn 13 (Str.ofString "entry") Zd (mVar 0) mNil))
 (mSeq (mAsg (gSet 3) (mOp2 pEq (mOp2 pIx (mVar 2) (mLit (.int 1))) (mLit (.str "r"))))
 (mSeq (mAsg (gSet 4) (mIfE (Qk (mVar 3)) (ZU [13] "right" (mVar 0)) (ZU [13] "left" (mVar 0))))
 (mSeq (mAsg (gSet 5) (mIfE (Qk (mVar 3)) (ZU [13] "left" (mVar 0)) (ZU [13] "right" (mVar 0))))
 (mSeq (mAsg (gSet 6) (mIfE (Qk (mOp2 pEq (mOp2 pIx (mVar 2) (mLit (.int 2))) (ZU [13] "state" (mVar 0)))) (mOp2 pAdd (mLit (.int 1)) (Qo QbW (Qb (mVar 4) (Qb (ZU [13] "own" (mVar 0)) (Qb (mOp2 pSub (mVar 1) (mLit (.int 1))) mNil))))) (mLit (.int 1))))
 (mSeq (Zw (Qo QgH (Qb (mVar 5) (Qb (mOp2 pIx (mVar 2) (mLit (.int 0))) (Qb (mVar 6) mNil)))))
 (mSeq (Zw (Qo QbV (Qb (mVar 4) (Qb (mOp2 pSub (mVar 6) (mLit (.int 1))) mNil))))
 (mSeq (QP [13] "own" (mVar 0) (Qo Q2 (Qb (mVar 4) mNil)))
 (mSeq (Zw (Qo QbV (Qb (mVar 4) (Qb (mLit (.int 1)) mNil))))
 (mSeq (QP [13] "state" (mVar 0) (mOp2 pIx (mVar 2) (mLit (.int 2))))
 (mSeq (QP [13] "moved" (mVar 0) (mIfE (Qk (mVar 3)) (mOp2 pAdd (ZU [13] "moved" (mVar 0)) (mVar 6)) (mOp2 pSub (ZU [13] "moved" (mVar 0)) (mVar 6))))
 (mRet (mVar 6)))))))))))))
noncomputable def YC:MF:=mDef 2 5 Zj
noncomputable def Y7:MS:=(mSeq (mAsg (gSet 1) (mOp1 Qhk (ZU [13] "right" (mVar 0))))
 (mSeq (Zw (Qo QgH (Qb (mVar 1) (Qb (ZU [13] "own" (mVar 0)) (Qb (mLit (.int 1)) mNil)))))
 (mRet (mOpA pTup (Qb (ZU [13] "state" (mVar 0)) (Qb (mOp1 ZC (ZU [13] "left" (mVar 0))) (Qb (mOp1 ZC (mVar 1)) mNil)))))))
noncomputable def Z5:MF:=mDef 1 1 Y7
noncomputable def Zl:MS:=(mIf (Qk (mOp1 pAny (JC (Zy (mVar 3)) 2 [2] (Qai [(gSet 0),(gSet 1)]) YM (mOp2 pGe (mVar 0) (mVar 2))))) YO QG)
noncomputable def YX:MS:=(mSeq (Zw (Qo Zq (Qb (mVar 1) mNil)))
 (mSeq (mIf (Qk (mOp2 pGe (mOp2 pIx (mVar 1) (mLit (.int 0))) (Qo Qak (Qb (mVar 0) mNil)))) YO QG)
 (mSeq (mAsg (gSet 2) (Qo QaU (Qb (mVar 0) mNil)))
 (mFor (Zy (Qar (mVar 1) (Qco (mLit (.int 1))) JD)) (gSet 3) Zl))))
noncomputable def ZQ:MF:=mDef 2 2 YX
noncomputable def QK:MS:=(mSeq (mIf (Qk (mOp2 pGe (mVar 6) (mVar 3))) (Qfs 6 (Qb (mLit (.str "the run has more leaps than it may have")) mNil)) QG)
 (mSeq (mAsg (gSet 5) (mOp2 pAdd (mVar 5) (Qcn 13 (Str.ofString "leap") YC (mVar 4) (Qb (mOp2 pSub (mVar 2) (mVar 5)) mNil))))
 (mAsg (gSet 6) (mOp2 pAdd (mVar 6) (mLit (.int 1))))))
noncomputable def Qal:MS:=(mSeq (Zw (Qo ZQ (Qb (mVar 0) (Qb (mVar 1) mNil))))
 (mSeq (mAsg (gSet 4) (QbB 13 ZP (Qb (mVar 0) (Qb (mVar 1) mNil))))
 (mSeq (mAsg (gSet 5) (mLit (.int 0)))
 (mSeq (mAsg (gSet 6) (mLit (.int 0)))
 (mSeq (QbA (QaN (Qk (mOp2 pLt (mVar 5) (mVar 2))) (Qk (mOp2 Qaq (Qcn 13 (Str.ofString "entry") Zd (mVar 4) mNil) (mLit .non)))) QK)
 (mRet (mOpA pTup (Qb (Qcn 13 (Str.ofString "row") Z5 (mVar 4) mNil) (Qb (ZU [13] "moved" (mVar 4)) (Qb (mVar 5) (Qb (mVar 6) mNil)))))))))))
noncomputable def Jq:MF:=mDef 4 3 Qal
noncomputable def Z9:MS:=(mSeq (mAsg (gSet 3) (Qo Jq (Qb (mVar 0) (Qb (mOpA pTup (Qb (mLit (.int 0)) (Qb (mOpA newL mNil) (Qb (mOpA newL mNil) mNil)))) (Qb (mVar 1) (Qb (mVar 2) mNil))))))
 (mRet (mOpA pTup (Qb (Qo QbU (Qb (mOp2 pIx (mVar 3) (mLit (.int 0))) (Qb (mOp2 pIx (mVar 3) (mLit (.int 1))) mNil))) (Qb (mOp2 pIx (mVar 3) (mLit (.int 2))) mNil)))))
noncomputable def ZH:MF:=mDef 3 1 Z9
noncomputable def Qdn:MS:=(mSeq (YQ (mVar 1) (mLit (.int 0)) (mOp2 pAdd (mOp2 pIx (mVar 1) (mLit (.int 0))) (mLit (.int 1))))
 (mSeq (mAsg (gSet 2) (mIfE (Qk (mOp2 pGt (mOp1 pLen (mVar 0)) (mLit (.int 0)))) (mOp2 pIx (mVar 0) (mOp2 pMod (mOp2 pIx (mVar 1) (mLit (.int 0))) (mOp1 pLen (mVar 0)))) (mLit (.int 0))))
 (mSeq (mAsg (gSet 3) (mOp2 pMod (mOp2 pMul (mOp2 pAdd (mOp2 pAdd (mOp2 pMod (mVar 2) (mLit (.int 2147483647))) (mOp2 pMul (mOp2 pMul (mOp2 pIx (mVar 1) (mLit (.int 0))) (mOp2 pIx (mVar 1) (mLit (.int 0)))) (mLit (.int 7919)))) (mLit (.int 11))) (mLit (.int 48271))) (mLit (.int 2147483647))))
 (mRet (mOp2 pMod (mOp2 pMul (mVar 3) (mVar 3)) (mLit (.int 1999999973)))))))
noncomputable def ZR:MF:=mDef 2 2 Qdn
noncomputable def Qaz(me:MF):MS:=(mSeq (mIf (mOrT (Qk (mOp1 (ZV .list) (mVar 1))) (Qk (mOp1 (ZV .tuple) (mVar 1)))) (mSeq (mIf (mOrT (Qk (mOp2 pNe (mOp1 (ZV .list) (mVar 0)) (mOp1 (ZV .list) (mVar 1)))) (Qk (mOp2 pNe (mOp1 (ZV .tuple) (mVar 0)) (mOp1 (ZV .tuple) (mVar 1))))) (mRet (mLit (.bl false))) QG)
 (mRet (mAnd (mOp2 pEq (mOp1 pLen (mVar 0)) (mOp1 pLen (mVar 1))) (mOp1 pAll (JC (Qa4 (mVar 0) (mVar 1)) 2 [] (Qai [(gSet 0),(gSet 1)]) YM (Qo me (Qb (mVar 0) (Qb (mVar 1) mNil)))))))) QG)
 (mSeq (mIf (Qk (mOp2 pIs (mVar 1) (mLit .non))) (mRet (mOp2 pIs (mVar 0) (mLit .non))) QG)
 (mSeq (mIf (Qk (mOp1 (ZV .str) (mVar 1))) (mRet (mAnd (mOp1 (ZV .str) (mVar 0)) (mOp2 pEq (mVar 0) (mVar 1)))) QG)
 (mRet (mAnd (mOp1 (ZV .int) (mVar 0)) (mAnd (mNot (mOp1 (ZV .bool) (mVar 0))) (mOp2 pEq (mVar 0) (mVar 1))))))))
noncomputable def ZD:Nat->MF
 |0=>λ_ _=>.stuck
 |k+1=>mDef 2 0 (Qaz (ZD k))
noncomputable def Zm:MS:=(mSeq (mAsg (gSet 8) (Qo ZR (Qb (mVar 0) (Qb (mVar 1) mNil))))
 (mSeq (mAsg (gSet 9) (mOpA pTup (Qb (mOp2 pMod (mOp2 Z6 (mVar 8) (mLit (.int 9))) (mVar 3)) (Qb (mOp2 pIx (mLit (.str "lr")) (mOp2 pMod (mOp2 Z6 (mVar 8) (mLit (.int 100))) (mLit (.int 2)))) (Qb (mOp2 pMod (mOp2 Z6 (mVar 8) (mLit (.int 300))) (mVar 2)) mNil)))))
 (mSeq (mIf (Qk (mOp2 pEq (mOp2 pMod (mVar 8) (mLit (.int 9))) (mLit (.int 0)))) (mAsg (gSet 9) (mLit .non)) QG)
 (Zw (Yu (mVar 6) (mVar 9))))))
noncomputable def YY:MS:=(mSeq (mAsg (gSet 6) (mOpA newL mNil))
 (mSeq (mFor (Qx (mVar 3)) (gSet 7) Zm)
 (Zw (Yu (mVar 4) (mVar 6)))))
noncomputable def QbX:MS:=(mSeq (mAsg (gSet 4) (mOpA newL mNil))
 (mSeq (mFor (Qx (mVar 2)) (gSet 5) YY)
 (mRet (mVar 4))))
noncomputable def QbY:MF:=mDef 4 6 QbX
noncomputable def Qbo:MS:=(mSeq (mAsg (Qai [(gSet 2),(gSet 3),(gSet 4)]) (mVar 1))
 (mSeq (mAsg (gSet 5) (mOp2 pIx (mOp2 pIx (mVar 0) (mVar 2)) (Qea (mVar 4) (mVar 3) (mLit (.int 0)))))
 (mSeq (mIf (Qk (mOp2 pIs (mVar 5) (mLit .non))) (mRet (mLit .non)) QG)
 (mSeq (mAsg (gSet 6) (mOp1 Qh4 (mVar 4)))
 (mSeq (Qdl (mVar 6) (mVar 3) (mOp2 pIx (mVar 5) (mLit (.int 0))))
 (mSeq (mIf (Qk (mOp2 pEq (mOp2 pIx (mVar 5) (mLit (.int 0))) (mLit (.int 0)))) (Zw (QgA (mVar 6) (mVar 3))) QG)
 (mSeq (mIf (Qk (mOp2 pEq (mOp2 pIx (mVar 5) (mLit (.int 1))) (mLit (.str "r")))) (mRet (mOpA pTup (Qb (mOp2 pIx (mVar 5) (mLit (.int 2))) (Qb (mOp2 pAdd (mVar 3) (mLit (.int 1))) (Qb (mVar 6) mNil))))) QG)
 (mRet (mOpA pTup (Qb (mOp2 pIx (mVar 5) (mLit (.int 2))) (Qb (mOp2 pSub (mVar 3) (mLit (.int 1))) (Qb (mVar 6) mNil))))))))))))
noncomputable def Qbp:MF:=mDef 2 5 Qbo
noncomputable def Qdo:MS:=(mSeq (mAsg (Qai [(gSet 1),(gSet 2),(gSet 3)]) (mVar 0))
 (mRet (mOpA pTup (Qb (mVar 1) (Qb (mVar 2) (Qb (mOp1 YR (JC (Zy (mOp1 Qaj (mOp1 QeZ (mVar 3)))) 1 [3] (gSet 0) YM (mOpA pTup (Qb (mVar 0) (Qb (mOp2 pDIx (mVar 1) (mVar 0)) mNil))))) mNil))))))
noncomputable def Qdp:MF:=mDef 1 3 Qdo
noncomputable def ZW:MS:=(mSeq (mAsg (gSet 1) (Qo Qbp (Qb (mVar 0) (Qb (mVar 1) mNil))))
 (mSeq (mIf (Qk (mOp2 pIs (mVar 1) (mLit .non))) (mRet (mVar 3)) QG)
 (Zw (Yu (mVar 3) (mVar 1)))))
noncomputable def Qe1:MS:=(mSeq (mAsg (gSet 3) (mOpA newL (Qb (mVar 1) mNil)))
 (mSeq (QbA (Qk (mOp2 pLe (mOp1 pLen (mVar 3)) (mVar 2))) ZW)
 (mRet (mVar 3))))
noncomputable def Qe2:MF:=mDef 3 1 Qe1
noncomputable def ZX:MS:=(mSeq (mAsg (gSet 2) (Qo ZR (Qb (mVar 0) (Qb (mVar 1) mNil))))
 (mSeq (mIf (QaN (Qk (mOp2 pEq (mOp2 pMod (mVar 2) (mLit (.int 3))) (mLit (.int 0)))) (Qk (mOp2 Qaq (mOp2 pIx (mOp2 pIx (mVar 5) (mVar 6)) (mVar 7)) (mLit .non)))) (YQ (mOp2 pIx (mVar 5) (mVar 6)) (mVar 7) (mOpA pTup (Qb (mOp2 pIx (mOp2 pIx (mOp2 pIx (mVar 5) (mVar 6)) (mVar 7)) (mLit (.int 0))) (Qb (mOp2 pIx (mOp2 pIx (mOp2 pIx (mVar 5) (mVar 6)) (mVar 7)) (mLit (.int 1))) (Qb (mVar 6) mNil))))) QG)
 (mIf (QaN (Qk (mOp2 pGt (mOp2 pMod (mOp2 Z6 (mVar 2) (mLit (.int 3))) (mLit (.int 7))) (mLit (.int 1)))) (Qk (mOp2 pIs (mOp2 pIx (mOp2 pIx (mVar 5) (mVar 6)) (mVar 7)) (mLit .non)))) (YQ (mOp2 pIx (mVar 5) (mVar 6)) (mVar 7) (mOpA pTup (Qb (mOp2 pMod (mOp2 Z6 (mVar 2) (mLit (.int 30))) (mVar 4)) (Qb (mOp2 pIx (mLit (.str "lr")) (mOp2 pMod (mOp2 Z6 (mVar 2) (mLit (.int 300))) (mLit (.int 2)))) (Qb (mOp2 pMod (mOp2 Z6 (mVar 2) (mLit (.int 600))) (mVar 3)) mNil))))) QG)))
noncomputable def Zr:MS:=(mFor (Qx (mVar 4)) (gSet 7) ZX)
noncomputable def Y8:MS:=(mSeq (mAsg (gSet 2) (Qo ZR (Qb (mVar 0) (Qb (mVar 1) mNil))))
 (mSeq (mAsg (gSet 3) (mOp2 pIx (mOpA newL (Qb (mLit (.int 1)) (Qb (mLit (.int 2)) (Qb (mLit (.int 2)) (Qb (mLit (.int 3)) (Qb (mLit (.int 3)) (Qb (mLit (.int 4)) mNil))))))) (mOp2 pMod (mVar 2) (mLit (.int 6)))))
 (mSeq (mAsg (gSet 4) (mOp2 pIx (mOpA newL (Qb (mLit (.int 2)) (Qb (mLit (.int 2)) (Qb (mLit (.int 3)) (Qb (mLit (.int 2)) (Qb (mLit (.int 4)) (Qb (mLit (.int 1)) mNil))))))) (mOp2 pMod (mOp2 Z6 (mVar 2) (mLit (.int 6))) (mLit (.int 6)))))
 (mSeq (mIf (Qk (mOp2 pEq (mOp2 pMod (mOp2 Z6 (mVar 2) (mLit (.int 36))) (mLit (.int 13))) (mLit (.int 0)))) (mAsg (Qai [(gSet 3),(gSet 4)]) (mOpA pTup (Qb (mLit (.int 5)) (Qb (mLit (.int 8)) mNil)))) QG)
 (mSeq (mAsg (gSet 5) (Qo QbY (Qb (mVar 0) (Qb (mVar 1) (Qb (mVar 3) (Qb (mVar 4) mNil))))))
 (mSeq (mFor (Qx (mVar 3)) (gSet 6) Zr)
 (mRet (mVar 5))))))))
noncomputable def Y9:MF:=mDef 2 6 Y8
noncomputable def QaW:MS:=(mAsg (gSet 4) (mOp2 pMul (mVar 4) (mLit (.int 10))))
noncomputable def Qe3:MS:=(mSeq (mAsg (gSet 2) (Qo ZR (Qb (mVar 0) (Qb (mVar 1) mNil))))
 (mSeq (mAsg (gSet 3) (mIfE (Qk (mOp2 pGt (mOp1 pLen (mVar 0)) (mLit (.int 0)))) (mOp2 pIx (mVar 0) (mOp2 pMod (mOp2 pIx (mVar 1) (mLit (.int 0))) (mOp1 pLen (mVar 0)))) (mLit (.int 0))))
 (mSeq (mAsg (gSet 4) (mLit (.int 10)))
 (mSeq (mFor (Qx (mOp2 pMod (mOp2 Z6 (mVar 2) (mLit (.int 7))) (mLit (.int 50)))) (gSet 5) QaW)
 (mRet (mOp2 pAdd (mLit (.int 1)) (mOp2 pMod (mOp2 pAdd (mOp2 pMod (mVar 3) (mOp2 pPow (mLit (.int 10)) (mLit (.int 50)))) (mOp2 pMul (mVar 2) (mOp2 pPow (mLit (.int 10)) (mLit (.int 40))))) (mVar 4))))))))
noncomputable def Qe4:MF:=mDef 2 4 Qe3
noncomputable def Qic:MS:=(mSeq (mAsg (gSet 3) (mLit .non))
 (mSeq (mTry (mAsg (gSet 3) (Qo ZH (Qb (mVar 0) (Qb (mVar 1) (Qb (mVar 2) mNil))))) [⟨[6],[0,1,5],none,(mAsg (gSet 3) (mLit (.str "too long")))⟩])
 (mRet (mVar 3))))
noncomputable def Ya:MF:=mDef 3 1 Qic
noncomputable def Qdq:MS:=(mRet (mOpA pTup (Qb (mOp2 pIx (mVar 0) (mLit (.int 0))) (Qb (Qea (mOp2 pIx (mVar 0) (mLit (.int 2))) (mOp2 pIx (mVar 0) (mLit (.int 1))) (mLit (.int 0))) mNil))))
noncomputable def Jr:MF:=mDef 1 0 Qdq
noncomputable def Yh:MS:=(mIf (mOrT (Qk (mOp2 pEq (mVar 2) (mLit (.int 0)))) (Qk (mOp2 pNe (Qo Jr (Qb (mOp2 pIx (mVar 0) (mVar 2)) mNil)) (Qo Jr (Qb (mOp2 pIx (mVar 0) (mOp2 pSub (mVar 2) (mLit (.int 1)))) mNil))))) (mAsg (gSet 1) (mOp2 pAdd (mVar 1) (mLit (.int 1)))) QG)
noncomputable def Js:MS:=(mSeq (mAsg (gSet 1) (mLit (.int 0)))
 (mSeq (mFor (Qx (mOp2 pSub (mOp1 pLen (mVar 0)) (mLit (.int 1)))) (gSet 2) Yh)
 (mRet (mVar 1))))
noncomputable def Jt:MF:=mDef 1 2 Js
noncomputable def Qbq:MS:=(mSeq (mAsg (gSet 6) (mOp2 pSub (mOp2 pMod (Qo ZR (Qb (mVar 0) (Qb (mVar 1) mNil))) (mLit (.int 201))) (mVar 5)))
 (mSeq (mAsg (gSet 7) (Qar (mVar 4) JD (Qco (mOp2 pAdd (mLit (.int 1)) (mOp2 Qh6 (mLit (.int 0)) (mVar 6))))))
 (mSeq (mAsg (gSet 8) (Qo Jt (Qb (mVar 7) mNil)))
 (mSeq (mAsg (gSet 9) (mOpA pTup (Qb (Qo Qdp (Qb (mOp2 pIx (mVar 7) (mOp2 pSub (mOp1 pLen (mVar 7)) (mLit (.int 1)))) mNil)) (Qb (mOp2 pSub (mOp1 pLen (mVar 7)) (mLit (.int 1))) mNil))))
 (mSeq (mIf (mOrT (Jl (Qk (Qo (ZD 6) (Qb (Qo ZH (Qe0 (Qb (mVar 3) (Qb (mVar 6) mNil)) (.int 5000))) (Qb (mVar 9) mNil))))) (Jl (Qk (Qo (ZD 6) (Qb (Qo Ya (Qb (mVar 3) (Qb (mVar 6) (Qb (mVar 8) mNil)))) (Qb (mVar 9) mNil)))))) (mRet (mLit (.bl false))) QG)
 (mIf (QaN (Qk (mOp2 pGt (mVar 8) (mLit (.int 0)))) (Qk (mOp2 pNe (Qo Ya (Qb (mVar 3) (Qb (mVar 6) (Qb (mOp2 pSub (mVar 8) (mLit (.int 1))) mNil)))) (mLit (.str "too long"))))) (mRet (mLit (.bl false))) QG))))))
noncomputable def Qlw:MS:=(mSeq (mAsg (gSet 1) (mOpA newL (Qb (mLit (.int 0)) mNil)))
 (mSeq (mAsg (gSet 2) (Qo Y9 (Qb (mVar 0) (Qb (mVar 1) mNil))))
 (mSeq (mAsg (gSet 3) (QbB 11 QJ (Qb (mVar 2) mNil)))
 (mSeq (mAsg (gSet 4) (Qo Qe2 (Qb (mVar 2) (Qb (mOpA pTup (Qb (mLit (.int 0)) (Qb (mLit (.int 0)) (Qb Qjt mNil)))) (Qb (mLit (.int 200)) mNil)))))
 (mSeq (mFor (Qx (mLit (.int 4))) (gSet 5) Qbq)
 (mSeq (mAsg (gSet 10) (mOp2 pAdd (mLit (.int 300)) (mOp2 pMod (Qo ZR (Qb (mVar 0) (Qb (mVar 1) mNil))) (mLit (.int 700)))))
 (mSeq (mAsg (gSet 11) (QbB 11 QJ (Qb (mOpA newL (Qb (mOpA newL (Qb (mOpA pTup (Qb (mLit (.int 0)) (Qb (mLit (.str "r")) (Qb (mLit (.int 1)) mNil)))) mNil)) (Qb (mOpA newL (Qb (mOpA pTup (Qb (mLit (.int 0)) (Qb (mLit (.str "l")) (Qb (mLit (.int 0)) mNil)))) mNil)) mNil))) mNil)))
 (mSeq (mIf (Jl (Qk (Qo (ZD 6) (Qb (Qo ZH (Qe0 (Qb (mVar 11) (Qb (mVar 10) mNil)) (.int 5000))) (Qb (mOpA pTup (Qb (mOpA pTup (Qb (mOp2 pMod (mVar 10) (mLit (.int 2))) (Qb (mOp2 pMod (mVar 10) (mLit (.int 2))) (Qb (mOpA pTup mNil) mNil)))) (Qb (mVar 10) mNil))) mNil))))) (mRet (mLit (.bl false))) QG)
 (mSeq (mIf (Qk (mOp2 pNe (Qo Ya (Qb (mVar 11) (Qb (mVar 10) (Qb (mOp2 pSub (mVar 10) (mLit (.int 1))) mNil)))) (mLit (.str "too long")))) (mRet (mLit (.bl false))) QG)
 (mSeq (mAsg (gSet 12) (Qo Qe4 (Qb (mVar 0) (Qb (mVar 1) mNil))))
 (mSeq (mAsg (gSet 13) (mOp2 pMod (Qo ZR (Qb (mVar 0) (Qb (mVar 1) mNil))) (mLit (.int 2))))
 (mSeq (YQ (mOp2 pIx (mVar 2) (mLit (.int 0))) (mLit (.int 0)) (mOpA pTup (Qb (mLit (.int 0)) (Qb (mOp2 pIx (mLit (.str "lr")) (mVar 13)) (Qb (mLit (.int 0)) mNil)))))
 (mRet (Qo (ZD 6) (Qb (Qo Ya (Qb (QbB 11 QJ (Qb (mVar 2) mNil)) (Qb (mVar 12) (Qb (mLit (.int 1)) mNil)))) (Qb (mOpA pTup (Qb (mOpA pTup (Qb (mLit (.int 0)) (Qb (mOp2 pIx (mOpA newL (Qb (mOp1 pNeg (mVar 12)) (Qb (mVar 12) mNil))) (mVar 13)) (Qb (mOpA pTup mNil) mNil)))) (Qb (mVar 12) mNil))) mNil))))))))))))))))
noncomputable def QjB:MF:=mDef 1 13 Qlw
structure Keeps(S:List Nat)(g g':G):Prop where
 len:g.length<=g'.length
 at':∀n o,n∉S->g[n]?=some o->g'[n]?=some o
theorem Keeps.refl{S:List Nat}{g:G}:Keeps S g g:=⟨Uc _,λ_ _ _ h=>h⟩
theorem Keeps.trans{S:List Nat}{g g1 g2:G}(a:Keeps S g g1)(b:Keeps S g1 g2):Keeps S g g2:=⟨Ut a.len b.len,λn o h e=>b.at' n o h (a.at' n o h e)⟩
theorem Keeps.mono{S T:List Nat}{g g1:G}(a:Keeps S g g1)(h:∀n∈S,n∈T):Keeps T g g1:=⟨a.len,λn o q e=>a.at' n o (λz=>q (h n z)) e⟩
theorem Keeps.all{S:List Nat}{g g1:G}(a:Keeps [] g g1):Keeps S g g1:=a.mono (by simp)
theorem Keeps.push{S:List Nat}{g:G}(o:GO):Keeps S g (g++[o]):=⟨by simp,λn u _ e=>by
 have hl:n<g.length:=(Up.mp e).1
 rw[Uy hl];exact e⟩
theorem Keeps.set{g:G}(n:Nat)(o:GO):Keeps [n] g (g.set n o):=⟨by simp,λm u h e=>by
 rw[Uh (λz=>h (by simp[z]))];exact e⟩
structure KeepsN(k:Nat)(S:List Nat)(g g':G):Prop where
 len:g.length<=g'.length
 at':∀n o,n<k->n∉S->g[n]?=some o->g'[n]?=some o
theorem KeepsN.refl{k:Nat}{S:List Nat}{g:G}:KeepsN k S g g:=⟨Uc _,λ_ _ _ _ h=>h⟩
theorem KeepsN.trans{k:Nat}{S:List Nat}{g g1 g2:G}(a:KeepsN k S g g1)(b:KeepsN k S g1 g2):KeepsN k S g g2:=⟨Ut a.len b.len,λn o l h e=>b.at' n o l h (a.at' n o l h e)⟩
theorem Keeps.n{k:Nat}{S T:List Nat}{g g1:G}(a:Keeps S g g1)(h:∀n∈S,n<k->n∈T):KeepsN k T g g1:=⟨a.len,λn o l q e=>a.at' n o (λz=>q (h n z l)) e⟩
theorem KeepsN.mono{j k:Nat}{S T:List Nat}{g g1:G}(a:KeepsN k S g g1)(hj:j<=k)(h:∀n∈S,n<j->n∈T):KeepsN j T g g1:=⟨a.len,λn o l q e=>a.at' n o (by omega) (λz=>q (h n z l)) e⟩
theorem KeepsN.keeps{S:List Nat}{g g1:G}(a:KeepsN g.length S g g1):Keeps S g g1:=⟨a.len,λn o q e=>a.at' n o (Up.mp e).1 q e⟩
theorem QQ{g:G}(o:GO):(g++[o])[g.length]?=some o:=by simp
theorem Yb{g:G}{n:Nat}{o:GO}(h:g[n]?=some o):n<g.length:=(Up.mp h).1
theorem QH{g:G}{n:Nat}{o u:GO}(h:g[n]?=some o):(g.set n u)[n]?=some u:=by rw[Td (Yb h)]
noncomputable def QjC:Out->Prop
 |.rt _ _=>True
 |.raise _ _ _=>True
 |.stuck=>True
 |_=>False
theorem QaA{src:Src}{t:MG}{body:MS}{n:Nat}(I:Nat->S3->G->Prop)(R:Out->Prop)(step:∀i σ g,i<n->I i σ g->∃d σ1,src.at' g i=some (some d)/\t d σ=some σ1/\((∃σ2 g2,(body σ1 g=.nx σ2 g2\/body σ1 g=.ct σ2 g2)/\I (i+1) σ2 g2)\/(QjC (body σ1 g)/\R (body σ1 g))))(stop:∀σ g,I n σ g->src.at' g n=some none):∀(f i:Nat)(σ:S3)(g:G),n-i<f->i<=n->I i σ g->(∃σ' g',forL src t body f i σ g=.nx σ' g'/\I n σ' g')\/(QjC (forL src t body f i σ g)/\R (forL src t body f i σ g))
 |0,_,_,_,h,_,_=>by omega
 |f+1,i,σ,g,hf,hi,h=>by
  unfold forL
  by_cases e:i=n
  ·subst e
   rw[stop σ g h]
   exact .inl ⟨σ,g,rfl,h⟩
  ·obtain⟨d,σ1,h1,h2,h3⟩:=step i σ g (by omega) h
   rw[h1]
   dsimp only
   rw[h2]
   dsimp only
   rcases h3 with⟨σ2,g2,h3|h3,h4⟩|⟨h3,h4⟩
   ·rw[h3];exact QaA I R step stop f (i+1) σ2 g2 (by omega) (by omega) h4
   ·rw[h3];exact QaA I R step stop f (i+1) σ2 g2 (by omega) (by omega) h4
   ·cases hb:body σ1 g with
    |rt d g'=>rw[hb]at h4;exact .inr ⟨trivial,h4⟩
    |raise x σ' g'=>rw[hb]at h4;exact .inr ⟨trivial,h4⟩
    |nx _ _=>rw[hb]at h3;exact h3.elim
    |bk _ _=>rw[hb]at h3;exact h3.elim
    |ct _ _=>rw[hb]at h3;exact h3.elim
    |stuck=>rw[hb]at h4;exact .inr ⟨trivial,h4⟩
theorem YD{t:MG}{body:MS}{lo:Int}{n:Nat}{σ:S3}{g:G}(I:Nat->S3->G->Prop)(h0:I 0 σ g)(step:∀i σ g,i<n->I i σ g->∃σ1 σ2 g2,t (.int (lo+i)) σ=some σ1/\body σ1 g=.nx σ2 g2/\I (i+1) σ2 g2):∃σ' g',forL (QX lo n) t body (n+1) 0 σ g=.nx σ' g'/\I n σ' g':=by
 have:=QaA (src:=QX lo n) (t:=t) (body:=body) (n:=n) I (λ_=>False) (λi σ g hi h=>by
  obtain⟨σ1,σ2,g2,a,b,c⟩:=step i σ g hi h
  exact⟨.int (lo+i),σ1,by simp[QX,hi],a,.inl ⟨σ2,g2,.inl b,c⟩⟩) (λσ g _=>by simp[QX]) (n+1) 0 σ g (by omega) (by omega) h0
 rcases this with h|h
 ·exact h
 ·exact h.2.elim
theorem Qed{t:MG}{body:MS}{ds:List D}{σ:S3}{g:G}(I:Nat->S3->G->Prop)(R:Out->Prop)(h0:I 0 σ g)(step:∀i d σ g,ds[i]?=some d->I i σ g->∃σ1,t d σ=some σ1/\((∃σ2 g2,body σ1 g=.nx σ2 g2/\I (i+1) σ2 g2)\/(QjC (body σ1 g)/\R (body σ1 g)))):
  (∃σ' g',forL ⟨λ_ i=>some ds[i]?,ds.length⟩ t body (ds.length+1) 0 σ g=.nx σ' g'/\I ds.length σ' g')\/(QjC (forL ⟨λ_ i=>some ds[i]?,ds.length⟩ t body (ds.length+1) 0 σ g)/\R (forL ⟨λ_ i=>some ds[i]?,ds.length⟩ t body (ds.length+1) 0 σ g)) :=
 QaA (src:=⟨λ_ i=>some ds[i]?,ds.length⟩) (t:=t) (body:=body) (n:=ds.length) I R (λi σ g hi h=>by
  obtain⟨σ1,a,b⟩:=step i ds[i] σ g (by simp[hi]) h
  refine⟨ds[i],σ1,by simp[hi],a,?_⟩
  rcases b with⟨σ2,g2,b,c⟩|b
  ·exact .inl ⟨σ2,g2,.inl b,c⟩
  ·exact .inr b) (λσ g _=>by simp) (ds.length+1) 0 σ g (by omega) (by omega) h0
theorem Qid{src:Src}{t:MG}{body:MS}{n:Nat}{σ:S3}{g:G}(hn:src.top=n)(I:Nat->S3->G->Prop)(h0:I 0 σ g)(step:∀i σ g,i<n->I i σ g->∃d σ1 σ2 g2,src.at' g i=some (some d)/\t d σ=some σ1/\body σ1 g=.nx σ2 g2/\I (i+1) σ2 g2)(stop:∀σ g,I n σ g->src.at' g n=some none):∃σ' g',forL src t body (src.top+1) 0 σ g=.nx σ' g'/\I n σ' g':=by
 rw[hn]
 have:=QaA (src:=src) (t:=t) (body:=body) (n:=n) I (λ_=>False) (λi σ g hi h=>by
  obtain⟨d,σ1,σ2,g2,a,b,c,e⟩:=step i σ g hi h
  exact⟨d,σ1,a,b,.inl ⟨σ2,g2,.inl c,e⟩⟩) stop (n+1) 0 σ g (by omega) (by omega) h0
 rcases this with h|h
 ·exact h
 ·exact h.2.elim
theorem YE{src:Src}{t:MG}{c:MT}{e:ME}{n:Nat}(I:Nat->S3->G->List D->Prop)(step:∀i σ g acc,i<n->I i σ g acc->∃d σ1 g1,src.at' g i=some (some d)/\t d σ=some σ1/\((∃y g2,c σ1 g=.ok true g1/\e σ1 g1=.ok y g2/\I (i+1) σ1 g2 (acc++[y]))\/(c σ1 g=.ok false g1/\I (i+1) σ1 g1 acc)))(stop:∀σ g acc,I n σ g acc->src.at' g n=some none):∀(f i:Nat)(σ:S3)(g:G)(acc:List D),n-i<f->i<=n->I i σ g acc->∃ds σ' g',JB src t c e f i σ g acc=.ok ds g'/\I n σ' g' ds
 |0,_,_,_,_,h,_,_=>by omega
 |f+1,i,σ,g,acc,hf,hi,h=>by
  unfold JB
  by_cases q:i=n
  ·subst q
   rw[stop σ g acc h]
   exact⟨acc,σ,g,rfl,h⟩
  ·obtain⟨d,σ1,g1,h1,h2,h3⟩:=step i σ g acc (by omega) h
   rw[h1]
   dsimp only
   rw[h2]
   dsimp only
   rcases h3 with⟨y,g2,h3,h4,h5⟩|⟨h3,h5⟩
   ·rw[h3];dsimp only;rw[Ud rfl,h4];exact YE I step stop f (i+1) σ1 g2 _ (by omega) (by omega) h5
   ·rw[h3];dsimp only;rw[Ue Ug];exact YE I step stop f (i+1) σ1 g1 _ (by omega) (by omega) h5
theorem QgI{ds:List D}{e:ME}{no:Nat}{σ:S3}{g:G}{f:D->D}(hz:ds.length<=SZ)(he:∀d∈ds,∀g1,Keeps [] g g1->∃g2,e ((List.replicate (no+1) none++σ).set 0 (some d)) g1=.ok (f d) g2/\Keeps [] g1 g2):
  ∃g',JB ⟨λ_ i=>some ds[i]?,ds.length⟩ (gSet 0) YM e (ds.length+1) 0 (List.replicate (no+1) none++σ) g []=.ok (ds.map f) g'/\Keeps [] g g':=by
 obtain⟨xs,σ',g',h1,h2,h3,h4⟩:=YE (src:=⟨λ_ i=>some ds[i]?,ds.length⟩) (t:=gSet 0) (c:=YM) (e:=e) (n:=ds.length)
  (λi σ' g1 acc=>acc=(ds.take i).map f/\Keeps [] g g1/\∃u,σ'=(List.replicate (no+1) none++σ).set 0 u) (λi σ' g1 acc hi h=>by
   obtain⟨h1,h2,u,h3⟩:=h
   obtain⟨g2,k1,k2⟩:=he ds[i] (UL hi) g1 h2
   refine⟨ds[i],_,g1,by simp[hi],rfl,.inl ⟨f ds[i],g2,rfl,?_,?_,h2.trans k2,some ds[i],?_⟩⟩
   ·subst h3;rw[Wp];exact k1
   ·rw[h1,UU hi,Wh];rfl
   ·subst h3;rw[Wp]) (λσ g acc _=>by simp) (ds.length+1) 0 (List.replicate (no+1) none++σ) g [] (by omega) (by omega) ⟨by simp,.refl,none,by simp[UX]⟩
 refine⟨g',?_,h3⟩
 rw[h1,h2,Ru]
noncomputable def QaB(d:D)(n:Int):Bool:=match d with
 |.int i=>decide (0<=i/\i<n)
 |_=>false
noncomputable def Qnz:D->Bool
 |.int _=>true
 |_=>false
theorem QbZ(d:D)(n:Int)(g:G)(t:Ty)(_:tyOf g d=some t)(hp:Qnz d=true:=by rfl):ZE [d,.int n] g=.ok (.bl (QaB d n)) g:=by
 cases d with
 |int i =>
  have c:QcD pLe pLt (mLit (.int 0)) (mVar 0) (mVar 1) [some (.int i),some (.int n)] g=.ok (.bl (decide (0<=i/\i<n))) g:=by
   unfold QcD
   rw[show mLit (D.int 0) [some (D.int i),some (D.int n)] g=.ok (.int 0) g from rfl,Res.bind_ok,show mVar 0 [some (D.int i),some (D.int n)] g=.ok (.int i) g from rfl,Res.bind_ok,show pLe (.int 0) (.int i) g=.ok (.bl (decide (0<=i))) g from rfl,Res.bind_ok]
   by_cases h0:0<=i
   ·rw[UC h0]
    show Res.ok (D.bl (decide (i<n))) g=_
    by_cases h1:i<n
    ·rw[UC h1,UC ⟨h0,h1⟩]
    ·rw[UB h1,UB λz=>h1 z.2]
   ·rw[UB h0,UB λz=>h0 z.1]
  have a1:Qo Jc (Qb (mVar 0) mNil) [some (.int i),some (.int n)] g=.ok (.bl true) g:=rfl
  show(match mRet (mAnd (Qo Jc (Qb (mVar 0) mNil)) (QcD pLe pLt (mLit (.int 0)) (mVar 0) (mVar 1))) [some (.int i),some (.int n)] g with
   |.nx _ g'=>Res.ok D.non g'
   |.rt d g'=>.ok d g'
   |.raise e _ g'=>.raise e g'
   |_=>.stuck)=_
  unfold mRet mAnd
  rw[a1,Res.bind_ok]
  dsimp only
  rw[Ud rfl,c]
  rfl
 |_=>cases hp
theorem s_l:Str.ofString "l" = ⟨#[108]⟩:=by decide +kernel
theorem s_r:Str.ofString "r" = ⟨#[114]⟩:=by decide +kernel
noncomputable def wayD:D->Bool
 |.str s=>s == ⟨#[108]⟩ || s == ⟨#[114]⟩
 |_=>false
noncomputable def entD(d:D)(states signs:Int):Bool:=match d with
 |.non=>true
 |.tup [a,b,c]=>QaB a signs && wayD b && QaB c states
 |_=>false
noncomputable def thingD(_:G)(d:D):Prop:=d=.non\/∃(i j:Int)(w:Str),d=.tup [.int i,.str w,.int j]
theorem Qlx(s:Str)(g:G):pIn false (.str s) (.tup [.str ⟨#[108]⟩,.str ⟨#[114]⟩]) g=.ok (.bl (wayD (.str s))) g:=by
 show Res.ok (D.bl ((⟨#[108]⟩ == s) || ((⟨#[114]⟩ == s) || false))) g=.ok (.bl ((s == ⟨#[108]⟩) || (s == ⟨#[114]⟩))) g
 rw[show((⟨#[108]⟩:Str) == s)=(s == ⟨#[108]⟩) from BEq.comm,show((⟨#[114]⟩:Str) == s)=(s == ⟨#[114]⟩) from BEq.comm,Bool.or_false]
theorem Qe5(d:D)(states signs:Int)(g:G)(h:thingD g d):Yn [d,.int states,.int signs] g=.ok (.bl (entD d states signs)) g:=by
 rcases h with rfl|⟨i,j,w,rfl⟩
 ·rfl
 ·have a1:Qo ZE (Qb (mOp2 pIx (mVar 0) (mLit (.int 0))) (Qb (mVar 2) mNil)) [some (.tup [.int i,.str w,.int j]),some (.int states),some (.int signs)] g=.ok (.bl (QaB (.int i) signs)) g:=QbZ (.int i) signs g .int rfl
  have a3:Qo ZE (Qb (mOp2 pIx (mVar 0) (mLit (.int 2))) (Qb (mVar 1) mNil)) [some (.tup [.int i,.str w,.int j]),some (.int states),some (.int signs)] g=.ok (.bl (QaB (.int j) states)) g:=QbZ (.int j) states g .int rfl
  have a2:mOp2 (pIn false) (mOp2 pIx (mVar 0) (mLit (.int 1))) (mOpA pTup (Qb (mLit (.str "l")) (Qb (mLit (.str "r")) mNil))) [some (.tup [.int i,.str w,.int j]),some (.int states),some (.int signs)] g=.ok (.bl (wayD (.str w))) g:=by
   rw[s_l,s_r];exact Qlx w g
  show(match (mRet (mAnd (Qo ZE (Qb (mOp2 pIx (mVar 0) (mLit (.int 0))) (Qb (mVar 2) mNil))) (mAnd (mOp2 (pIn false) (mOp2 pIx (mVar 0) (mLit (.int 1))) (mOpA pTup (Qb (mLit (.str "l")) (Qb (mLit (.str "r")) mNil)))) (Qo ZE (Qb (mOp2 pIx (mVar 0) (mLit (.int 2))) (Qb (mVar 1) mNil)))))) [some (.tup [.int i,.str w,.int j]),some (.int states),some (.int signs)] g with
   |.nx _ g'=>Res.ok D.non g'
   |.rt d g'=>.ok d g'
   |.raise e _ g'=>.raise e g'
   |_=>.stuck)=.ok (.bl (QaB (.int i) signs && wayD (.str w) && QaB (.int j) states)) g
  unfold mRet mAnd
  rw[a1,Res.bind_ok]
  dsimp only
  cases QaB (.int i) signs
  ·rfl
  ·rw[Ud rfl,a2,Res.bind_ok]
   dsimp only
   cases wayD (.str w)
   ·rfl
   ·rw[Ud rfl,a3];rfl
theorem Keeps.ty{g g1:G}(k:Keeps [] g g1){d:D}{t:Ty}(h:tyOf g d=some t):tyOf g1 d=some t:=by
 cases d with
 |ref n =>
  unfold tyOf at h ⊢
  dsimp only at h ⊢
  cases hg:g[n]? with
  |none=>rw[hg]at h;cases h
  |some o=>rw[hg]at h;rw[k.at' n o (by simp) hg];exact h
 |_=>exact h
theorem thingD.mono{g g1:G}{d:D}(_:Keeps [] g g1)(h:thingD g d):thingD g1 d:=h
theorem QfT{α:Type}(f:α->Bool):∀ts:List α,allB (ts.map λd=>D.bl (f d))=some (ts.all f)
 |[]=>rfl
 |t::ts=>by simp[allB,QfT f ts]
noncomputable def YF(n m:Nat)(r:List D):Bool:=r.length == m && r.all λd=>entD d n m
noncomputable def QaC(rows:List (List D)):Bool:=match rows with
 |[]=>false
 |r::_=>r.length != 0 && rows.all (YF rows.length r.length)
theorem Qie(σ:S3)(g:G):YO σ g=.stuck:=rfl
theorem eq_int(i j:Int)(g:G):pEq (.int i) (.int j) g=.ok (.bl (i == j)) g:=rfl
theorem ne_int(i j:Int)(g:G):pNe (.int i) (.int j) g=.ok (.bl (!(i == j))) g:=rfl
theorem Qly(n m:Nat)(ts:List D)(x:D)(g:G)(hz:ts.length<=SZ)(h:∀d∈ts,thingD g d):
  ∃g',Keeps [] g g'/\mOp1 pAll (JC (Zy (mVar 3)) 1 [1,2] (gSet 0) YM (Qo Yn (Qb (mVar 0) (Qb (mVar 1) (Qb (mVar 2) mNil))))) [some x,some (.int n),some (.int m),some (.tup ts)] g=.ok (.bl (ts.all λd=>entD d n m)) g':=by
 obtain⟨g1,h1,k1⟩:=QgI (ds:=ts) (e:=Qo Yn (Qb (mVar 0) (Qb (mVar 1) (Qb (mVar 2) mNil)))) (no:=0) (σ:=[some (.int n),some (.int m)]) (g:=g) (f:=λd=>.bl (entD d n m)) hz
  (λd hd g1 k=>⟨g1,by simp[Qo,Qb,mNil,mVar,Res.bind,Qe5 d n m g1 ((h d hd).mono k)],.refl⟩)
 refine⟨g1++[.lst (ts.map λd=>.bl (entD d n m))],k1.trans (.push _),?_⟩
 have h1:JB ⟨λ_ i=>some ts[i]?,ts.length⟩ (gSet 0) YM (Qo Yn (Qb (mVar 0) (Qb (mVar 1) (Qb (mVar 2) mNil)))) (ts.length+1) 0 [none,some (.int n),some (.int m)] g []=.ok (ts.map λd=>.bl (entD d n m)) g1:=h1
 simp[mOp1,JC,Zy,mVar,Res.bind,Qa3,hz,capt,h1,pAll,QfT]
theorem QjD(n m:Nat)(ts:List D)(x:D)(g:G)(hz:ts.length<=SZ)(h:∀d∈ts,thingD g d):
  ∃g',Keeps [] g g'/\Q7 [some x,some (.int n),some (.int m),some (.tup ts)] g=if YF n m ts=true then .nx [some x,some (.int n),some (.int m),some (.tup ts)] g' else .stuck:=by
 by_cases hl:ts.length=m
 ·obtain⟨g2,k2,e2⟩:=Qly n m ts x g hz h
  refine⟨g2,k2,?_⟩
  have hl':((ts.length:Int) == (m:Int))=true:=by simp[hl]
  have gr:YF n m ts=ts.all λd=>entD d n m:=by simp[YF,hl]
  rw[gr]
  simp only[Q7,mSeq,mIf,Qk,mOp2,mOp1,mVar,Res.bind,TJ,Tn,pLen,ne_int,hl',Bool.not_true,Rh,WK,QG,Jl]
  simp only[mOp1,Res.bind]at e2
  rw[e2]
  cases (ts.all λd=>entD d n m) <;> simp[YO]
 ·refine⟨g,.refl,?_⟩
  have hl':((ts.length:Int) == (m:Int))=false:=by simp;omega
  have gr:YF n m ts=false:=by
   have:(ts.length == m)=false:=by simp[hl]
   simp only[YF,this,Bool.false_and]
  rw[gr]
  simp only[Q7,mSeq,mIf,Qk,mOp2,mOp1,mVar,Res.bind,TJ,Tn,pLen,ne_int,hl',Bool.not_false,Wj,Qie,Rh,WK]
theorem Qdr(rows:List (List D))(g:G)(hz:∀r∈rows,r.length<=SZ)(h:∀r∈rows,∀d∈r,thingD g d):
  ∃g',Keeps [] g g'/\ZG [.tup (rows.map .tup)] g=if QaC rows=true then .ok .non g' else .stuck:=by
 cases rows with
 |nil=>exact⟨g,.refl,by simp[ZG,mDef,ZF,mSeq,mIf,Qk,mOp2,mOp1,mVar,mLit,Res.bind,pLen,eq_int,Qie,QaC]⟩
 |cons r rest =>
  have e0:¬((rest.length:Int)+1=0):=by omega
  have e1:(0:Int)<(rest.length:Int)+1:=by omega
  by_cases hr:r.length=0
  ·refine⟨g,.refl,?_⟩
   simp[ZG,mDef,ZF,mSeq,mIf,Qk,mOp2,mOp1,mVar,mLit,Res.bind,pLen,eq_int,Qie,QaC,hr,e0,e1,QG,mAsg,gSet,pIx,atD,ixD]
  ·have hr':¬((r.length:Int)=0):=by omega
   have hrn:¬r=[]:=λz=>hr (by rw[z];rfl)
   have hd0:QaC (r::rest)=(r::rest).all (YF (r::rest).length r.length):=by simp[QaC,hr]
   have loop:=Qed (t:=gSet 3) (ds:=(r::rest).map D.tup) (σ:=[some (.tup ((r::rest).map .tup)),some (.int (r::rest).length),some (.int r.length),none]) (g:=g) (body:=Q7)
    (λi σ g1=>Keeps [] g g1/\(∃u,σ=[some (.tup ((r::rest).map .tup)),some (.int (r::rest).length),some (.int r.length),u])/\∀x∈(r::rest).take i,YF (r::rest).length r.length x=true)
    (λo=>o=.stuck/\∃x∈r::rest,YF (r::rest).length r.length x=false) ⟨.refl,⟨none,rfl⟩,by simp⟩ (λi d σ g1 hd ⟨k,⟨u,hσ⟩,hg⟩=>by
     rw[UA]at hd
     cases hx:(r::rest)[i]? with
     |none=>rw[hx]at hd;cases hd
     |some ts =>
      rw[hx]at hd
      cases hd
      have hm:ts∈r::rest:=RW hx
      subst hσ
      refine⟨_,rfl,?_⟩
      obtain⟨g2,k2,e2⟩:=QjD (r::rest).length r.length ts (.tup ((r::rest).map .tup)) g1 (hz ts hm) λd hd=>(h ts hm d hd).mono k
      simp only[List.set]
      rw[e2]
      cases ha:YF (r::rest).length r.length ts with
      |true =>
       left
       refine⟨_,g2,by rw[Ud rfl],k.trans k2,⟨_,rfl⟩,λx hx'=>?_⟩
       rw[List.take_succ,hx]at hx'
       rcases Ta.mp hx' with z|z
       ·exact hg x z
       ·have:x=ts:=by simpa using z
        rw[this];exact ha
      |false =>
       right
       rw[Ue Ug]
       exact⟨trivial,rfl,ts,hm,ha⟩)
   have fin:ZF [some (.tup ((r::rest).map .tup)),none,none,none] g=forL ⟨λ_ i=>some ((r::rest).map D.tup)[i]?,((r::rest).map D.tup).length⟩ (gSet 3) Q7 (((r::rest).map D.tup).length+1) 0 [some (.tup ((r::rest).map .tup)),some (.int (r::rest).length),some (.int r.length),none] g:=by
    simp[ZF,mSeq,mIf,Qk,mOp2,mOp1,mVar,mLit,Res.bind,pLen,eq_int,e0,QG,mAsg,gSet,pIx,atD,ixD,e1,hr',hrn,mFor,Zy,Qa3]
   have ap:ZG [.tup ((r::rest).map .tup)] g=match ZF [some (.tup ((r::rest).map .tup)),none,none,none] g with
    |.nx _ g'=>.ok .non g'
    |.rt d g'=>.ok d g'
    |.raise e _ g'=>.raise e g'
    |_=>.stuck:=rfl
   rw[ap,fin]
   rcases loop with⟨σ',g',h1,k1,_,h2⟩|⟨_,h1,x,hx,hg⟩
   ·refine⟨g',k1,?_⟩
    have:QaC (r::rest)=true:=by
     rw[hd0,Tp]
     intro x hx
     exact h2 x (by rw[Uw,Ru];exact hx)
    rw[Ud this,h1]
   ·refine⟨g,.refl,?_⟩
    have:¬QaC (r::rest)=true:=by
     rw[hd0,Tp]
     intro z
     rw[z x hx]at hg;cases hg
    rw[Ue this,h1]
theorem Keeps.seq{g g1:G}(k:Keeps [] g g1){d:D}{p:Bool×List D}(h:QB g d=some p):QB g1 d=some p:=by
 cases d with
 |ref n =>
  unfold QB at h ⊢
  dsimp only at h ⊢
  cases hg:g[n]? with
  |none=>rw[hg]at h;cases h
  |some o=>rw[hg]at h;rw[k.at' n o (by simp) hg];exact h
 |_=>exact h
theorem QnA{g:G}{d:D}{b:Bool}{ds:List D}(h:QB g d=some (b,ds)):∃src,Qa3 d g=.ok src g/\src.top=ds.length/\∀g1 i,QB g1 d=some (b,ds)->src.at' g1 i=some ds[i]?:=by
 cases d with
 |tup es=>cases h;exact⟨_,rfl,rfl,λ_ _ _=>rfl⟩
 |fl es=>cases h;exact⟨_,rfl,rfl,λ_ _ _=>rfl⟩
 |ref n =>
  unfold QB at h
  dsimp only at h
  cases hg:g[n]? with
  |none=>rw[hg]at h;cases h
  |some o =>
   rw[hg]at h
   cases o with
   |lst es =>
    cases h
    refine⟨_,by unfold Qa3;dsimp only;rw[hg],rfl,λg1 i h1=>?_⟩
    unfold QB at h1
    dsimp only at h1 ⊢
    cases hg1:g1[n]? with
    |none=>rw[hg1]at h1;cases h1
    |some o1 =>
     rw[hg1]at h1
     cases o1 with
     |lst es1=>cases h1;rfl
     |_=>cases h1
   |_=>cases h
 |_=>cases h
theorem QjE{src:Src}{ds:List D}{e:ME}{no:Nat}{σ:S3}{g:G}{f:D->D}(ht:src.top=ds.length)(hs:∀g1 i,Keeps [] g g1->src.at' g1 i=some ds[i]?)(he:∀d∈ds,∀g1,Keeps [] g g1->∃g2,e ((List.replicate (no+1) none++σ).set 0 (some d)) g1=.ok (f d) g2/\Keeps [] g1 g2):
  ∃g',JB src (gSet 0) YM e (src.top+1) 0 (List.replicate (no+1) none++σ) g []=.ok (ds.map f) g'/\Keeps [] g g':=by
 obtain⟨xs,σ',g',h1,h2,h3,h4⟩:=YE (src:=src) (t:=gSet 0) (c:=YM) (e:=e) (n:=ds.length)
  (λi σ' g1 acc=>acc=(ds.take i).map f/\Keeps [] g g1/\∃u,σ'=(List.replicate (no+1) none++σ).set 0 u) (λi σ' g1 acc hi h=>by
   obtain⟨h1,h2,u,h3⟩:=h
   obtain⟨g2,k1,k2⟩:=he ds[i] (UL hi) g1 h2
   refine⟨ds[i],_,g1,by rw[hs g1 i h2];simp[hi],rfl,.inl ⟨f ds[i],g2,rfl,?_,?_,h2.trans k2,some ds[i],?_⟩⟩
   ·subst h3;rw[Wp];exact k1
   ·rw[h1,UU hi,Wh];rfl
   ·subst h3;rw[Wp]) (λσ g1 acc h=>by rw[hs g1 _ h.2.1];simp) (src.top+1) 0 (List.replicate (no+1) none++σ) g [] (by omega) (by omega) ⟨by simp,.refl,none,by simp[UX]⟩
 refine⟨g',?_,h3⟩
 rw[h1,h2,Ru]
noncomputable def rowsOf(g:G)(d:D)(rows:List (List D)):Prop:=∃b ds,QB g d=some (b,ds)/\ds.length=rows.length/\∀(i:Nat) x r,ds[i]?=some x->rows[i]?=some r->∃c,QB g x=some (c,r)
theorem rowsOf.mono{g g1:G}{d:D}{rows:List (List D)}(k:Keeps [] g g1)(h:rowsOf g d rows):rowsOf g1 d rows:=by
 obtain⟨b,ds,h1,h2,h3⟩:=h
 exact⟨b,ds,k.seq h1,h2,λi x r hx hr=>let ⟨c,q⟩:=h3 i x r hx hr;⟨c,k.seq q⟩⟩
theorem Qif{g:G}{d:D}{b:Bool}{ds:List D}(h:QB g d=some (b,ds)):YR d g=.ok (.tup ds) g:=by
 cases d with
 |tup es=>cases h;rfl
 |fl es=>cases h;rfl
 |ref n =>
  unfold QB at h
  dsimp only at h
  cases hg:g[n]? with
  |none=>rw[hg]at h;cases h
  |some o =>
   rw[hg]at h
   cases o with
   |lst es=>cases h;simp[YR,hg]
   |_=>cases h
 |_=>cases h
theorem Q8:Str.ofString "table" = ⟨#[116,97,98,108,101]⟩:=by decide +kernel
noncomputable def JQ(rows:List (List D)):GO:=.ins 11 [(Str.ofString "table",.tup (rows.map .tup))]
theorem Qlz(m:Nat)(d:D)(rows:List (List D))(g:G)(hm:g[m]?=some (.ins 11 []))(hr:rowsOf g d rows)(hz:∀r∈rows,r.length<=SZ)(hl:rows.length<=SZ)(h:∀r∈rows,∀d∈r,thingD g d):
  ∃g',Keeps [] g g'/\QJ [.ref m,d] g=if QaC rows=true then .ok .non (g'.set m (JQ rows)) else .stuck:=by
 obtain⟨b,ds,h1,h2,h3⟩:=hr
 obtain⟨src,s1,s2,s3⟩:=QnA h1
 have mp:∀x∈ds,∃c r,QB g x=some (c,r):=λx hx=>by
  obtain⟨i,hi,rfl⟩:=Th hx
  obtain⟨c,q⟩:=h3 i ds[i] (rows[i]'(by omega)) (by simp[hi]) (by simp[show i<rows.length by omega])
  exact⟨c,_,q⟩
 obtain⟨g1,c1,k1⟩:=QjE (src:=src) (ds:=ds) (e:=mOp1 YR (mVar 0)) (no:=0) (σ:=[]) (g:=g) (f:=λx=>.tup (((QB g x).map (·.2)).getD [])) s2 (λg1 i k=>s3 g1 i (k.seq h1)) (λx hx g1 k=>by
  obtain⟨c,r,q⟩:=mp x hx
  refine⟨g1,?_,.refl⟩
  simp[mOp1,mVar,Res.bind,Qif (k.seq q),q])
 have em:(ds.map λx=>D.tup (((QB g x).map (·.2)).getD []))=rows.map .tup:=by
  apply List.ext_getElem
  ·simp[h2]
  ·intro i hi hi'
   simp only[Uw]at hi hi'
   obtain⟨c,q⟩:=h3 i ds[i] rows[i] (by simp[hi]) (by simp[hi'])
   simp[q]
 rw[em]at c1
 have c1:JB src (gSet 0) YM (mOp1 YR (mVar 0)) (src.top+1) 0 [none] g []=.ok (rows.map .tup) g1:=c1
 have k2:Keeps [] g (g1++[.lst (rows.map .tup)]):=k1.trans (.push _)
 obtain⟨g3,k3,c3⟩:=Qdr rows (g1++[.lst (rows.map .tup)]) hz λr hr d hd=>(h r hr d hd).mono k2
 refine⟨g3,k2.trans k3,?_⟩
 have hz2:src.top<=SZ:=by omega
 have hm3:=(k2.trans k3).at' m _ (by simp) hm
 simp[QJ,mDef,Qae,mSeq,mAsg,mOp1,JC,Zy,mVar,Res.bind,s1,hz2,capt,c1,YR,gSet,Zw,Qo,Qb,mNil,c3]
 by_cases hg:QaC rows=true
 ·simp[hg,QP,mVar,hm3,putG,JQ]
 ·simp[hg]
theorem QlA(d:D)(rows:List (List D))(g:G)(hr:rowsOf g d rows)(hz:∀r∈rows,r.length<=SZ)(hl:rows.length<=SZ)(h:∀r∈rows,∀d∈r,thingD g d)(a:MA)(σ:S3)(g0:G)(ha:a σ g0=.ok [d] g):
  ∃g',Keeps [] g g'/\QbB 11 QJ a σ g0=(if QaC rows=true then .ok (.ref g.length) g' else .stuck)/\(QaC rows=true->g'[g.length]?=some (JQ rows)):=by
 have kp:Keeps [] g (g++[.ins 11 []]):=.push _
 obtain⟨g',k',e'⟩:=Qlz g.length d rows (g++[.ins 11 []]) (QQ _) (hr.mono kp) hz hl λr hr d hd=>(h r hr d hd).mono kp
 by_cases hg:QaC rows=true
 ·rw[Ud hg]at e'
  refine⟨g'.set g.length (JQ rows),?_,?_,λ_=>?_⟩
  ·refine⟨by rw[T8];exact Ut kp.len k'.len,λn o _ e=>?_⟩
   have hn:n<g.length:=Yb e
   rw[Uh (by omega)]
   exact(kp.trans k').at' n o (by simp) e
  ·simp[QbB,ha,Res.bind,e',hg]
  ·rw[Td]
   have:=k'.len
   simp at this
   omega
 ·rw[Ue hg]at e'
  exact⟨g',kp.trans k',by simp[QbB,ha,Res.bind,e',hg],λz=>absurd z hg⟩
theorem YZ{a b:MS}{σ σ':S3}{g g':G}(h:a σ g=.nx σ' g'):mSeq a b σ g=b σ' g':=by unfold mSeq;rw[h]
theorem Qee{a b:MS}{σ:S3}{d:D}{g g':G}(h:a σ g=.rt d g'):mSeq a b σ g=.rt d g':=by unfold mSeq;rw[h]
theorem Qb0{a b:MS}{σ σ':S3}{x:Xc}{g g':G}(h:a σ g=.raise x σ' g'):mSeq a b σ g=.raise x σ' g':=by unfold mSeq;rw[h]
theorem ZI{i:Nat}{a:ME}{σ:S3}{d:D}{g g':G}(h:a σ g=.ok d g'):mAsg (gSet i) a σ g=.nx (σ.set i (some d)) g':=by unfold mAsg;rw[h];rfl
theorem QfU{c:MT}{a b:MS}{σ:S3}{g g':G}(h:c σ g=.ok true g'):mIf c a b σ g=a σ g':=by unfold mIf;rw[h];rfl
theorem Qef{c:MT}{a b:MS}{σ:S3}{g g':G}(h:c σ g=.ok false g'):mIf c a b σ g=b σ g':=by unfold mIf;rw[h];rfl
theorem Q3{f:MF}{a:MA}{σ:S3}{ds:List D}{g g':G}(h:a σ g=.ok ds g'):Qo f a σ g=f ds g':=by unfold Qo;rw[h];rfl
theorem Qds{a:ME}{σ:S3}{d:D}{g g':G}(h:a σ g=.ok d g'):Zw a σ g=.nx σ g':=by unfold Zw;rw[h]
theorem QcQ{a:ME}{σ:S3}{d:D}{g g':G}(h:a σ g=.ok d g'):mRet a σ g=.rt d g':=by unfold mRet;rw[h]
theorem QS{k n:Nat}{b:MS}{ds:List D}{d:D}{g g':G}(hl:ds.length=k)(h:b (ds.map some++List.replicate n none) g=.rt d g'):mDef k n b ds g=.ok d g':=by unfold mDef;rw[Ud hl,h]
theorem Qkn(ns:List Int)(i:Int)(h:0<ns.length):∃x,atD (ns.map D.int) (i%ns.length)=some (.int x):=by
 have h1:0<=i % (ns.length:Int):=TM _ (by omega)
 have h2:i % (ns.length:Int)<ns.length:=TC _ (by omega)
 have h3:(i % (ns.length:Int)).toNat<ns.length:=by omega
 refine⟨ns[(i % (ns.length:Int)).toNat],?_⟩
 unfold atD ixD
 rw[Uw,Ud h1,Ud h2]
 simp[h3]
theorem ix0{a:Nat}{d:D}{g:G}(h:g[a]?=some (.lst [d])):pIx (.ref a) (.int 0) g=.ok d g:=by
 unfold pIx;dsimp only;rw[h];rfl
theorem ixfl{ds:List D}{i:Int}{d:D}{g:G}(h:atD ds i=some d):pIx (.fl ds) (.int i) g=.ok d g:=by
 unfold pIx;dsimp only;rw[h]
theorem Qig(c:Int)(x:D)(a:Nat)(k:Int)(g:G)(ga:g[a]?=some (.lst [.int k]))(hk:0<=k)(hk2:k<1000000001):∃m,0<=m/\m<1999999973/\(mSeq (mAsg (gSet 3) (mOp2 pMod (mOp2 pMul (mOp2 pAdd (mOp2 pAdd (mOp2 pMod (mVar 2) (mLit (.int 2147483647))) (mOp2 pMul (mOp2 pMul (mOp2 pIx (mVar 1) (mLit (.int 0))) (mOp2 pIx (mVar 1) (mLit (.int 0)))) (mLit (.int 7919)))) (mLit (.int 11))) (mLit (.int 48271))) (mLit (.int 2147483647))))
      (mRet (mOp2 pMod (mOp2 pMul (mVar 3) (mVar 3)) (mLit (.int 1999999973))))) [some x,some (.ref a),some (.int c),none] g=.rt (.int m) g:=by
  have c1:cM k:=⟨by omega,by omega⟩
  have c2:cM 7919:=⟨by decide,by decide⟩
  have c3:cM 48271:=⟨by decide,by decide⟩
  have hr:=TC ((c%2147483647+k*k*7919+11)*48271) (show(0:Int)<2147483647 by decide)
  have hr0:=TM ((c%2147483647+k*k*7919+11)*48271) (show(2147483647:Int)≠0 by decide)
  have c4:cM (((c%2147483647+k*k*7919+11)*48271) % 2147483647):=⟨by omega,by omega⟩
  refine⟨((c%2147483647+k*k*7919+11)*48271) % 2147483647*(((c%2147483647+k*k*7919+11)*48271) % 2147483647) % 1999999973,TM _ (by decide),TC _ (by decide),?_⟩
  have e1:(mOp2 pMod (mOp2 pMul (mOp2 pAdd (mOp2 pAdd (mOp2 pMod (mVar 2) (mLit (.int 2147483647))) (mOp2 pMul (mOp2 pMul (mOp2 pIx (mVar 1) (mLit (.int 0))) (mOp2 pIx (mVar 1) (mLit (.int 0)))) (mLit (.int 7919)))) (mLit (.int 11))) (mLit (.int 48271))) (mLit (.int 2147483647))) [some x,some (.ref a),some (.int c),none] g=.ok (.int (((c%2147483647+k*k*7919+11)*48271) % 2147483647)) g:=by
    simp[mOp2,mVar,mLit,Res.bind,ix0 ga,pMod,pMul,pAdd,c1,c2,c3]
  rw[YZ (ZI e1)]
  generalize ((c%2147483647+k*k*7919+11)*48271) % 2147483647=r at c4 ⊢
  refine QcQ ?_
  simp[mOp2,mVar,mLit,Res.bind,pMod,pMul,c4]
theorem Qam(ns:List Int)(a:Nat)(k:Int)(g:G)(hg:g[a]?=some (.lst [.int k]))(hk:0<=k)(hk2:k<1000000000):
  ∃m,0<=m/\m<1999999973/\ZR [.fl (ns.map .int),.ref a] g=.ok (.int m) (g.set a (.lst [.int (k+1)])):=by
 have s1:YQ (mVar 1) (mLit (.int 0)) (mOp2 pAdd (mOp2 pIx (mVar 1) (mLit (.int 0))) (mLit (.int 1))) [some (.fl (ns.map .int)),some (.ref a),none,none] g=.nx [some (.fl (ns.map .int)),some (.ref a),none,none] (g.set a (.lst [.int (k+1)])):=by
  simp[YQ,mOp2,mVar,mLit,Res.bind,ix0 hg,pAdd,hg,ixD]
 have ga:(g.set a (.lst [.int (k+1)]))[a]?=some (.lst [.int (k+1)]):=QH hg
 generalize g.set a (.lst [.int (k+1)])=g1 at s1 ga ⊢
 have s3:∃c,mAsg (gSet 2) (mIfE (Qk (mOp2 pGt (mOp1 pLen (mVar 0)) (mLit (.int 0)))) (mOp2 pIx (mVar 0) (mOp2 pMod (mOp2 pIx (mVar 1) (mLit (.int 0))) (mOp1 pLen (mVar 0)))) (mLit (.int 0))) [some (.fl (ns.map .int)),some (.ref a),none,none] g1=.nx [some (.fl (ns.map .int)),some (.ref a),some (.int c),none] g1:=by
  by_cases hl:0<ns.length
  ·obtain⟨x,hx⟩:=Qkn ns (k+1) hl
   have hl':(0:Int)<(ns.length:Int):=by omega
   refine⟨x,ZI ?_⟩
   have t1:Qk (mOp2 pGt (mOp1 pLen (mVar 0)) (mLit (.int 0))) [some (.fl (ns.map .int)),some (.ref a),none,none] g1=.ok true g1:=by simp[Qk,mOp2,mOp1,mVar,mLit,Res.bind,pLen,pGt,pCmp,hl]
   unfold mIfE
   rw[t1,Res.bind_ok,Ud rfl]
   simp only[mOp2,mOp1,mVar,mLit,Res.bind,TJ,Tn,ix0 ga,pLen,pMod,Uw,hl',Wj,ixfl hx]
  ·cases ns with
   |nil=>exact⟨0,rfl⟩
   |cons x r=>simp at hl
 obtain⟨c,s3⟩:=s3
 obtain⟨m,m1,m2,m3⟩:=Qig c (.fl (ns.map .int)) a (k+1) g1 ga (by omega) (by omega)
 refine⟨m,m1,m2,QS rfl ?_⟩
 show Qdn [some (.fl (ns.map .int)),some (.ref a),none,none] g=_
 unfold Qdn
 rw[YZ s1,YZ s3,m3]
noncomputable def entOk(d:D)(n m:Nat):Prop:=d=.non\/∃(i j:Int)(w:Str),d=.tup [.int i,.str w,.int j]/\0<=i/\i<m/\0<=j/\j<n/\(w=⟨#[108]⟩\/w=⟨#[114]⟩)
theorem entOk.ent{d:D}{n m:Nat}(h:entOk d n m):entD d n m=true:=by
 rcases h with rfl|⟨i,j,w,rfl,h1,h2,h3,h4,h5⟩
 ·rfl
 ·rcases h5 with rfl|rfl <;> simp[entD,QaB,wayD,h1,h2,h3,h4]
theorem entOk.thing{d:D}{n m:Nat}{g:G}(h:entOk d n m):thingD g d:=by
 rcases h with h|⟨i,j,w,h,_⟩
 ·exact .inl h
 ·exact .inr ⟨i,j,w,h⟩
theorem s_lr:Str.ofString "lr" = ⟨#[108,114]⟩:=by decide +kernel
theorem QnB(i:Int)(g:G):∃w,pIx (.str "lr") (.int (i%2)) g=.ok (.str w) g/\(w=⟨#[108]⟩\/w=⟨#[114]⟩):=by
 rw[s_lr]
 rcases(by omega:i%2=0\/i%2=1) with e|e
 ·rw[e];exact⟨_,rfl,.inl rfl⟩
 ·rw[e];exact⟨_,rfl,.inr rfl⟩
theorem Qb1{n:Nat}{ds:List D}{y:D}{σ:S3}{g:G}{i j:Nat}(hi:σ[i]?=some (some (.ref n)))(hj:σ[j]?=some (some y))(h:g[n]?=some (.lst ds))(hz:ds.length<SZ):
  Zw (Yu (mVar i) (mVar j)) σ g=.nx σ (g.set n (.lst (ds++[y]))):=by
 refine Qds (d:=.non) ?_
 simp[Yu,mVar,hi,hj,Res.bind,h,hz]
theorem Qih(ns:List Int)(a l t:Nat)(k:Int)(n m:Nat)(x5 x7 x8 x9:Option D)(row:List D)(g:G)(hn:0<n)(hm:0<m)(ga:g[a]?=some (.lst [.int k]))(gl:g[l]?=some (.lst row))(hal:a≠l)(hk:0<=k)(hk2:k<1000000000)(hz:row.length<SZ):
  ∃d x8',entOk d n m/\Zm [some (.fl (ns.map .int)),some (.ref a),some (.int n),some (.int m),some (.ref t),x5,some (.ref l),x7,x8,x9] g=.nx [some (.fl (ns.map .int)),some (.ref a),some (.int n),some (.int m),some (.ref t),x5,some (.ref l),x7,x8',some d] ((g.set a (.lst [.int (k+1)])).set l (.lst (row++[d]))):=by
 obtain⟨mm,m1,m2,e⟩:=Qam ns a k g ga hk hk2
 have gl1:(g.set a (.lst [.int (k+1)]))[l]?=some (.lst row):=by rw[Uh hal];exact gl
 generalize g.set a (.lst [.int (k+1)])=g1 at e gl1 ⊢
 obtain⟨w,hw,ww⟩:=QnB (mm/100) g1
 have hm':(0:Int)<m:=by omega
 have hn':(0:Int)<n:=by omega
 have s1:mAsg (gSet 8) (Qo ZR (Qb (mVar 0) (Qb (mVar 1) mNil))) [some (.fl (ns.map .int)),some (.ref a),some (.int n),some (.int m),some (.ref t),x5,some (.ref l),x7,x8,x9] g=.nx [some (.fl (ns.map .int)),some (.ref a),some (.int n),some (.int m),some (.ref t),x5,some (.ref l),x7,some (.int mm),x9] g1 :=
  ZI (by rw[Q3 (ds:=[.fl (ns.map .int),.ref a]) (g':=g) rfl];exact e)
 have v2:(mOpA pTup (Qb (mOp2 pMod (mOp2 Z6 (mVar 8) (mLit (.int 9))) (mVar 3)) (Qb (mOp2 pIx (mLit (.str "lr")) (mOp2 pMod (mOp2 Z6 (mVar 8) (mLit (.int 100))) (mLit (.int 2)))) (Qb (mOp2 pMod (mOp2 Z6 (mVar 8) (mLit (.int 300))) (mVar 2)) mNil)))) [some (.fl (ns.map .int)),some (.ref a),some (.int n),some (.int m),some (.ref t),x5,some (.ref l),x7,some (.int mm),x9] g1=.ok (.tup [.int (mm/9%m),.str w,.int (mm/300%n)]) g1:=by
  simp[mOpA,Qb,mNil,mOp2,mVar,mLit,Res.bind,Z6,pMod,hm',hn',hw,pTup,SZ,hm,hn]
 have s2:mAsg (gSet 9) (mOpA pTup (Qb (mOp2 pMod (mOp2 Z6 (mVar 8) (mLit (.int 9))) (mVar 3)) (Qb (mOp2 pIx (mLit (.str "lr")) (mOp2 pMod (mOp2 Z6 (mVar 8) (mLit (.int 100))) (mLit (.int 2)))) (Qb (mOp2 pMod (mOp2 Z6 (mVar 8) (mLit (.int 300))) (mVar 2)) mNil)))) [some (.fl (ns.map .int)),some (.ref a),some (.int n),some (.int m),some (.ref t),x5,some (.ref l),x7,some (.int mm),x9] g1=.nx [some (.fl (ns.map .int)),some (.ref a),some (.int n),some (.int m),some (.ref t),x5,some (.ref l),x7,some (.int mm),some (.tup [.int (mm/9%m),.str w,.int (mm/300%n)])] g1:=ZI v2
 have t3:Qk (mOp2 pEq (mOp2 pMod (mVar 8) (mLit (.int 9))) (mLit (.int 0))) [some (.fl (ns.map .int)),some (.ref a),some (.int n),some (.int m),some (.ref t),x5,some (.ref l),x7,some (.int mm),some (.tup [.int (mm/9%m),.str w,.int (mm/300%n)])] g1=.ok (mm%9 == 0) g1:=by
  simp[Qk,mOp2,mVar,mLit,Res.bind,pMod,eq_int]
 unfold Zm
 by_cases h9:mm%9=0
 ·refine⟨.non,some (.int mm),.inl rfl,?_⟩
  rw[YZ s1,YZ s2,YZ (σ':=[some (.fl (ns.map .int)),some (.ref a),some (.int n),some (.int m),some (.ref t),x5,some (.ref l),x7,some (.int mm),some .non]) (g':=g1) ?_]
  ·exact Qb1 rfl rfl gl1 hz
  ·rw[QfU (g':=g1) (t3.trans (by simp[h9]))];rfl
 ·refine⟨.tup [.int (mm/9%m),.str w,.int (mm/300%n)],some (.int mm),.inr ⟨_,_,w,rfl,TM _ (by omega),TC _ hm',TM _ (by omega),TC _ hn',ww⟩,?_⟩
  rw[YZ s1,YZ s2,YZ (σ':=[some (.fl (ns.map .int)),some (.ref a),some (.int n),some (.int m),some (.ref t),x5,some (.ref l),x7,some (.int mm),some (.tup [.int (mm/9%m),.str w,.int (mm/300%n)])]) (g':=g1) ?_]
  ·exact Qb1 rfl rfl gl1 hz
  ·rw[Qef (g':=g1) (t3.trans (by simp[h9]))];rfl
theorem Qii{n:Nat}(h:n<=1000):n<SZ:=Wz h (by decide)
theorem Qb2{n:Nat}(h:n<=1000):inR (n:Int):=by
 have:(n:Int)<=1000:=by exact_mod_cast h
 constructor <;> omega
theorem Yc{a:ME}{n:Nat}{σ:S3}{g g':G}(h:a σ g=.ok (.int n) g')(hr:inR (n:Int)):Qx a σ g=.ok (QX 0 n) g':=by
 unfold Qx;rw[h,Res.bind_ok];dsimp only;rw[Ud hr,WN]
theorem QaD{it:MI}{t:MG}{body:MS}{src:Src}{σ:S3}{g g':G}(h:it σ g=.ok src g'):mFor it t body σ g=forL src t body (src.top+1) 0 σ g':=by
 unfold mFor;rw[h]
theorem QjF(ns:List Int)(a l t:Nat)(k:Int)(n m:Nat)(x5 x7 x8 x9:Option D)(g:G)(hn:0<n)(hm:0<m)(hm8:m<=8)(ga:g[a]?=some (.lst [.int k]))(gl:g[l]?=some (.lst []))(hal:a≠l)(hk:0<=k)(hk2:k+m<1000000000):
  ∃row y7 y8 y9 g',mFor (Qx (mVar 3)) (gSet 7) Zm [some (.fl (ns.map .int)),some (.ref a),some (.int n),some (.int m),some (.ref t),x5,some (.ref l),x7,x8,x9] g=.nx [some (.fl (ns.map .int)),some (.ref a),some (.int n),some (.int m),some (.ref t),x5,some (.ref l),y7,y8,y9] g' /\
   row.length=m/\(∀d∈row,entOk d n m)/\Keeps [a,l] g g'/\g'[a]?=some (.lst [.int (k+m)])/\g'[l]?=some (.lst row):=by
 have hr:inR (m:Int):=Qb2 (by omega)
 have hf:mFor (Qx (mVar 3)) (gSet 7) Zm [some (.fl (ns.map .int)),some (.ref a),some (.int n),some (.int m),some (.ref t),x5,some (.ref l),x7,x8,x9] g=forL (QX 0 m) (gSet 7) Zm (m+1) 0 [some (.fl (ns.map .int)),some (.ref a),some (.int n),some (.int m),some (.ref t),x5,some (.ref l),x7,x8,x9] g:=QaD (Yc rfl hr)
 rw[hf]
 obtain⟨σ',g',e,row,y7,y8,y9,h1,h2,h3,h4,h5,h6⟩:=YD (t:=gSet 7) (body:=Zm) (lo:=0) (n:=m) (σ:=[some (.fl (ns.map .int)),some (.ref a),some (.int n),some (.int m),some (.ref t),x5,some (.ref l),x7,x8,x9]) (g:=g)
  (λi σ g1=>∃row y7 y8 y9,σ=[some (.fl (ns.map .int)),some (.ref a),some (.int n),some (.int m),some (.ref t),x5,some (.ref l),y7,y8,y9]/\row.length=i/\(∀d∈row,entOk d n m)/\Keeps [a,l] g g1/\g1[a]?=some (.lst [.int (k+i)])/\g1[l]?=some (.lst row))
  ⟨[],x7,x8,x9,rfl,rfl,by simp,.refl,by simpa using ga,gl⟩ (λi σ g1 hi ⟨row,y7,y8,y9,h1,h2,h3,h4,h5,h6⟩=>by
   subst h1
   obtain⟨d,x8',hd,e⟩:=Qih ns a l t (k+i) n m x5 (some (.int (0+i))) y8 y9 row g1 hn hm h5 h6 hal (by omega) (by omega) (Qii (by omega))
   refine⟨_,_,_,rfl,e,row++[d],_,x8',_,rfl,by simp[h2],?_,?_,?_,?_⟩
   ·intro x hx
    rcases Ta.mp hx with z|z
    ·exact h3 x z
    ·rw[Uz.mp z];exact hd
   ·exact h4.trans (((Keeps.set a _).mono (by simp)).trans ((Keeps.set l _).mono (by simp)))
   ·rw[Uh (Ne.symm hal),QH h5]
    simp;omega
   ·refine QH (o:=.lst row) ?_
    rw[Uh hal];exact h6)
 exact⟨row,y7,y8,y9,g',by rw[e,h1],h2,h3,h4,h5,h6⟩
theorem om1{a b c:Nat}(h1:a<b)(h2:b<c):a≠c:=by omega
theorem om2{k x:Int}(h1:0<=k)(h2:0<=x):0<=k+x:=by omega
theorem om3{k x:Int}{m:Nat}(h1:k<900000000)(h2:x<=96)(h3:m<=8):k+x+m<1000000000:=by omega
theorem om7{a b c:Nat}{ds:List D}(h2:ds.length=a)(hi:a<b)(h3:b<=12):ds.length<=1000:=by omega
noncomputable def tabOf(N:Nat)(g:G)(t:Nat)(rows:List (List D)):Prop:=N<=t/\∃ds,g[t]?=some (.lst ds)/\ds.length=rows.length/\∀(i:Nat) x r,ds[i]?=some x->rows[i]?=some r->∃n,x=.ref n/\N<=n/\n≠t/\g[n]?=some (.lst r)
theorem tabOf.rows{N:Nat}{g:G}{t:Nat}{rows:List (List D)}(h:tabOf N g t rows):rowsOf g (.ref t) rows:=by
 obtain⟨_,ds,h1,h2,h3⟩:=h
 refine⟨true,ds,by simp[QB,h1],h2,λi x r hx hr=>?_⟩
 obtain⟨n,rfl,_,_,h4⟩:=h3 i x r hx hr
 exact⟨true,by simp[QB,h4]⟩
theorem tabOf.mono{N:Nat}{S:List Nat}{g g1:G}{t:Nat}{rows:List (List D)}(h:tabOf N g t rows)(k:Keeps S g g1)(hS:∀n∈S,n<N):tabOf N g1 t rows:=by
 obtain⟨h0,ds,h1,h2,h3⟩:=h
 refine⟨h0,ds,k.at' t _ (λz=>by have:=hS t z;omega) h1,h2,λi x r hx hr=>?_⟩
 obtain⟨n,h4,h5,h6,h7⟩:=h3 i x r hx hr
 exact⟨n,h4,h5,h6,k.at' n _ (λz=>by have:=hS n z;omega) h7⟩
theorem QjG(ns:List Int)(a:Nat)(k:Int)(n m:Nat)(g:G)(hn:0<n)(hm:0<m)(hn12:n<=12)(hm8:m<=8)(ga:g[a]?=some (.lst [.int k]))(hk:0<=k)(hk2:k<900000000):
  ∃rows g',QbY [.fl (ns.map .int),.ref a,.int n,.int m] g=.ok (.ref g.length) g'/\Keeps [a] g g'/\g'[a]?=some (.lst [.int (k+n*m)])/\tabOf g.length g' g.length rows/\rows.length=n/\(∀r∈rows,r.length=m)/\∀r∈rows,∀d∈r,entOk d n m:=by
 have hr:inR (n:Int):=Qb2 (by omega)
 have hal:a<g.length:=Yb ga
 have hz0:([]:List D).length<=SZ:=by simp
 have s1:mAsg (gSet 4) (mOpA newL mNil) [some (.fl (ns.map .int)),some (.ref a),some (.int n),some (.int m),none,none,none,none,none,none] g=.nx [some (.fl (ns.map .int)),some (.ref a),some (.int n),some (.int m),some (.ref g.length),none,none,none,none,none] (g++[.lst []]) :=
  ZI (by simp[mOpA,mNil,Res.bind,newL])
 have kp:Keeps [a] g (g++[.lst []]):=.push _
 have ga1:(g++[.lst []])[a]?=some (.lst [.int k]):=(Keeps.push (S:=[]) (.lst [])).at' a _ (by simp) ga
 have gt1:(g++[.lst []])[g.length]?=some (.lst []):=QQ _
 have hl1:g.length<(g++[GO.lst []]).length:=by simp
 generalize g++[.lst []]=g1 at s1 kp ga1 gt1 hl1
 obtain⟨σ',g',e,ds,rows,y5,y6,y7,y8,y9,h1,h2,h3,h4,h5,h6,h7,h8,h9⟩:=YD (t:=gSet 5) (body:=YY) (lo:=0) (n:=n) (σ:=[some (.fl (ns.map .int)),some (.ref a),some (.int n),some (.int m),some (.ref g.length),none,none,none,none,none]) (g:=g1)
  (λi σ g2=>∃ds rows y5 y6 y7 y8 y9,σ=[some (.fl (ns.map .int)),some (.ref a),some (.int n),some (.int m),some (.ref g.length),y5,y6,y7,y8,y9]/\ds.length=i/\rows.length=i/\Keeps [a,g.length] g1 g2/\g2[a]?=some (.lst [.int (k+i*m)])/\g2[g.length]?=some (.lst ds) /\
   (∀(i:Nat) x r,ds[i]?=some x->rows[i]?=some r->∃n,x=.ref n/\g.length<n/\g2[n]?=some (.lst r))/\(∀r∈rows,r.length=m)/\∀r∈rows,∀d∈r,entOk d n m)
  ⟨[],[],none,none,none,none,none,rfl,rfl,rfl,.refl,by simpa using ga1,gt1,by simp,by simp,by simp⟩ (λi σ g2 hi ⟨ds,rows,y5,y6,y7,y8,y9,h1,h2,h3,h4,h5,h6,h7,h8,h9⟩=>by
   subst h1
   have hl2:g.length<g2.length:=Yb h6
   have q1:mAsg (gSet 6) (mOpA newL mNil) [some (.fl (ns.map .int)),some (.ref a),some (.int n),some (.int m),some (.ref g.length),some (.int (0+i)),y6,y7,y8,y9] g2=.nx [some (.fl (ns.map .int)),some (.ref a),some (.int n),some (.int m),some (.ref g.length),some (.int (0+i)),some (.ref g2.length),y7,y8,y9] (g2++[.lst []]) :=
    ZI (by simp[mOpA,mNil,Res.bind,newL])
   have k3:Keeps [] g2 (g2++[.lst []]):=.push _
   have gl3:(g2++[.lst []])[g2.length]?=some (.lst []):=QQ _
   generalize g2++[.lst []]=g3 at q1 k3 gl3
   have him:(i:Int)*m<=96:=by
    have:i*m<=12*8:=Nat.mul_le_mul (by omega) hm8
    exact_mod_cast this
   have him0:(0:Int)<=(i:Int)*m:=Int.mul_nonneg (by omega) (by omega)
   obtain⟨row,z7,z8,z9,g4,e4,r1,r2,r3,r4,r5⟩:=QjF ns a g2.length g.length (k+i*m) n m (some (.int (0+i))) y7 y8 y9 g3 hn hm hm8 (k3.at' a _ (by simp) h5) gl3 (om1 hal hl2) (om2 hk him0) (om3 hk2 him hm8)
   have gt4:g4[g.length]?=some (.lst ds):=r3.at' _ _ (by simp;omega) (k3.at' _ _ (by simp) h6)
   refine⟨_,[some (.fl (ns.map .int)),some (.ref a),some (.int n),some (.int m),some (.ref g.length),some (.int (0+i)),some (.ref g2.length),z7,z8,z9],g4.set g.length (.lst (ds++[.ref g2.length])),rfl,?_,ds++[.ref g2.length],rows++[row],_,_,z7,z8,z9,rfl,by simp[h2],by simp[h3],?_,?_,?_,?_,?_,?_⟩
   ·show YY [some (.fl (ns.map .int)),some (.ref a),some (.int n),some (.int m),some (.ref g.length),some (.int (0+i)),y6,y7,y8,y9] g2=_
    unfold YY
    rw[YZ q1,YZ e4]
    exact Qb1 rfl rfl gt4 (Qii (om7 (c:=0) h2 hi hn12))
   ·refine⟨by rw[T8];exact Ut h4.len (Ut k3.len r3.len),λb o hb eb=>?_⟩
    have hb':b≠a/\b≠g.length:=by simpa using hb
    have e2:=h4.at' b o hb eb
    have:b<g2.length:=Yb e2
    rw[Uh (Ne.symm hb'.2)]
    exact r3.at' b o (by simp;omega) (k3.at' b o (by simp) e2)
   ·rw[Uh (by omega),r4]
    have:k+(i:Int)*m+m=k+((i+1:Nat):Int)*m:=by
     rw[Bd,Int.add_mul];simp;omega
    rw[this]
   ·exact QH gt4
   ·intro j x r hx hr'
    have key:∀b o,g.length<b->g2[b]?=some o->(g4.set g.length (.lst (ds++[.ref g2.length])))[b]?=some o:=λb o hb eb=>by
     have:b<g2.length:=Yb eb
     rw[Uh (by omega)]
     exact r3.at' b o (by simp;omega) (k3.at' b o (by simp) eb)
    by_cases hj:j<i
    ·rw[Uy (by omega)]at hx hr'
     obtain⟨b,hb1,hb2,hb3⟩:=h7 j x r hx hr'
     exact⟨b,hb1,hb2,key b _ hb2 hb3⟩
    ·have hji:j=i:=by
      have:=(Up.mp hx).1
      simp at this;omega
     subst hji
     rw[Uu (by omega),h2]at hx
     rw[Uu (by omega),h3]at hr'
     simp at hx hr'
     subst hx hr'
     exact⟨g2.length,rfl,hl2,by rw[Uh (by omega)];exact r5⟩
   ·intro r hr'
    rcases Ta.mp hr' with z|z
    ·exact h8 r z
    ·rw[Uz.mp z];exact r1
   ·intro r hr'
    rcases Ta.mp hr' with z|z
    ·exact h9 r z
    ·rw[Uz.mp z];exact r2)
 refine⟨rows,g',?_,?_,h5,⟨Uc _,ds,h6,by omega,λi x r hx hr'=>?_⟩,h3,h8,h9⟩
 ·refine QS rfl ?_
  show QbX [some (.fl (ns.map .int)),some (.ref a),some (.int n),some (.int m),none,none,none,none,none,none] g=_
  unfold QbX
  rw[YZ s1,YZ (σ':=σ') (g':=g') ?_]
  ·subst h1;rfl
  ·rw[<-e]
   exact QaD (Yc rfl hr)
 ·refine⟨Ut kp.len h4.len,λb o hb eb=>?_⟩
  have:b<g.length:=Yb eb
  exact h4.at' b o (by simp at hb ⊢;omega) (kp.at' b o hb eb)
 ·obtain⟨b,hb1,hb2,hb3⟩:=h7 i x r hx hr'
  exact⟨b,hb1,by omega,by omega,hb3⟩
theorem Qg{a b:MS}{σ:S3}{g:G}{R:Out}(σ':S3)(g':G)(h:a σ g=.nx σ' g')(h2:b σ' g'=R):mSeq a b σ g=R:=(YZ h).trans h2
theorem ift{c:MT}{a b:MS}{σ:S3}{g:G}{R:Out}(g':G)(h:c σ g=.ok true g')(h2:a σ g'=R):mIf c a b σ g=R:=(QfU h).trans h2
theorem iff'{c:MT}{a b:MS}{σ:S3}{g:G}{R:Out}(g':G)(h:c σ g=.ok false g')(h2:b σ g'=R):mIf c a b σ g=R:=(Qef h).trans h2
theorem eq_str(s t:Str)(g:G):pEq (.str s) (.str t) g=.ok (.bl (s == t)) g:=rfl
theorem mulL{i j:Int}{g:G}(h:cM i):pMul (.int i) (.int j) g=.ok (.int (i*j)) g:=Ud (.inl h)
theorem mulR{i j:Int}{g:G}(h:cM j):pMul (.int i) (.int j) g=.ok (.int (i*j)) g:=Ud (.inr h)
theorem QaE{k n:Nat}{b:MS}{ds:List D}{σ:S3}{g g':G}(hl:ds.length=k)(h:b (ds.map some++List.replicate n none) g=.nx σ g'):mDef k n b ds g=.ok .non g':=by unfold mDef;rw[Ud hl,h]
theorem Qeg{k n:Nat}{b:MS}{ds:List D}{x:Xc}{σ:S3}{g g':G}(hl:ds.length=k)(h:b (ds.map some++List.replicate n none) g=.raise x σ g'):mDef k n b ds g=.raise x g':=by unfold mDef;rw[Ud hl,h]
theorem Y0{f:D->D->G->Res D}{a b:ME}{σ:S3}{x y:D}{g g1 g2:G}{R:Res D}(ha:a σ g=.ok x g1)(hb:b σ g1=.ok y g2)(h:f x y g2=R):mOp2 f a b σ g=R:=by unfold mOp2;rw[ha,Res.bind_ok,hb,Res.bind_ok,h]
theorem JR{f:D->G->Res D}{a:ME}{σ:S3}{x:D}{g g1:G}{R:Res D}(ha:a σ g=.ok x g1)(h:f x g1=R):mOp1 f a σ g=R:=by unfold mOp1;rw[ha,Res.bind_ok,h]
theorem YG{a:ME}{σ:S3}{b:Bool}{g g1:G}(ha:a σ g=.ok (.bl b) g1):Qk a σ g=.ok b g1:=by unfold Qk;rw[ha,Res.bind_ok]
theorem Qv{a:ME}{r:MA}{x:D}{xs:List D}{σ:S3}{g g1 g2:G}(h:a σ g=.ok x g1)(h2:r σ g1=.ok xs g2):Qb a r σ g=.ok (x::xs) g2:=by
 unfold Qb;rw[h,Res.bind_ok,h2];rfl
theorem Qij{n:Nat}{ds:List D}{y:D}{σ:S3}{g:G}{o e:ME}(ho:o σ g=.ok (.ref n) g)(h:g[n]?=some (.lst ds))(he:e σ g=.ok y g)(hz:ds.length<SZ):
  Zw (Yu o e) σ g=.nx σ (g.set n (.lst (ds++[y]))):=by
 refine Qds (d:=.non) ?_
 simp[Yu,ho,he,Res.bind,h,hz]
theorem entOk.good{rows:List (List D)}{n m:Nat}(hn:0<n)(hm:0<m)(h1:rows.length=n)(h2:∀r∈rows,r.length=m)(h3:∀r∈rows,∀d∈r,entOk d n m):QaC rows=true:=by
 cases rows with
 |nil=>simp at h1;omega
 |cons q rest =>
  have hq:=h2 q (Uv ..)
  unfold QaC
  rw[UR,Tp]
  refine⟨by simp;intro z;rw[z]at hq;simp at hq;omega,λx hx=>?_⟩
  unfold YF
  rw[UR,Tp]
  exact⟨by simp[h2 x hx,hq],λd hd=>by rw[h1,hq];exact(h3 x hx d hd).ent⟩
theorem Qe6{it:MI}{n:Nat}{cap:List Nat}{t:MG}{c:MT}{e:ME}{σ:S3}{g g1 g2:G}{src:Src}{ds:List D}{σ0:S3}(h1:it σ g=.ok src g1)(hz:src.top<=SZ)(hc:capt n cap σ=σ0)(h2:JB src t c e (src.top+1) 0 σ0 g1 []=.ok ds g2):JC it n cap t c e σ g=.ok (.ref g2.length) (g2++[.lst ds]):=by
 simp only[JC,h1,hz,hc,h2,Wj]
theorem QlB{g:G}{d1 d2:D}{b1 b2:Bool}{xs ys:List D}(h1:QB g d1=some (b1,xs))(h2:QB g d2=some (b2,ys))(hl:xs.length=ys.length):
  ∃src,QcE d1 d2 g=.ok src g/\src.top=xs.length/\∀g1,QB g1 d1=some (b1,xs)->QB g1 d2=some (b2,ys)->src.at' g1 xs.length=some none/\∀(i:Nat) x y,xs[i]?=some x->ys[i]?=some y->src.at' g1 i=some (some (.tup [x,y])):=by
 unfold QcE
 rw[h1,h2]
 refine⟨_,rfl,by simp[hl],λg1 q1 q2=>⟨?_,λi x y hx hy=>?_⟩⟩
 ·dsimp only;rw[q1,q2];dsimp only;rw[Tx (Uc _)]
 ·dsimp only;rw[q1,q2];dsimp only;rw[hx,hy]
theorem QnC{a b:MT}{σ:S3}{g g1 g2:G}(h1:a σ g=.ok true g1)(h2:b σ g1=.ok true g2):mOrT (Jl a) (Jl b) σ g=.ok false g2:=by
 unfold mOrT Jl
 rw[h1,Res.bind_ok,Res.bind_ok]
 show(if (!true)=true then Res.ok true g1 else _)=_
 rw[Ue (by decide),h2];rfl
theorem QnD{a:MT}{σ:S3}{g g1:G}(h1:a σ g=.ok true g1):Jl a σ g=.ok false g1:=by unfold Jl;rw[h1];rfl
noncomputable def srcL(a:Nat)(n:Nat):Src:=⟨λg i=>(match g[a]? with|some (.lst es)=>some es[i]? | _=>none),n⟩
noncomputable def rS:Str:=⟨#[114]⟩
noncomputable def lS:Str:=⟨#[108]⟩
theorem QnE{a b:MT}{σ:S3}{g g1 g2:G}(h1:a σ g=.ok false g1)(h2:b σ g1=.ok false g2):mOrT a b σ g=.ok false g2:=by
 unfold mOrT;rw[h1,Res.bind_ok,Ue Ug,h2]
theorem Qaf{t p:Nat}{ds:List D}{d:D}{g:G}(h:g[t]?=some (.lst ds))(hp:ds[p]?=some d):pIx (.ref t) (.int p) g=.ok d g:=by
 have hl:p<ds.length:=(Up.mp hp).1
 unfold pIx;dsimp only;rw[h];dsimp only
 unfold atD ixD
 rw[Ud (by omega),Ud (by omega)]
 simp[hp]
theorem QnF{t:Nat}{i:Int}{ds:List D}{d:D}{g:G}(h:g[t]?=some (.lst ds))(h0:0<=i)(hp:ds[i.toNat]?=some d):pIx (.ref t) (.int i) g=.ok d g:=by
 have e:((i.toNat:Nat):Int)=i:=by omega
 rw[<-e];exact Qaf h hp
theorem QfV{n k:Nat}{ds:List D}{y:D}{σ:S3}{g g1:G}{o i v:ME}(hv:v σ g=.ok y g1)(ho:o σ g1=.ok (.ref n) g1)(hi:i σ g1=.ok (.int k) g1)(h:g1[n]?=some (.lst ds))(hk:k<ds.length):
  YQ o i v σ g=.nx σ (g1.set n (.lst (ds.set k y))):=by
 unfold YQ
 rw[hv];dsimp only
 rw[ho];dsimp only
 rw[hi];dsimp only
 rw[h];dsimp only
 have:ixD ds.length (k:Int)=some k:=by unfold ixD;rw[Ud (by omega),Ud (by omega)];simp
 rw[this]
theorem Qb3{g:G}{l:Nat}{ds:List D}(h:g[l]?=some (.lst ds)):QB g (.ref l)=some (true,ds):=by unfold QB;dsimp only;rw[h]
section
variable{σ:S3}{g:G}
@[simp] theorem QnG{a b:MS}:mSeq a b σ g=(match a σ g with | .nx σ' g'=>b σ' g'|o=>o):=rfl
@[simp] theorem QoP{i:Nat}{a:ME}:mAsg (gSet i) a σ g=(match a σ g with | .ok d g'=>.nx (σ.set i (some d)) g' | .raise e g'=>.raise e σ g' | .stuck=>.stuck):=rfl
@[simp] theorem Qo5{c:MT}{a b:MS}:mIf c a b σ g=(match c σ g with | .ok t g'=>if t=true then a σ g' else b σ g' | .raise e g'=>.raise e σ g' | .stuck=>.stuck):=rfl
@[simp] theorem QnH{a:ME}:mRet a σ g=(match a σ g with | .ok d g'=>.rt d g' | .raise e g'=>.raise e σ g' | .stuck=>.stuck):=rfl
@[simp] theorem QoA{a:ME}:Zw a σ g=(match a σ g with | .ok _ g'=>.nx σ g' | .raise e g'=>.raise e σ g' | .stuck=>.stuck):=rfl
@[simp] theorem QoB:Qk1 σ g=.rt .non g:=rfl
@[simp] theorem QoC:QG σ g=.nx σ g:=rfl
@[simp] theorem Qik{i:Nat}:mVar i σ g=(match σ[i]? with|some (some d)=>.ok d g|_=>.stuck):=rfl
@[simp] theorem Qko{d:D}:mLit d σ g=.ok d g:=rfl
@[simp] theorem QnI{f:D->G->Res D}{a:ME}:mOp1 f a σ g=(match a σ g with | .ok x g1=>f x g1 | .raise e g'=>.raise e g' | .stuck=>.stuck):=by unfold mOp1 Res.bind;cases a σ g <;> rfl
@[simp] theorem Qkp{f:D->D->G->Res D}{a b:ME}:mOp2 f a b σ g=(match a σ g with | .ok x g1=>(match b σ g1 with | .ok y g2=>f x y g2 | .raise e g'=>.raise e g' | .stuck=>.stuck) | .raise e g'=>.raise e g' | .stuck=>.stuck):=by unfold mOp2 Res.bind;cases a σ g with|ok x g1=>dsimp only;cases b σ g1 <;> rfl|_=>rfl
@[simp] theorem QoQ:mNil σ g=.ok [] g:=rfl
@[simp] theorem QoD{a:ME}{r:MA}:Qb a r σ g=(match a σ g with | .ok x g1=>(match r σ g1 with | .ok xs g2=>.ok (x::xs) g2 | .raise e g'=>.raise e g' | .stuck=>.stuck) | .raise e g'=>.raise e g' | .stuck=>.stuck):=by unfold Qb Res.bind;cases a σ g with|ok x g1=>dsimp only;cases r σ g1 <;> rfl|_=>rfl
@[simp] theorem QoR{f:List D->G->Res D}{a:MA}:mOpA f a σ g=(match a σ g with | .ok x g1=>f x g1 | .raise e g'=>.raise e g' | .stuck=>.stuck):=by unfold mOpA Res.bind;cases a σ g <;> rfl
@[simp] theorem QoE{f:MF}{a:MA}:Qo f a σ g=(match a σ g with | .ok x g1=>f x g1 | .raise e g'=>.raise e g' | .stuck=>.stuck):=by unfold Qo Res.bind;cases a σ g <;> rfl
@[simp] theorem QlC{a:ME}:Qk a σ g=(match a σ g with | .ok (.bl b) g1=>.ok b g1 | .raise e g'=>.raise e g'|_=>.stuck):=by unfold Qk Res.bind;cases a σ g with|ok d g1=>cases d <;> rfl|_=>rfl
@[simp] theorem QlD{a b:MT}:QaN a b σ g=(match a σ g with | .ok c g1=>if c=true then b σ g1 else .ok false g1 | .raise e g'=>.raise e g' | .stuck=>.stuck):=by unfold QaN Res.bind;cases a σ g <;> rfl
@[simp] theorem Qkq{a b:MT}:mOrT a b σ g=(match a σ g with | .ok c g1=>if c=true then .ok true g1 else b σ g1 | .raise e g'=>.raise e g' | .stuck=>.stuck):=by unfold mOrT Res.bind;cases a σ g <;> rfl
@[simp] theorem Qil{a:MT}:Jl a σ g=(match a σ g with | .ok c g1=>.ok (!c) g1 | .raise e g'=>.raise e g' | .stuck=>.stuck):=by unfold Jl Res.bind;cases a σ g <;> rfl
@[simp] theorem QoS{c:MT}{a b:ME}:mIfE c a b σ g=(match c σ g with | .ok t g1=>if t=true then a σ g1 else b σ g1 | .raise e g'=>.raise e g' | .stuck=>.stuck):=by unfold mIfE Res.bind;cases c σ g <;> rfl
@[simp] theorem QoT{a b:ME}:mAnd a b σ g=(match a σ g with | .ok (.bl c) g1=>if c=true then b σ g1 else .ok (.bl false) g1 | .raise e g'=>.raise e g'|_=>.stuck):=by unfold mAnd Res.bind;cases a σ g with|ok d g1=>cases d <;> rfl|_=>rfl
@[simp] theorem Qkr{i j:Int}:pAdd (.int i) (.int j) g=.ok (.int (i+j)) g:=rfl
@[simp] theorem QoU{i j:Int}:pSub (.int i) (.int j) g=.ok (.int (i-j)) g:=rfl
@[simp] theorem QoV{i:Int}:pNeg (.int i) g=.ok (.int (-i)) g:=rfl
@[simp] theorem Qo6{i j:Int}:pLt (.int i) (.int j) g=.ok (.bl (decide (i<j))) g:=rfl
@[simp] theorem Qo7{i j:Int}:pLe (.int i) (.int j) g=.ok (.bl (decide (i<=j))) g:=rfl
@[simp] theorem Qo8{i j:Int}:pGt (.int i) (.int j) g=.ok (.bl (decide (j<i))) g:=rfl
@[simp] theorem Qo9{i j:Int}:pGe (.int i) (.int j) g=.ok (.bl (decide (j<=i))) g:=rfl
@[simp] theorem Qpa{i j:Int}:pEq (.int i) (.int j) g=.ok (.bl (i == j)) g:=rfl
@[simp] theorem Qpb{i j:Int}:pNe (.int i) (.int j) g=.ok (.bl (!(i == j))) g:=rfl
theorem JA{n:Nat}{ds:List D}(h:g[n]?=some (.lst ds)):pLen (.ref n) g=.ok (.int ds.length) g:=by simp[pLen,h]
theorem QfW{n:Nat}{ds:List D}{d:D}(h:g[n]?=some (.lst (d::ds).reverse)):pIx (.ref n) (.int (-1)) g=.ok d g:=by
 have e:(-1+((ds.length:Int)+1)).toNat=ds.length:=by omega
 have e1:(1:Int)<=(ds.length:Int)+1:=by omega
 simp[pIx,h,atD,ixD,e,e1]
theorem ix_tup{ds:List D}{n:Nat}{d:D}(h:ds[n]?=some d):pIx (.tup ds) (.int n) g=.ok d g:=by
 obtain⟨this,e⟩:=Up.mp h
 simp[pIx,atD,ixD,this,e]
@[simp] theorem QoW{d:D}{ds:List D}:pIx (.tup (d::ds)) (.int 0) g=.ok d g:=ix_tup (n:=0) rfl
@[simp] theorem QoX{c d:D}{ds:List D}:pIx (.tup (c::d::ds)) (.int 1) g=.ok d g:=ix_tup (n:=1) rfl
@[simp] theorem QoY{b c d:D}{ds:List D}:pIx (.tup (b::c::d::ds)) (.int 2) g=.ok d g:=ix_tup (n:=2) rfl
@[simp] theorem QoZ{a b c d:D}{ds:List D}:pIx (.tup (a::b::c::d::ds)) (.int 3) g=.ok d g:=ix_tup (n:=3) rfl
end
noncomputable abbrev Sts:=List (Int×Int)
noncomputable def putN(s:Sts)(sg c:Int):Sts:=if c<1 then s else match s with
 |[]=>if sg=0 then [] else [(sg,c)]
 | (t,k)::r=>if t=sg then (sg,k+c)::r else (sg,c)::(t,k)::r
noncomputable def QA(s:Sts)(c:Int):Sts:=match s with
 |[]=>[]
 | (t,k)::r=>putN r t (k-c)
noncomputable def QD:Sts->Int
 |[]=>0
 | (t,_)::_=>t
noncomputable def Ql(s:Sts)(sg most:Int):Int:=if QD s=sg then (match s with | []=>most|(_,k)::_=>if most<k then most else k) else 0
noncomputable def Zv(m:Int):Sts->Prop
 |[]=>True
 | (t,k)::r=>0<=t/\t<m/\1<=k/\QD r≠t/\Zv m r
theorem Qbr{s:Sts}{t c:Int}(h:QD s≠t):putN s t c=if c<1 then s else (t,c)::s:=by
 unfold putN
 split
 ·rfl
 ·cases s with
  |nil=>have:¬t=0:=λe=>h e.symm;simp[this]
  |cons p r=>obtain⟨u,k⟩:=p;have:¬u=t:=h;simp[this]
theorem QaF{m:Int}{s:Sts}{t c:Int}(h:Zv m s)(h0:0<=t)(h1:t<m):Zv m (putN s t c):=by
 unfold putN
 split
 ·exact h
 ·cases s with
  |nil=>dsimp only;split <;> simp_all [Zv,QD];omega
  |cons p r =>
   obtain⟨u,k⟩:=p
   dsimp only
   split
   ·subst u;simp only[Zv]at h ⊢;exact⟨h.1,h.2.1,by omega,h.2.2.2⟩
   ·rename_i hu
    exact⟨h0,h1,by omega,hu,h⟩
theorem Je{m:Int}{s:Sts}{c:Int}(h:Zv m s):Zv m (QA s c):=by
 cases s with
 |nil=>exact h
 |cons p r=>exact QaF h.2.2.2.2 h.1 h.2.1
theorem drop_zero{m:Int}{s:Sts}(h:Zv m s):QA s 0=s:=by
 cases s with
 |nil=>rfl
 |cons p r =>
  obtain⟨t,k⟩:=p
  show putN r t (k-0)=_
  have:=h.2.2.1
  rw[Qbr h.2.2.2.1,Ue (by omega)]
  simp
theorem QjH{s:Sts}{t:Int}:putN s t 0=s:=by unfold putN;simp
theorem Qim{s:Sts}{t a b:Int}(ha:1<=a)(hb:1<=b):putN (putN s t a) t b=putN s t (a+b):=by
 have h1:¬a<1:=by omega
 have h2:¬b<1:=by omega
 have h3:¬a+b<1:=by omega
 cases s with
 |nil=>by_cases e:t=0 <;> simp[putN,e,h1,h2,h3]
 |cons p r=>obtain⟨u,k⟩:=p;by_cases e:u=t <;> simp[putN,e,h1,h2,h3,Int.add_assoc]
theorem Qeh{m:Int}{s:Sts}{t c n:Int}(h:Zv m s)(ht:QD s=t)(h0:0<=c)(hc:c<Ql s t n):QD (QA s c)=t/\Ql (QA s c) t (n-c)=Ql s t n-c/\∀e,0<=e->QA (QA s c) e=QA s (c+e):=by
 cases s with
 |nil =>
  have:t=0:=ht.symm
  subst this
  refine⟨rfl,?_,λ_ _=>rfl⟩
  show Ql [] 0 (n-c)=_
  simp[Ql,QD]
 |cons p r =>
  obtain⟨u,k⟩:=p
  have:u=t:=ht
  subst this
  have hn:=h.2.2.2.1
  have e1:Ql ((u,k)::r) u n=if n<k then n else k:=by simp[Ql,QD]
  rw[e1]at hc ⊢
  have hck:c<k:=by split at hc <;> omega
  have e2:QA ((u,k)::r) c=(u,k-c)::r:=by
   show putN r u (k-c)=_
   rw[Qbr hn,Ue (by omega)]
  rw[e2]
  refine⟨rfl,?_,λe _=>?_⟩
  ·have:Ql ((u,k-c)::r) u (n-c)=if n-c<k-c then n-c else k-c:=by simp[Ql,QD]
   rw[this];split <;> split <;> omega
  ·show putN r u (k-c-e)=putN r u (k - (c+e))
   congr 1;omega
theorem QjI{s:Sts}{t n:Int}(h:0<=n):Ql s t n<=n:=by
 unfold Ql
 split
 ·split
  ·omega
  ·split <;> omega
 ·omega
theorem Qin{m:Int}{s:Sts}{t n:Int}(hg:Zv m s)(h:0<=n):0<=Ql s t n:=by
 unfold Ql
 split
 ·split
  ·omega
  ·have:=hg.2.2.1;split <;> omega
 ·omega
theorem QgJ{s:Sts}{t c n:Int}(h:c<=n):Ql s t c=(if Ql s t n<=c then Ql s t n else c)\/(QD s≠t/\Ql s t c=0/\Ql s t n=0):=by
 by_cases e:QD s=t
 ·left
  unfold Ql
  rw[Ud e,Ud e]
  split
  ·split <;> omega
  ·split <;> split <;> split <;> omega
 ·right;unfold Ql;rw[Ue e,Ue e];exact⟨e,rfl,rfl⟩
theorem QgK{m:Int}{s:Sts}{t c n:Int}(h:Zv m s)(ht:QD s=t)(h0:0<=c)(hc:c<=Ql s t n):Ql (QA s c) t (n-c)=Ql s t n-c:=by
 cases s with
 |nil =>
  have:t=0:=ht.symm
  subst this
  show Ql [] 0 (n-c)=_
  simp[Ql,QD]
 |cons p r =>
  obtain⟨u,k⟩:=p
  have:u=t:=ht
  subst this
  have hn:=h.2.2.2.1
  have e1:Ql ((u,k)::r) u n=if n<k then n else k:=by simp[Ql,QD]
  rw[e1]at hc ⊢
  show Ql (putN r u (k-c)) u (n-c)=_
  rw[Qbr hn]
  by_cases z:k-c<1
  ·rw[Ud z]
   have:Ql r u (n-c)=0:=by unfold Ql;rw[Ue hn]
   rw[this];split at hc <;> split <;> omega
  ·rw[Ue z]
   have:Ql ((u,k-c)::r) u (n-c)=if n-c<k-c then n-c else k-c:=by simp[Ql,QD]
   rw[this];split <;> split <;> omega
theorem QfX{m:Int}{A:Sts}{own c w:Int}(hA:Zv m A)(h1:1<=c)(hw:c<=w):
  (1+Ql A own (c-1)=1+Ql A own (w-1)/\1+Ql A own (w-1)<=c) \/
  (1+Ql A own (c-1)=c/\c<1+Ql A own (w-1)/\QD (QA A (c-1))=own/\1+Ql (QA (QA A (c-1)) 1) own (w-c-1)=1+Ql A own (w-1) - c /\
   QA (QA (QA A (c-1)) 1) (1+Ql A own (w-1) - c-1)=QA A (1+Ql A own (w-1) - 1)):=by
 rcases QgJ (s:=A) (t:=own) (show c-1<=w-1 by omega) with e|⟨_,e1,e2⟩
 ·by_cases z:Ql A own (w-1)<=c-1
  ·rw[Ud z]at e;left;omega
  ·rw[Ue z]at e
   have hn:QD A=own:=by
    apply WE;intro hn
    have:Ql A own (w-1)=0:=by unfold Ql;rw[Ue hn]
    omega
   obtain⟨q1,_,q3⟩:=Qeh hA hn (show 0<=c-1 by omega) (show c-1<Ql A own (w-1) by omega)
   have q4:=q3 1 (by omega)
   rw[show c-1+1=c by omega]at q4
   have q5:=QgK hA hn (show 0<=c by omega) (show c<=Ql A own (w-1) by omega)
   rw[show w-1-c=w-c-1 by omega]at q5
   right
   refine⟨by omega,by omega,q1,by rw[q4,q5];omega,?_⟩
   rw[q4]
   by_cases y:c<Ql A own (w-1)
   ·rw[(Qeh hA hn (show 0<=c by omega) y).2.2 _ (by omega)];congr 1;omega
   ·rw[show 1+Ql A own (w-1) - c-1=0 by omega,drop_zero (Je hA)];congr 1;omega
 ·left;omega
structure RowN where
 st:Nat
 L:Sts
 own:Int
 R:Sts
noncomputable def QF(b:Int)(st:Nat)(A:Sts)(own w:Int):Int:=if b=(st:Int) then 1+Ql A own (w-1) else 1
noncomputable def ZY(d:D)(S:RowN)(w:Int):Option (RowN×Int×Int):=match d with
 |.tup [.int a,.str y,.int b]=>some (if y=rS then (⟨b.toNat,putN S.L a (QF b S.st S.R S.own w),QD (QA S.R (QF b S.st S.R S.own w-1)),QA (QA S.R (QF b S.st S.R S.own w-1)) 1⟩,QF b S.st S.R S.own w,QF b S.st S.R S.own w)
  else (⟨b.toNat,QA (QA S.L (QF b S.st S.L S.own w-1)) 1,QD (QA S.L (QF b S.st S.L S.own w-1)),putN S.R a (QF b S.st S.L S.own w)⟩,QF b S.st S.L S.own w,-QF b S.st S.L S.own w))
 |_=>none
noncomputable def Qb4(rows:List (List D))(s c:Nat):Option D:=(rows[s]?).bind λr=>r[c]?
noncomputable def Yi(rows:List (List D))(S:RowN)(n:Int):Option (RowN×Int×Int):=(Qb4 rows S.st S.own.toNat).bind λd=>ZY d S n
noncomputable def runN(rows:List (List D)):Nat->RowN->Int->Option (RowN×Int×Int×Int)
 |0,S,n=>if n<=0 then some (S,0,0,0) else match Yi rows S n with
  |none=>some (S,0,0,0)
  |some _=>none
 |k+1,S,n=>if n<=0 then some (S,0,0,0) else match Yi rows S n with
  |none=>some (S,0,0,0)
  |some r=>(runN rows k r.1 (n-r.2.1)).map λq=>(q.1,r.2.2+q.2.1,r.2.1+q.2.2.1,q.2.2.2+1)
structure OkN(n m:Nat)(S:RowN):Prop where
 st:S.st<n
 o0:0<=S.own
 o1:S.own<m
 L:Zv m S.L
 R:Zv m S.R
theorem Qe7{m:Nat}{s:Sts}(h:Zv m s)(hm:0<m):0<=QD s/\QD s<m:=by
 cases s with
 |nil=>exact⟨U8 _,by show(0:Int)<m;omega⟩
 |cons p r=>exact⟨h.1,h.2.1⟩
theorem Qdt{m b w:Int}{st:Nat}{A:Sts}{own:Int}(h:Zv m A)(hw:1<=w):1<=QF b st A own w/\QF b st A own w<=w:=by
 unfold QF
 split
 ·have:=QjI (s:=A) (t:=own) (show 0<=w-1 by omega)
  have:=Qin (t:=own) h (show 0<=w-1 by omega)
  omega
 ·omega
theorem Qe8{n m:Nat}{S:RowN}{d:D}{w:Int}{r:RowN×Int×Int}(ho:OkN n m S)(he:entOk d n m)(hm:0<m)(hw:1<=w)(h:ZY d S w=some r):OkN n m r.1/\1<=r.2.1/\r.2.1<=w:=by
 rcases he with rfl|⟨a,b,y,rfl,a0,a1,b0,b1,_⟩
 ·cases h
 ·unfold ZY at h
  dsimp only at h
  cases h
  split
  ·have s1:=Qdt (b:=b) (st:=S.st) (own:=S.own) ho.R hw
   have d1:=Je (c:=QF b S.st S.R S.own w-1) ho.R
   have n1:=Qe7 d1 hm
   exact⟨⟨by show b.toNat<n;omega,n1.1,n1.2,QaF ho.L a0 a1,Je d1⟩,s1⟩
  ·have s1:=Qdt (b:=b) (st:=S.st) (own:=S.own) ho.L hw
   have d1:=Je (c:=QF b S.st S.L S.own w-1) ho.L
   have n1:=Qe7 d1 hm
   exact⟨⟨by show b.toNat<n;omega,n1.1,n1.2,Je d1,QaF ho.R a0 a1⟩,s1⟩
theorem QfY{n m:Nat}{S:RowN}{d:D}{c w:Int}{r:RowN×Int×Int}(ho:OkN n m S)(he:entOk d n m)(h1:1<=c)(hw:c<=w)(h:ZY d S w=some r):
  (ZY d S c=some r/\r.2.1<=c)\/∃r1,ZY d S c=some r1/\r1.2.1=c/\c<r.2.1/\r1.1.st=S.st/\r1.1.own=S.own/\ZY d r1.1 (w-c)=some (r.1,r.2.1-c,r.2.2-r1.2.2):=by
 rcases he with rfl|⟨a,b,y,rfl,a0,a1,b0,b1,_⟩
 ·cases h
 ·unfold ZY at h ⊢
  dsimp only at h ⊢
  cases h
  by_cases hb:b=(S.st:Int)
  ·have hst:b.toNat=S.st:=by omega
   have e0:∀A own w,QF b S.st A own w=1+Ql A own (w-1):=λA own w=>Ud hb
   by_cases hy:y=rS
   ·simp only[Ud hy,hst,e0]
    rcases QfX (own:=S.own) ho.R h1 hw with⟨x1,x2⟩|⟨x1,x2,x3,x4,x5⟩
    ·left;rw[x1];exact⟨rfl,x2⟩
    ·right
     refine⟨_,rfl,x1,x2,rfl,by show QD _=_;rw[x1];exact x3,?_⟩
     dsimp only
     rw[x1,x3,e0,x4,x5,Qim h1 (by omega)]
     rw[show c+(1+Ql S.R S.own (w-1) - c)=1+Ql S.R S.own (w-1) by omega]
   ·simp only[Ue hy,hst,e0]
    rcases QfX (own:=S.own) ho.L h1 hw with⟨x1,x2⟩|⟨x1,x2,x3,x4,x5⟩
    ·left;rw[x1];exact⟨rfl,x2⟩
    ·right
     refine⟨_,rfl,x1,x2,rfl,by show QD _=_;rw[x1];exact x3,?_⟩
     dsimp only
     rw[x1,x3,e0,x4,x5,Qim h1 (by omega)]
     rw[show c+(1+Ql S.L S.own (w-1) - c)=1+Ql S.L S.own (w-1) by omega,show -(1+Ql S.L S.own (w-1)) - -c = -(1+Ql S.L S.own (w-1) - c) by omega]
  ·have e0:∀A own w,QF b S.st A own w=1:=λA own w=>Ue hb
   left
   simp only[e0]
   refine⟨trivial,?_⟩
   split <;> exact h1
structure Tb(rows:List (List D))(n m:Nat):Prop where
 n0:0<n
 m0:0<m
 n12:n<=12
 m8:m<=8
 len:rows.length=n
 row:∀r∈rows,r.length=m
 ent:∀r∈rows,∀d∈r,entOk d n m
theorem Tb.at{rows:List (List D)}{n m s c:Nat}(T:Tb rows n m)(hs:s<n)(hc:c<m):∃row d,rows[s]?=some row/\row[c]?=some d/\entOk d n m/\Qb4 rows s c=some d:=by
 have h1:s<rows.length:=by rw[T.len];exact hs
 have hm:=UL h1
 have h2:c<rows[s].length:=by rw[T.row _ hm];exact hc
 refine⟨rows[s],rows[s][c],by simp,by simp,T.ent _ hm _ (UL h2),?_⟩
 unfold Qb4
 simp[h1,h2]
section
variable{rows:List (List D)}{n m:Nat}
theorem Yj{k:Nat}{S:RowN}{w:Int}(h:w<=0):runN rows k S w=some (S,0,0,0):=by cases k <;> (unfold runN;rw[Ud h])
theorem JS{k:Nat}{S:RowN}{w:Int}(h:Yi rows S w=none):runN rows k S w=some (S,0,0,0):=by
 cases k <;> (unfold runN;rw[h];split <;> rfl)
theorem YH{k:Nat}{S:RowN}{w:Int}{r:RowN×Int×Int}(hw:1<=w)(h:Yi rows S w=some r):runN rows (k+1) S w=(runN rows k r.1 (w-r.2.1)).map λq=>(q.1,r.2.2+q.2.1,r.2.1+q.2.2.1,q.2.2.2+1):=by
 rw[runN,Ue (by omega),h]
theorem Qe9{S:RowN}{w:Int}{r:RowN×Int×Int}(hw:1<=w)(h:Yi rows S w=some r):runN rows 0 S w=none:=by
 rw[runN,Ue (by omega),h]
theorem Qdu:∀(k K:Nat)(S:RowN)(w:Int) q,k<=K->runN rows k S w=some q->runN rows K S w=some q
 |k,K,S,w,q,hk,h=>by
  by_cases hw:w<=0
  ·rw[Yj hw]at h ⊢;exact h
  ·cases hn:Yi rows S w with
   |none=>rw[JS hn]at h ⊢;exact h
   |some r =>
    cases k with
    |zero=>rw[Qe9 (by omega) hn]at h;cases h
    |succ k =>
     obtain⟨K,rfl⟩:∃K',K=K'+1:=⟨K-1,by omega⟩
     rw[YH (by omega) hn]at h ⊢
     cases hr:runN rows k r.1 (w-r.2.1) with
     |none=>rw[hr]at h;cases h
     |some q'=>rw[hr]at h;rw[Qdu k K _ _ _ (by omega) hr];exact h
theorem Qb5(T:Tb rows n m){S:RowN}{w:Int}{r:RowN×Int×Int}(ho:OkN n m S)(hw:1<=w)(h:Yi rows S w=some r):OkN n m r.1/\1<=r.2.1/\r.2.1<=w:=by
 have:=ho.o0;have:=ho.o1
 obtain⟨row,d,_,_,he,e⟩:=T.at ho.st (c:=S.own.toNat) (by omega)
 unfold Yi at h
 rw[e]at h
 exact Qe8 ho he T.m0 hw h
theorem QfZ(T:Tb rows n m):∀(k:Nat)(S:RowN)(w:Int) q,OkN n m S->0<=w->runN rows k S w=some q->OkN n m q.1/\0<=q.2.2.1/\q.2.2.1<=w/\0<=q.2.2.2/\q.2.2.2<=k
 |k,S,w,q,ho,h0,h=>by
  by_cases hw:w<=0
  ·rw[Yj hw]at h;cases h;exact⟨ho,U8 _,h0,U8 _,by dsimp only;omega⟩
  ·cases hn:Yi rows S w with
   |none=>rw[JS hn]at h;cases h;exact⟨ho,U8 _,h0,U8 _,by dsimp only;omega⟩
   |some r =>
    obtain⟨o1,s1,s2⟩:=Qb5 T ho (by omega) hn
    cases k with
    |zero=>rw[Qe9 (by omega) hn]at h;cases h
    |succ k =>
     rw[YH (by omega) hn]at h
     cases hr:runN rows k r.1 (w-r.2.1) with
     |none=>rw[hr]at h;cases h
     |some q' =>
      rw[hr]at h;cases h
      obtain⟨x1,x2,x3,x4,x5⟩:=QfZ T k r.1 (w-r.2.1) q' o1 (by omega) hr
      exact⟨x1,by dsimp only;omega,by dsimp only;omega,by dsimp only;omega,by dsimp only;omega⟩
theorem Qio(T:Tb rows n m):∀(k:Nat)(S:RowN)(w c:Int) q,OkN n m S->0<=c->c<=w->runN rows k S w=some q ->
  ∃qa qb:RowN×Int×Int×Int,(∀K,k<=K->runN rows K S c=some qa)/\(∀K,k+1<=K->runN rows K qa.1 (w-c)=some qb)/\qb.1=q.1/\qa.2.1+qb.2.1=q.2.1/\qa.2.2.1+qb.2.2.1=q.2.2.1/\(qa.2.2.2+qb.2.2.2=q.2.2.2\/qa.2.2.2+qb.2.2.2=q.2.2.2+1)
 |k,S,w,c,q,ho,h0,hc,h=>by
  by_cases c0:c=0
  ·subst c0
   refine⟨(S,0,0,0),q,λK _=>Yj (U8 _),λK hK=>?_,rfl,by simp,by simp,by simp⟩
   rw[Int.sub_zero];exact Qdu k K S w q (by omega) h
  ·have:=ho.o0;have:=ho.o1
   obtain⟨row,d,_,_,he,e⟩:=T.at ho.st (c:=S.own.toNat) (by omega)
   have hN:∀u,Yi rows S u=ZY d S u:=λu=>by unfold Yi;rw[e];rfl
   cases hn:ZY d S w with
   |none =>
    have hd:∀u,ZY d S u=none:=by
     rcases he with rfl|⟨a,b,y,rfl,_⟩
     ·intro u;rfl
     ·cases hn
    rw[JS (by rw[hN,hn])]at h
    cases h
    exact⟨(S,0,0,0),(S,0,0,0),λK _=>JS (by rw[hN,hd]),λK _=>JS (by rw[hN,hd]),rfl,by simp,by simp,by simp⟩
   |some r =>
    obtain⟨o1,s1,s2⟩:=Qb5 T ho (w:=w) (by omega) ((hN w).trans hn)
    cases k with
    |zero=>rw[Qe9 (by omega) ((hN w).trans hn)]at h;cases h
    |succ k =>
     rw[YH (by omega) ((hN w).trans hn)]at h
     cases hr:runN rows k r.1 (w-r.2.1) with
     |none=>rw[hr]at h;cases h
     |some q' =>
      rw[hr]at h;cases h
      rcases QfY ho he (by omega) hc hn with⟨l1,l2⟩|⟨r1,l1,l2,l3,l4,l5,l6⟩
      ·obtain⟨qa,qb,x1,x2,x3,x4,x5,x6⟩:=Qio T k r.1 (w-r.2.1) (c-r.2.1) q' o1 (by omega) (by omega) hr
       refine⟨(qa.1,r.2.2+qa.2.1,r.2.1+qa.2.2.1,qa.2.2.2+1),qb,λK hK=>?_,λK hK=>?_,x3,?_,?_,?_⟩
       ·obtain⟨K,rfl⟩:∃K',K=K'+1:=⟨K-1,by omega⟩
        rw[YH (by omega) ((hN c).trans l1),x1 K (by omega)];rfl
       ·have:=x2 K (by omega)
        rw[show w-r.2.1 - (c-r.2.1)=w-c by omega]at this
        exact this
       ·dsimp only;omega
       ·dsimp only;omega
       ·dsimp only;omega
      ·refine⟨(r1.1,r1.2.2+0,r1.2.1+0,0+1),(q'.1,(r.2.2-r1.2.2)+q'.2.1,(r.2.1-c)+q'.2.2.1,q'.2.2.2+1),λK hK=>?_,λK hK=>?_,rfl,?_,?_,?_⟩
       ·obtain⟨K,rfl⟩:∃K',K=K'+1:=⟨K-1,by omega⟩
        rw[YH (by omega) ((hN c).trans l1),Yj (by omega)];rfl
       ·obtain⟨K,rfl⟩:∃K',K=K'+1:=⟨K-1,by omega⟩
        have hx:Yi rows r1.1 (w-c)=some (r.1,r.2.1-c,r.2.2-r1.2.2):=by unfold Yi;rw[l4,l5,e];exact l6
        rw[YH (by omega) hx]
        dsimp only
        rw[show w-c - (r.2.1-c)=w-r.2.1 by omega,Qdu k K _ _ _ (by omega) hr];rfl
       ·dsimp only;omega
       ·dsimp only;omega
       ·dsimp only;omega
end
noncomputable def ZS:Sts->Nat->Int
 |[],_=>0
 | (t,k)::r,i=>if (i:Int)<k then t else ZS r (i-k.toNat)
theorem Qei{m:Int}{s:Sts}(h:Zv m s):ZS s 0=QD s:=by
 cases s with
 |nil=>rfl
 |cons p r=>obtain⟨t,k⟩:=p;have:=h.2.2.1;unfold ZS;rw[Ud (by omega)];rfl
theorem J4{m:Int}{s:Sts}{a:Int}(hg:Zv m s):ZS (putN s a 1) 0=a/\∀i,ZS (putN s a 1) (i+1)=ZS s i:=by
 cases s with
 |nil=>by_cases h:a=0 <;> simp[putN,ZS,h];omega
 |cons p r =>
  obtain⟨t,k⟩:=p
  have hk:=hg.2.2.1
  by_cases h:t=a
  ·have e:putN ((t,k)::r) a 1=(a,k+1)::r:=by simp[putN,h]
   rw[e]
   refine⟨by unfold ZS;rw[Ud (by omega)],λi=>?_⟩
   unfold ZS
   by_cases z:(i:Int)<k
   ·rw[Ud (by omega),Ud z,h]
   ·rw[Ue (by omega),Ue z];congr 1;omega
  ·have e:putN ((t,k)::r) a 1=(a,1)::(t,k)::r:=by simp[putN,h]
   rw[e]
   refine⟨by unfold ZS;rw[Ud (by omega)],λi=>?_⟩
   rw[ZS,Ue (by omega)];congr 1
theorem Qej{m:Int}{s:Sts}(hg:Zv m s)(i:Nat):ZS (QA s 1) i=ZS s (i+1):=by
 cases s with
 |nil=>rfl
 |cons p r =>
  obtain⟨t,k⟩:=p
  have hk:=hg.2.2.1
  show ZS (putN r t (k-1)) i=_
  rw[Qbr hg.2.2.2.1]
  by_cases z:k-1<1
  ·rw[Ud z]
   conv=>rhs;unfold ZS
   rw[Ue (by omega)];congr 1;omega
  ·rw[Ue z]
   unfold ZS
   by_cases y:(i:Int)<k-1
   ·rw[Ud y,Ud (by omega)]
   ·rw[Ue y,Ue (by omega)];congr 1;omega
structure Cn where
 st:Nat
 pl:Int
 f:Int->Int
noncomputable def updF(f:Int->Int)(x a:Int):Int->Int:=λy=>if y=x then a else f y
noncomputable def goF(d:D)(c:Cn):Option Cn:=match d with
 |.tup [.int a,.str y,.int b]=>some ⟨b.toNat,if y=rS then c.pl+1 else c.pl-1,updF c.f c.pl a⟩
 |_=>none
noncomputable def ZL(rows:List (List D))(c:Cn):Option Cn:=(Qb4 rows c.st (c.f c.pl).toNat).bind λd=>goF d c
noncomputable def runF(rows:List (List D)):Nat->Cn->Cn×Nat
 |0,c=>(c,0)
 |k+1,c=>match ZL rows c with
  |none=>(c,0)
  |some c'=>((runF rows k c').1,(runF rows k c').2+1)
structure RF(S:RowN)(c:Cn):Prop where
 st:c.st=S.st
 own:c.f c.pl=S.own
 R:∀i:Nat,c.f (c.pl+1+i)=ZS S.R i
 L:∀i:Nat,c.f (c.pl-1-i)=ZS S.L i
theorem QjJ{d:D}{S:RowN}{m:Int}(hL:Zv m S.L)(hR:Zv m S.R){a b:Int}{y:Str}(hd:d=.tup [.int a,.str y,.int b]):ZY d S 1=some (if y=rS then (⟨b.toNat,putN S.L a 1,QD S.R,QA S.R 1⟩,1,1) else (⟨b.toNat,QA S.L 1,QD S.L,putN S.R a 1⟩,1,-1)):=by
 subst hd
 have e:∀A own,Zv m A->QF b S.st A own 1=1:=λA own hA=>by
  have h:=Qdt (b:=b) (st:=S.st) (own:=own) hA (show(1:Int)<=1 by omega)
  omega
 unfold ZY
 dsimp only
 rw[e _ _ hR,e _ _ hL,Int.sub_self,drop_zero hR,drop_zero hL]
theorem QlE{rows:List (List D)}{n m:Nat}{S:RowN}{c:Cn}(T:Tb rows n m)(ho:OkN n m S)(h:RF S c):
  (Yi rows S 1=none/\ZL rows c=none)\/∃r c',Yi rows S 1=some r/\ZL rows c=some c'/\RF r.1 c'/\r.2.1=1/\r.2.2=c'.pl-c.pl:=by
 have h0:=ho.o0;have h1:=ho.o1
 obtain⟨row,d,_,_,he,e⟩:=T.at ho.st (c:=S.own.toNat) (by omega)
 have e1:Yi rows S 1=ZY d S 1:=by unfold Yi;rw[e];rfl
 have e2:ZL rows c=goF d c:=by unfold ZL;rw[h.st,h.own,e];rfl
 rw[e1,e2]
 rcases he with rfl|⟨a,b,y,rfl,_⟩
 ·exact .inl ⟨rfl,rfl⟩
 ·right
  rw[QjJ ho.L ho.R rfl]
  by_cases hy:y=rS
  ·rw[Ud hy]
   refine⟨_,⟨b.toNat,c.pl+1,updF c.f c.pl a⟩,rfl,by unfold goF;dsimp only;rw[Ud hy],⟨rfl,?_,λi=>?_,λi=>?_⟩,rfl,by dsimp only;omega⟩
   ·show updF c.f c.pl a (c.pl+1)=QD S.R
    have:=h.R 0
    rw[Qei ho.R]at this
    unfold updF;rw[Ue (by omega)];simpa using this
   ·show updF c.f c.pl a (c.pl+1+1+i)=ZS (QA S.R 1) i
    rw[Qej ho.R,<-h.R]
    unfold updF;rw[Ue (by omega)];congr 1;omega
   ·show updF c.f c.pl a (c.pl+1-1-i)=ZS (putN S.L a 1) i
    cases i with
    |zero=>rw[(J4 ho.L).1];unfold updF;rw[Ud (by omega)]
    |succ i=>rw[(J4 ho.L).2,<-h.L];unfold updF;rw[Ue (by omega)];congr 1;omega
  ·rw[Ue hy]
   refine⟨_,⟨b.toNat,c.pl-1,updF c.f c.pl a⟩,rfl,by unfold goF;dsimp only;rw[Ue hy],⟨rfl,?_,λi=>?_,λi=>?_⟩,rfl,by dsimp only;omega⟩
   ·show updF c.f c.pl a (c.pl-1)=QD S.L
    have:=h.L 0
    rw[Qei ho.L]at this
    unfold updF;rw[Ue (by omega)];simpa using this
   ·show updF c.f c.pl a (c.pl-1+1+i)=ZS (putN S.R a 1) i
    cases i with
    |zero=>rw[(J4 ho.R).1];unfold updF;rw[Ud (by omega)]
    |succ i=>rw[(J4 ho.R).2,<-h.R];unfold updF;rw[Ue (by omega)];congr 1;omega
   ·show updF c.f c.pl a (c.pl-1-1-i)=ZS (QA S.L 1) i
    rw[Qej ho.L,<-h.L]
    unfold updF;rw[Ue (by omega)];congr 1;omega
theorem Q9{rows:List (List D)}{c:Cn}(h:ZL rows c=none):∀k,runF rows k c=(c,0)
 |0=>rfl
 |k+1=>by rw[runF,h]
theorem QN{rows:List (List D)}{c c':Cn}{k:Nat}(h:ZL rows c=some c'):runF rows (k+1) c=((runF rows k c').1,(runF rows k c').2+1):=by rw[runF,h]
theorem Jf{rows:List (List D)}{n m:Nat}(T:Tb rows n m):∀(w K:Nat)(S:RowN)(c:Cn) q,OkN n m S->RF S c->runN rows K S (w:Nat)=some q->RF q.1 (runF rows w c).1/\q.2.1=(runF rows w c).1.pl-c.pl/\q.2.2.1=(runF rows w c).2
 |0,K,S,c,q,ho,h,hr=>by
  rw[Yj (by simp)]at hr
  cases hr
  exact⟨h,(Int.sub_self _).symm,rfl⟩
 |w+1,K,S,c,q,ho,h,hr=>by
  obtain⟨qa,qb,x1,x2,x3,x4,x5,_⟩:=Qio T K S ((w+1:Nat):Int) 1 q ho (by omega) (by omega) hr
  have y1:=x1 (K+1) (by omega)
  have y2:=x2 (K+1) (by omega)
  rw[show((w+1:Nat):Int) - 1=(w:Nat) by omega]at y2
  rcases QlE T ho h with⟨e1,e2⟩|⟨r,c',e1,e2,e3,e4,e5⟩
  ·rw[JS e1]at y1
   cases y1
   have z:=Jf T w (K+1) S c qb ho h y2
   rw[Q9 e2]at z ⊢
   rw[<-x3]
   dsimp only at x4 x5
   exact⟨z.1,by rw[<-z.2.1];omega,by rw[<-z.2.2];omega⟩
  ·rw[YH (by omega) e1,Yj (by omega)]at y1
   cases y1
   dsimp only at x4 x5 y2
   have ho':=(Qb5 T ho (by omega) e1).1
   have z:=Jf T w (K+1) r.1 c' qb ho' e3 y2
   rw[QN e2]
   dsimp only
   rw[<-x3]
   exact⟨z.1,by have:=z.2.1;omega,by have:=z.2.2;rw[Bd];omega⟩
theorem QcR{rows:List (List D)}{n m:Nat}(T:Tb rows n m):∀(K:Nat)(S:RowN)(w:Int),OkN n m S->w<=K->∃q,runN rows K S w=some q
 |K,S,w,ho,hw=>by
  by_cases h0:w<=0
  ·exact⟨_,Yj h0⟩
  ·cases hn:Yi rows S w with
   |none=>exact⟨_,JS hn⟩
   |some r =>
    obtain⟨o1,s1,s2⟩:=Qb5 T ho (by omega) hn
    cases K with
    |zero=>omega
    |succ K =>
     obtain⟨q,hq⟩:=QcR T K r.1 (w-r.2.1) o1 (by omega)
     exact⟨_,by rw[YH (by omega) hn,hq];rfl⟩
theorem Qf0{rows:List (List D)}{n m:Nat}(T:Tb rows n m):∀(K:Nat)(S:RowN)(w:Int) q (K':Nat),OkN n m S->runN rows K S w=some q->(q.2.2.2<=K'->runN rows K' S w=some q)/\((K':Int)<q.2.2.2->runN rows K' S w=none)
 |K,S,w,q,K',ho,h=>by
  by_cases h0:w<=0
  ·rw[Yj h0]at h;cases h;exact⟨λ_=>Yj h0,λh=>by dsimp only at h;omega⟩
  ·cases hn:Yi rows S w with
   |none=>rw[JS hn]at h;cases h;exact⟨λ_=>JS hn,λh=>by dsimp only at h;omega⟩
   |some r =>
    obtain⟨o1,s1,s2⟩:=Qb5 T ho (by omega) hn
    cases K with
    |zero=>rw[Qe9 (by omega) hn]at h;cases h
    |succ K =>
     rw[YH (by omega) hn]at h
     cases hr:runN rows K r.1 (w-r.2.1) with
     |none=>rw[hr]at h;cases h
     |some q' =>
      rw[hr]at h;cases h
      have hp:=(QfZ T K r.1 (w-r.2.1) q' o1 (by omega) hr).2.2.2.1
      cases K' with
      |zero=>exact⟨λh=>by dsimp only at h;omega,λ_=>Qe9 (by omega) hn⟩
      |succ K' =>
       have ih:=Qf0 T K r.1 (w-r.2.1) q' K' o1 hr
       refine⟨λh=>?_,λh=>?_⟩
       ·rw[YH (by omega) hn,ih.1 (by dsimp only at h;omega)];rfl
       ·rw[YH (by omega) hn,ih.2 (by dsimp only at h;omega)];rfl
theorem QjK{n m:Nat}{S:RowN}{d:D}{w:Int}{r:RowN×Int×Int}(ho:OkN n m S)(he:entOk d n m)(hw:1<=w)(h:ZY d S w=some r)(hs:r.2.1<w):¬(r.1.st=S.st/\r.1.own=S.own):=by
 have key:∀A:Sts,Zv m A->1+Ql A S.own (w-1)<w->QD (QA A (1+Ql A S.own (w-1) - 1))≠S.own:=λA hA hlt=>by
  cases A with
  |nil =>
   intro e
   have:Ql [] S.own (w-1)=w-1:=by unfold Ql;rw[Ud (by exact e)]
   omega
  |cons p r =>
   obtain⟨t,k⟩:=p
   by_cases ht:t=S.own
   ·have e:Ql ((t,k)::r) S.own (w-1)=if w-1<k then w-1 else k:=by simp[Ql,QD,ht]
    rw[e]at hlt ⊢
    by_cases z:w-1<k
    ·rw[Ud z]at hlt;omega
    ·rw[Ue z]
     show QD (putN r t (k - (1+k-1)))≠_
     rw[show k - (1+k-1)=0 by omega,QjH,<-ht]
     exact hA.2.2.2.1
   ·have e:Ql ((t,k)::r) S.own (w-1)=0:=by simp[Ql,QD,ht]
    rw[e,show(1:Int)+0-1=0 by omega,drop_zero hA]
    exact ht
 rcases he with rfl|⟨a,b,y,rfl,a0,a1,b0,b1,_⟩
 ·cases h
 ·unfold ZY at h
  dsimp only at h
  cases h
  rintro ⟨e1,e2⟩
  by_cases hb:b=(S.st:Int)
  ·have e0:∀A own w,QF b S.st A own w=1+Ql A own (w-1):=λA own w=>Ud hb
   simp only[e0]at hs e2
   by_cases hy:y=rS
   ·simp only[Ud hy]at hs e2;exact key _ ho.R hs e2
   ·simp only[Ue hy]at hs e2;exact key _ ho.L hs e2
  ·apply hb
   by_cases hy:y=rS
   ·simp only[Ud hy]at e1;omega
   ·simp only[Ue hy]at e1;omega
noncomputable abbrev rdF(c:Cn):Nat×Int:=(c.st,c.f c.pl)
noncomputable def cutF(rows:List (List D)):Nat->Cn->Option (Nat×Int)->Nat
 |0,_,_=>0
 |k+1,c,p=>match ZL rows c with
  |none=>0
  |some c'=>(if p=some (rdF c) then 0 else 1)+cutF rows k c' (some (rdF c))
theorem QlF{rows:List (List D)}{c:Cn}{p:Option (Nat×Int)}(h:p≠some (rdF c)):∀k,cutF rows k c p=cutF rows k c none
 |0=>rfl
 |k+1=>by unfold cutF;cases ZL rows c with|none=>rfl|some c'=>dsimp only;rw[Ue h,Ue (by simp)]
theorem Qdv{rows:List (List D)}:∀(i j:Nat)(c:Cn),(runF rows i c).2=i->runF rows (i+j) c=((runF rows j (runF rows i c).1).1,i+(runF rows j (runF rows i c).1).2)
 |0,j,c,_=>by rw[Tv];show runF rows j c=_;simp[runF]
 |i+1,j,c,h=>by
  cases hs:ZL rows c with
  |none=>rw[Q9 hs]at h;cases h
  |some c' =>
   rw[QN hs]at h ⊢
   rw[show i+1+j=(i+j)+1 by omega,QN hs]
   have ih:=Qdv (rows:=rows) i j c' (by dsimp only at h;omega)
   rw[ih]
   dsimp only
   congr 1;omega
theorem Qek{rows:List (List D)}:∀(s k:Nat)(c:Cn)(p:Nat×Int),(runF rows s c).2=s->(∀j,j<s->rdF (runF rows j c).1=p)->cutF rows (s+k) c (some p)=cutF rows k (runF rows s c).1 (some p)
 |0,k,c,p,_,_=>by rw[Tv];rfl
 |s+1,k,c,p,hs,hp=>by
  cases h1:ZL rows c with
  |none=>rw[Q9 h1]at hs;cases hs
  |some c' =>
   have h0:rdF c=p:=hp 0 (by omega)
   rw[QN h1]at hs ⊢
   rw[show s+1+k=(s+k)+1 by omega,cutF,h1]
   dsimp only
   rw[Ud (by rw[h0]),Tv,h0]
   refine Qek s k c' p (by dsimp only at hs;omega) λj hj=>?_
   have:=hp (j+1) (by omega)
   rw[QN h1]at this
   exact this
theorem Qf1{rows:List (List D)}{n m:Nat}(T:Tb rows n m):∀(K w:Nat)(S:RowN)(c:Cn) q,OkN n m S->RF S c->runN rows K S (w:Nat)=some q->q.2.2.2=(cutF rows w c none:Nat)
 |K,w,S,c,q,ho,h,hr=>by
  have h0:=ho.o0;have h1:=ho.o1
  obtain⟨row,d,_,_,he,e⟩:=T.at ho.st (c:=S.own.toNat) (by omega)
  have hN:∀u,Yi rows S u=ZY d S u:=λu=>by unfold Yi;rw[e];rfl
  have hS:ZL rows c=goF d c:=by unfold ZL;rw[h.st,h.own,e];rfl
  cases w with
  |zero=>rw[Yj (by simp)]at hr;cases hr;rfl
  |succ w =>
   cases hl:ZY d S ((w+1:Nat):Int) with
   |none =>
    have hd:d=.non:=by
     rcases he with rfl|⟨a,b,y,rfl,_⟩
     ·rfl
     ·cases hl
    rw[JS (by rw[hN,hl])]at hr
    cases hr
    rw[cutF,hS,hd];rfl
   |some r =>
    obtain⟨o1,s1,s2⟩:=Qe8 ho he T.m0 (by omega) hl
    cases K with
    |zero=>rw[Qe9 (by omega) ((hN _).trans hl)]at hr;cases hr
    |succ K =>
     rw[YH (by omega) ((hN _).trans hl)]at hr
     cases hq:runN rows K r.1 (((w+1:Nat):Int) - r.2.1) with
     |none=>rw[hq]at hr;cases hr
     |some q' =>
      rw[hq]at hr
      cases hr
      obtain⟨s,hs⟩:∃s:Nat,r.2.1=((s+1:Nat):Int):=⟨(r.2.1-1).toNat,by omega⟩
      have hsw:s<=w:=by omega
      rw[hs,show((w+1:Nat):Int) - ((s+1:Nat):Int)=((w-s:Nat):Int) by omega]at hq
      -- the leap,step by step
      have hat:∀j:Nat,j<=s->∃r1,ZY d S ((j+1:Nat):Int)=some r1/\r1.2.1=((j+1:Nat):Int)/\(j<s->r1.1.st=S.st/\r1.1.own=S.own)/\(j=s->r1=r):=λj hj=>by
       rcases QfY ho he (show(1:Int)<=((j+1:Nat):Int) by omega) (show((j+1:Nat):Int)<=((w+1:Nat):Int) by omega) hl with⟨l1,l2⟩|⟨r1,l1,l2,l3,l4,l5,_⟩
       ·have:j=s:=by omega
        subst this
        exact⟨r,l1,hs,λh=>absurd h (by omega),λ_=>rfl⟩
       ·exact⟨r1,l1,l2,λ_=>⟨l4,l5⟩,λe=>by omega⟩
      have hrun:∀j:Nat,j<=s->∃r1:RowN×Int×Int,RF r1.1 (runF rows (j+1) c).1/\(runF rows (j+1) c).2=j+1/\(j<s->r1.1.st=S.st/\r1.1.own=S.own)/\(j=s->r1=r):=λj hj=>by
       obtain⟨r1,a1,a2,a3,a4⟩:=hat j hj
       have hf:runN rows 1 S ((j+1:Nat):Int)=some (r1.1,r1.2.2+0,r1.2.1+0,0+1):=by
        rw[YH (by omega) ((hN _).trans a1),Yj (by omega)];rfl
       obtain⟨b1,_,b3⟩:=Jf T (j+1) 1 S c _ ho h hf
       exact⟨r1,b1,by dsimp only at b3;omega,a3,a4⟩
      obtain⟨r1,f1,f2,_,f4⟩:=hrun s (Uc _)
      have f4:=f4 rfl
      subst f4
      have hrd:∀j,j<s+1->rdF (runF rows j c).1=rdF c:=λj hj=>by
       cases j with
       |zero=>rfl
       |succ j =>
        obtain⟨r2,g1,_,g3,_⟩:=hrun j (by omega)
        obtain⟨y1,y2⟩:=g3 (by omega)
        show((runF rows (j+1) c).1.st,(runF rows (j+1) c).1.f (runF rows (j+1) c).1.pl)=(c.st,c.f c.pl)
        rw[g1.st,g1.own,h.st,h.own,y1,y2]
      have ih:=Qf1 T K (w-s) r1.1 _ q' o1 f1 hq
      have hb:=Qek (rows:=rows) (s+1) (w-s) c (rdF c) f2 hrd
      rw[show s+1+(w-s)=w+1 by omega]at hb
      -- the first step counts one
      have hfirst:cutF rows (w+1) c none=1+cutF rows (w+1) c (some (rdF c)):=by
       cases hst:ZL rows c with
       |none=>rw[Q9 hst]at f2;cases f2
       |some c'=>rw[cutF,hst];dsimp only;rw[Ue (by simp)];conv=>rhs;rw[cutF,hst];dsimp only;rw[Ud rfl,Tv]
      rw[hfirst,hb]
      have hlast:cutF rows (w-s) (runF rows (s+1) c).1 (some (rdF c))=cutF rows (w-s) (runF rows (s+1) c).1 none:=by
       by_cases z:w-s=0
       ·rw[z];rfl
       ·refine QlF (λe=>?_) _
        have e:=(Option.some.inj e).symm
        have hm:=QjK ho he (by omega) hl (by omega)
        apply hm
        have e1:(runF rows (s+1) c).1.st=c.st:=Rb Prod.fst e
        have e2:(runF rows (s+1) c).1.f (runF rows (s+1) c).1.pl=c.f c.pl:=Rb Prod.snd e
        rw[f1.st,h.st]at e1
        rw[f1.own,h.own]at e2
        exact⟨e1,e2⟩
      rw[hlast]
      dsimp only
      rw[ih]
      omega
theorem QcS{n:Nat}(h:n<=100000):n<SZ:=Wz h (by decide)
noncomputable def stD(p:Int×Int):D:=.tup [.int p.1,.int p.2]
noncomputable def stsD(s:Sts):List D:=s.map stD
noncomputable def revD(s:Sts):List D:=(stsD s).reverse
theorem Y1(s:Sts):(revD s).length=s.length:=by simp[revD,stsD]
theorem QaG(p:Int×Int)(r:Sts):revD (p::r)=revD r++[stD p]:=by simp[revD,stsD]
theorem Qdw{g:G}{s:Nat}{o:GO}(h:g[s]?=some o):g.set s o=g:=by
 refine List.ext_getElem? λi=>?_
 by_cases z:s=i
 ·subst z;rw[QH h,h]
 ·rw[Uh z]
section
variable{s:Nat}{side:Sts}{g:G}
theorem Qdx{p:Int×Int}{r:Sts}(h:g[s]?=some (.lst (revD (p::r)))):pIx (.ref s) (.int (-1)) g=.ok (stD p) g:=QfW (ds:=stsD r) h
theorem QjL(n:Nat):ixD (n+1) (-1)=some n:=by
 unfold ixD
 rw[Ue (by omega),Ud (by omega)]
 congr 1
 omega
theorem QnJ{sg c:Int}(hs:g[s]?=some (.lst (revD side)))(hn:¬(side=[]/\sg=0))(hz:side.length<90000):Jp [.ref s,.int sg,.int c] g=.ok .non (g.set s (.lst (revD (putN side sg c)))):=by
 have hl:=JA hs
 by_cases hc:c<1
 ·have:putN side sg c=side:=by unfold putN;rw[Ud hc]
  rw[this,Qdw hs]
  exact QS rfl (by simp[ZO,hc])
 ·cases side with
  |nil =>
   have h0:¬sg=0:=λe=>hn ⟨rfl,e⟩
   refine QaE (σ:=[some (.ref s),some (.int sg),some (.int c)]) rfl ?_
   have hs':g[s]?=some (.lst []):=hs
   simp[ZO,hc,hl,Yu,hs',Res.bind,putN,h0,pTup,SZ,revD,stsD,stD]
  |cons p r =>
   obtain⟨t,k⟩:=p
   have hlast:=Qdx hs
   have hs':=hs
   rw[QaG]at hs'
   have hz':(revD r).length+1<1000000:=by rw[Y1];simp at hz;omega
   refine QaE (σ:=[some (.ref s),some (.int sg),some (.int c)]) rfl ?_
   by_cases ht:t=sg
   ·subst ht
    simp[ZO,hc,hl,hlast,stD,Y1,YQ,hs',QjL,putN,pTup,SZ,QaG]
   ·simp[ZO,hc,hl,hlast,stD,ht,Y1,Yu,hs',Res.bind,putN,pTup,SZ,QaG]
    rw[Ud (by simp at hz;omega)]
theorem Qip{sg c:Int}(hs:g[s]?=some (.lst (revD side)))(hz:side.length<90000):QgH [.ref s,.int sg,.int c] g=.ok .non (g.set s (.lst (revD (putN side sg c)))):=by
 have hl:=JA hs
 refine QaE (σ:=[some (.ref s),some (.int sg),some (.int c)]) rfl ?_
 by_cases hn:side=[]/\sg=0
 ·obtain⟨rfl,rfl⟩:=hn
  have e:putN [] 0 c=[]:=by unfold putN;split <;> rfl
  rw[e,Qdw hs]
  simp[QjA,hl,revD,stsD]
 ·have ha:=QnJ (c:=c) hs hn hz
  cases side with
  |nil=>have h0:¬sg=0:=λe=>hn ⟨rfl,e⟩;simp[QjA,hl,h0,ha,Y1]
  |cons p r=>simp[QjA,hl,ha,Y1]
theorem Qdy(side:Sts)(sg c:Int):(putN side sg c).length<=side.length+1:=by
 unfold putN
 split
 ·omega
 ·cases side with
  |nil=>dsimp only;split <;> simp
  |cons p r=>dsimp only;split <;> simp
theorem Ju(side:Sts)(c:Int):(QA side c).length<=side.length:=by
 cases side with
 |nil=>exact Uc _
 |cons p r=>exact Qdy r p.1 _
theorem Qfa{c:Int}(hs:g[s]?=some (.lst (revD side)))(hz:side.length<90000):QbV [.ref s,.int c] g=.ok .non (g.set s (.lst (revD (QA side c)))):=by
 have hl:=JA hs
 cases side with
 |nil =>
  refine QaE (σ:=[some (.ref s),some (.int c),none]) rfl ?_
  rw[show QA [] c=[] from rfl,Qdw hs]
  simp[Qib,hl,revD,stsD]
 |cons p r =>
  obtain⟨t,k⟩:=p
  have hs':=hs
  rw[QaG]at hs'
  have h1:(g.set s (.lst (revD r)))[s]?=some (.lst (revD r)):=QH hs
  have hp:=Qip (sg:=t) (c:=k-c) h1 (by simp at hz;omega)
  rw[Wp]at hp
  refine QaE (σ:=[some (.ref s),some (.int c),some (stD (t,k))]) rfl ?_
  have e:pPop (.ref s) g=.ok (stD (t,k)) (g.set s (.lst (revD r))):=by simp[pPop,hs']
  simp[Qib,hl,Y1,e]
  simp[stD,hp]
  rfl
theorem Qb6(hs:g[s]?=some (.lst (revD side))):Q2 [.ref s] g=.ok (.int (QD side)) g:=by
 have hl:=JA hs
 refine QS rfl ?_
 cases side with
 |nil=>simp[Y6,hl,revD,stsD,QD]
 |cons p r=>simp[Y6,hl,Y1,Qdx hs];simp[stD,QD]
theorem Qf2{sg c:Int}(hs:g[s]?=some (.lst (revD side))):QbW [.ref s,.int sg,.int c] g=.ok (.int (Ql side sg c)) g:=by
 have hl:=JA hs
 refine QS rfl ?_
 by_cases hn:QD side=sg
 ·cases side with
  |nil=>simp[Qdm,Qb6 hs,hl,hn,revD,stsD,Ql]
  |cons p r =>
   have:=Qdx hs
   simp[Qdm,Qb6 hs,hl,hn,Y1,this,Ql]
   simp[stD,Qjw]
 ·simp[Qdm,Qb6 hs,hn,Ql]
end
theorem Zc:Str.ofString "state" = ⟨#[115,116,97,116,101]⟩:=by decide +kernel
theorem ZT:Str.ofString "left" = ⟨#[108,101,102,116]⟩:=by decide +kernel
theorem Zn:Str.ofString "right" = ⟨#[114,105,103,104,116]⟩:=by decide +kernel
theorem Qan:Str.ofString "own" = ⟨#[111,119,110]⟩:=by decide +kernel
theorem ZZ:Str.ofString "moved" = ⟨#[109,111,118,101,100]⟩:=by decide +kernel
theorem QlG:Str.ofString "entry" = ⟨#[101,110,116,114,121]⟩:=by decide +kernel
theorem QnK:Str.ofString "leap" = ⟨#[108,101,97,112]⟩:=by decide +kernel
theorem QoF:Str.ofString "row" = ⟨#[114,111,119]⟩:=by decide +kernel
section
variable{t s l r o m v:D}
noncomputable def fwF(t s l r o m:D):List (Str×D):=[(Str.ofString "table",t),(Str.ofString "state",s),(Str.ofString "left",l),(Str.ofString "right",r),(Str.ofString "own",o),(Str.ofString "moved",m)]
@[simp] theorem QnV:(fwF t s l r o m).lookup (Str.ofString "table")=some t:=by unfold fwF;rw[Q8,Zc,ZT,Zn,Qan,ZZ];rfl
@[simp] theorem QnW:(fwF t s l r o m).lookup (Str.ofString "state")=some s:=by unfold fwF;rw[Q8,Zc,ZT,Zn,Qan,ZZ];rfl
@[simp] theorem QoG:(fwF t s l r o m).lookup (Str.ofString "left")=some l:=by unfold fwF;rw[Q8,Zc,ZT,Zn,Qan,ZZ];rfl
@[simp] theorem QnX:(fwF t s l r o m).lookup (Str.ofString "right")=some r:=by unfold fwF;rw[Q8,Zc,ZT,Zn,Qan,ZZ];rfl
@[simp] theorem Qo0:(fwF t s l r o m).lookup (Str.ofString "own")=some o:=by unfold fwF;rw[Q8,Zc,ZT,Zn,Qan,ZZ];rfl
@[simp] theorem QnY:(fwF t s l r o m).lookup (Str.ofString "moved")=some m:=by unfold fwF;rw[Q8,Zc,ZT,Zn,Qan,ZZ];rfl
@[simp] theorem QnZ:(fwF t s l r o m).lookup (Str.ofString "entry")=none:=by unfold fwF;rw[Q8,Zc,ZT,Zn,Qan,ZZ,QlG];rfl
@[simp] theorem QoH:(fwF t s l r o m).lookup (Str.ofString "leap")=none:=by unfold fwF;rw[Q8,Zc,ZT,Zn,Qan,ZZ,QnK];rfl
@[simp] theorem Qo1:(fwF t s l r o m).lookup (Str.ofString "row")=none:=by unfold fwF;rw[Q8,Zc,ZT,Zn,Qan,ZZ,QoF];rfl
@[simp] theorem Qn0:putG (Str.ofString "state") v (fwF t s l r o m)=fwF t v l r o m:=by unfold fwF;rw[Q8,Zc,ZT,Zn,Qan,ZZ];rfl
@[simp] theorem Qo2:putG (Str.ofString "own") v (fwF t s l r o m)=fwF t s l r v m:=by unfold fwF;rw[Q8,Zc,ZT,Zn,Qan,ZZ];rfl
@[simp] theorem Qn1:putG (Str.ofString "moved") v (fwF t s l r o m)=fwF t s l r o v:=by unfold fwF;rw[Q8,Zc,ZT,Zn,Qan,ZZ];rfl
@[simp] theorem Qo3:(fwF t s l r o m).length=6:=rfl
@[simp] theorem Qn2{rows:List (List D)}:([(Str.ofString "table",t)]:List (Str×D)).lookup (Str.ofString "table")=some t:=by rw[Q8];rfl
theorem pi1:putG (Str.ofString "table") t []=[(Str.ofString "table",t)]:=rfl
theorem pi2:putG (Str.ofString "state") s [(Str.ofString "table",t)]=[(Str.ofString "table",t),(Str.ofString "state",s)]:=by rw[Q8,Zc];rfl
theorem pi3:putG (Str.ofString "left") l [(Str.ofString "table",t),(Str.ofString "state",s)]=[(Str.ofString "table",t),(Str.ofString "state",s),(Str.ofString "left",l)]:=by rw[Q8,Zc,ZT];rfl
theorem pi4:putG (Str.ofString "right") r [(Str.ofString "table",t),(Str.ofString "state",s),(Str.ofString "left",l)]=[(Str.ofString "table",t),(Str.ofString "state",s),(Str.ofString "left",l),(Str.ofString "right",r)]:=by rw[Q8,Zc,ZT,Zn];rfl
theorem pi5:putG (Str.ofString "own") o [(Str.ofString "table",t),(Str.ofString "state",s),(Str.ofString "left",l),(Str.ofString "right",r)]=[(Str.ofString "table",t),(Str.ofString "state",s),(Str.ofString "left",l),(Str.ofString "right",r),(Str.ofString "own",o)]:=by rw[Q8,Zc,ZT,Zn,Qan];rfl
theorem pi6:putG (Str.ofString "moved") m [(Str.ofString "table",t),(Str.ofString "state",s),(Str.ofString "left",l),(Str.ofString "right",r),(Str.ofString "own",o)]=fwF t s l r o m:=by unfold fwF;rw[Q8,Zc,ZT,Zn,Qan,ZZ];rfl
theorem Qiq:([(Str.ofString "table",t),(Str.ofString "state",s),(Str.ofString "left",l),(Str.ofString "right",r)]:List (Str×D)).lookup (Str.ofString "right")=some r:=by rw[Q8,Zc,ZT,Zn];rfl
theorem Qir:([(Str.ofString "table",t),(Str.ofString "state",s),(Str.ofString "left",l),(Str.ofString "right",r),(Str.ofString "own",o)]:List (Str×D)).lookup (Str.ofString "right")=some r:=by rw[Q8,Zc,ZT,Zn,Qan];rfl
end
section
variable{σ:S3}{g:G}
@[simp] theorem QoI{cs:List Nat}{f:Str}{o:ME}:ZU cs f o σ g=(match o σ g with
 |.ok (.ref n) g1=>(match g1[n]? with
  |some (.ins c fs)=>if c∈cs then (match fs.lookup f with|some d=>.ok d g1|none=>.stuck) else .stuck
  |_=>.stuck)
 |.raise e g'=>.raise e g'
 |_=>.stuck):=by
 unfold ZU mOp1 Res.bind;cases o σ g with|ok d g1=>cases d <;> rfl|_=>rfl
@[simp] theorem QlX{cs:List Nat}{f:Str}{o v:ME}:QP cs f o v σ g=(match v σ g with
 |.ok y g1=>(match o σ g1 with
  |.ok (.ref n) g2=>(match g2[n]? with
   |some (.ins c fs)=>if c∈cs/\fs.length<100 then .nx σ (g2.set n (.ins c (putG f y fs))) else .stuck
   |_=>.stuck)
  |.raise e g'=>.raise e σ g'
  |_=>.stuck)
 |.raise e g'=>.raise e σ g'
 |.stuck=>.stuck):=rfl
@[simp] theorem QoJ{cc:Nat}{m:Str}{f:MF}{o:ME}{a:MA}:Qcn cc m f o a σ g=(match o σ g with
 |.ok (.ref n) g1=>(match g1[n]? with
  |some (.ins c fs)=>if c=cc/\fs.lookup m=none then (match a σ g1 with | .ok xs g2=>f (.ref n::xs) g2 | .raise e g'=>.raise e g' | .stuck=>.stuck) else .stuck
  |_=>.stuck)
 |.raise e g'=>.raise e g'
 |_=>.stuck):=by
 unfold Qcn Res.bind;cases o σ g with
 |ok d g1 =>
  cases d with
  |ref n =>
   dsimp only
   cases g1[n]? with
   |none=>rfl
   |some x=>cases x with
    |ins c fs=>dsimp only;split <;> first|rfl|(cases a σ g1 <;> rfl)
    |_=>rfl
  |_=>rfl
 |_=>rfl
end
noncomputable def fwO(rows:List (List D))(st own mv:Int)(l r:Nat):GO:=.ins 13 (fwF (.tup (rows.map .tup)) (.int st) (.ref l) (.ref r) (.int own) (.int mv))
structure FRep(rows:List (List D))(w l r:Nat)(g:G)(S:RowN)(mv:Int):Prop where
 w':g[w]?=some (fwO rows S.st S.own mv l r)
 l':g[l]?=some (.lst (revD S.L))
 r':g[r]?=some (.lst (revD S.R))
 wl:w≠l
 wr:w≠r
 lr:l≠r
theorem Qf3{rows:List (List D)}{w l r:Nat}{g:G}{S:RowN}{mv:Int}{d:D}(W:FRep rows w l r g S mv)(h0:0<=S.own)(h:Qb4 rows S.st S.own.toNat=some d):Zd [.ref w] g=.ok d g:=by
 refine QS rfl ?_
 have hw:=W.w'
 unfold fwO at hw
 unfold Qb4 at h
 cases hr:rows[S.st]? with
 |none=>rw[hr]at h;cases h
 |some row =>
  rw[hr]at h
  have e1:pIx (.tup (rows.map .tup)) (.int S.st) g=.ok (.tup row) g:=ix_tup (by rw[UA,hr];rfl)
  have e2:pIx (.tup row) (.int S.own) g=.ok d g:=by
   have:pIx (.tup row) (.int S.own.toNat) g=.ok d g:=ix_tup h
   rw[Ti h0]at this
   exact this
  simp[Jz,hw,e1,e2]
noncomputable def QnL:MS:=(mSeq (Zw (Qo QgH (Qb (mVar 5) (Qb (mOp2 pIx (mVar 2) (mLit (.int 0))) (Qb (mVar 6) mNil)))))
 (mSeq (Zw (Qo QbV (Qb (mVar 4) (Qb (mOp2 pSub (mVar 6) (mLit (.int 1))) mNil))))
 (mSeq (QP [13] "own" (mVar 0) (Qo Q2 (Qb (mVar 4) mNil)))
 (mSeq (Zw (Qo QbV (Qb (mVar 4) (Qb (mLit (.int 1)) mNil))))
 (mSeq (QP [13] "state" (mVar 0) (mOp2 pIx (mVar 2) (mLit (.int 2))))
 (mSeq (QP [13] "moved" (mVar 0) (mIfE (Qk (mVar 3)) (mOp2 pAdd (ZU [13] "moved" (mVar 0)) (mVar 6)) (mOp2 pSub (ZU [13] "moved" (mVar 0)) (mVar 6))))
 (mRet (mVar 6))))))))
theorem Qel{w ah bh:Nat}{A B:Sts}{g:G}{T l r y:D}{st own mv a b n asked:Int}{rt:Bool}(hw:g[w]?=some (.ins 13 (fwF T (.int st) l r (.int own) (.int mv))))(ha:g[ah]?=some (.lst (revD A)))(hb:g[bh]?=some (.lst (revD B)))(h1:w≠ah)(h2:w≠bh)(h3:ah≠bh)(zA:A.length<90000)(zB:B.length<90000):
  ∃g',QnL [some (.ref w),some (.int asked),some (.tup [.int a,y,.int b]),some (.bl rt),some (.ref ah),some (.ref bh),some (.int n)] g=.rt (.int n) g'/\Keeps [w,ah,bh] g g' /\
   g'[w]?=some (.ins 13 (fwF T (.int b) l r (.int (QD (QA A (n-1)))) (.int (if rt=true then mv+n else mv-n))))/\g'[ah]?=some (.lst (revD (QA (QA A (n-1)) 1)))/\g'[bh]?=some (.lst (revD (putN B a n))):=by
 generalize hσ:([some (.ref w),some (.int asked),some (.tup [.int a,y,.int b]),some (.bl rt),some (.ref ah),some (.ref bh),some (.int n)]:S3)=σ
 have v0:σ[0]?=some (some (.ref w)):=by rw[<-hσ];rfl
 have v2:σ[2]?=some (some (.tup [.int a,y,.int b])):=by rw[<-hσ];rfl
 have v3:σ[3]?=some (some (.bl rt)):=by rw[<-hσ];rfl
 have v4:σ[4]?=some (some (.ref ah)):=by rw[<-hσ];rfl
 have v5:σ[5]?=some (some (.ref bh)):=by rw[<-hσ];rfl
 have v6:σ[6]?=some (some (.int n)):=by rw[<-hσ];rfl
 unfold QnL
 have e1:=Qip (sg:=a) (c:=n) hb zB
 have w1:(g.set bh (.lst (revD (putN B a n))))[w]?=_:=(Uh h2.symm).trans hw
 have a1:(g.set bh (.lst (revD (putN B a n))))[ah]?=_:=(Uh h3.symm).trans ha
 have b1:(g.set bh (.lst (revD (putN B a n))))[bh]?=some (.lst (revD (putN B a n))):=QH hb
 have k1:Keeps [w,ah,bh] g (g.set bh (.lst (revD (putN B a n)))):=(Keeps.set _ _).mono (by simp)
 generalize g.set bh (.lst (revD (putN B a n)))=g1 at e1 w1 a1 b1 k1
 have e2:=Qfa (c:=n-1) a1 zA
 have w2:(g1.set ah (.lst (revD (QA A (n-1)))))[w]?=_:=(Uh h1.symm).trans w1
 have b2:(g1.set ah (.lst (revD (QA A (n-1)))))[bh]?=_:=(Uh h3).trans b1
 have a2:(g1.set ah (.lst (revD (QA A (n-1)))))[ah]?=some (.lst (revD (QA A (n-1)))):=QH a1
 have k2:Keeps [w,ah,bh] g1 (g1.set ah (.lst (revD (QA A (n-1))))):=(Keeps.set _ _).mono (by simp)
 generalize g1.set ah (.lst (revD (QA A (n-1))))=g2 at e2 w2 a2 b2 k2
 have e3:=Qb6 a2
 have zD:=Ju A (n-1)
 generalize hD:QA A (n-1)=D1 at e2 a2 e3 zD
 have w3:=QH (u:=.ins 13 (fwF T (.int st) l r (.int (QD D1)) (.int mv))) w2
 have a3:(g2.set w (.ins 13 (fwF T (.int st) l r (.int (QD D1)) (.int mv))))[ah]?=_:=(Uh h1).trans a2
 have b3:(g2.set w (.ins 13 (fwF T (.int st) l r (.int (QD D1)) (.int mv))))[bh]?=_:=(Uh h2).trans b2
 have k3:Keeps [w,ah,bh] g2 (g2.set w (.ins 13 (fwF T (.int st) l r (.int (QD D1)) (.int mv)))):=(Keeps.set _ _).mono (by simp)
 have s3:QP [13] "own" (mVar 0) (Qo Q2 (Qb (mVar 4) mNil)) σ g2=.nx σ (g2.set w (.ins 13 (fwF T (.int st) l r (.int (QD D1)) (.int mv)))):=by simp[v0,v4,e3,w2]
 generalize g2.set w (.ins 13 (fwF T (.int st) l r (.int (QD D1)) (.int mv)))=g3 at w3 a3 b3 k3 s3
 have e4:=Qfa (c:=1) a3 (by omega)
 have w4:(g3.set ah (.lst (revD (QA D1 1))))[w]?=_:=(Uh h1.symm).trans w3
 have b4:(g3.set ah (.lst (revD (QA D1 1))))[bh]?=_:=(Uh h3).trans b3
 have a4:(g3.set ah (.lst (revD (QA D1 1))))[ah]?=some (.lst (revD (QA D1 1))):=QH a3
 have k4:Keeps [w,ah,bh] g3 (g3.set ah (.lst (revD (QA D1 1)))):=(Keeps.set _ _).mono (by simp)
 generalize g3.set ah (.lst (revD (QA D1 1)))=g4 at e4 w4 a4 b4 k4
 refine⟨g4.set w (.ins 13 (fwF T (.int b) l r (.int (QD D1)) (.int (if rt=true then mv+n else mv-n)))),?_,(((k1.trans k2).trans k3).trans k4).trans ((Keeps.set _ _).mono (by simp)),QH w4,(Uh h1).trans a4,(Uh h2).trans b4⟩
 refine Qg σ g1 (by simp[v2,v5,v6,e1]) (Qg σ g2 (by simp[v4,v6,e2]) (Qg σ g3 s3 (Qg σ g4 (by simp[v4,e4]) ?_)))
 have w5:=QH (u:=.ins 13 (fwF T (.int b) l r (.int (QD D1)) (.int mv))) w4
 refine Qg σ (g4.set w (.ins 13 (fwF T (.int b) l r (.int (QD D1)) (.int mv)))) (by simp[v0,v2,w4]) ?_
 cases rt <;> simp[v0,v3,v6,w5]
theorem s_r':Str.ofString "r" = rS:=s_r
theorem QlH{rows:List (List D)}{w l r n m:Nat}{g:G}{S:RowN}{mv asked:Int}{d:D}{rr:RowN×Int×Int}(W:FRep rows w l r g S mv)(he:entOk d n m)(h0:0<=S.own)(h:Qb4 rows S.st S.own.toNat=some d)(hl:ZY d S asked=some rr)(zL:S.L.length<90000)(zR:S.R.length<90000):
  ∃g',YC [.ref w,.int asked] g=.ok (.int rr.2.1) g'/\FRep rows w l r g' rr.1 (mv+rr.2.2)/\Keeps [w,l,r] g g':=by
 have e0:=Qf3 W h0 h
 have hw:=W.w'
 unfold fwO at hw
 rcases he with rfl|⟨a,b,y,rfl,a0,a1,b0,b1,_⟩
 ·cases hl
 ·unfold ZY at hl
  dsimp only at hl
  cases hl
  have q1:∀c:Int,QbW [.ref r,.int S.own,.int c] g=_:=λc=>Qf2 (sg:=S.own) (c:=c) W.r'
  have q2:∀c:Int,QbW [.ref l,.int S.own,.int c] g=_:=λc=>Qf2 (sg:=S.own) (c:=c) W.l'
  by_cases hy:y=rS
  ·rw[Ud hy]
   obtain⟨g',x1,x2,x3,x4,x5⟩:=Qel (y:=.str y) (rt:=true) (asked:=asked) (a:=a) (b:=b) (n:=QF b S.st S.R S.own asked) hw W.r' W.l' W.wr W.wl W.lr.symm zR zL
   refine⟨g',QS rfl ?_,⟨?_,x5,x4,W.wl,W.wr,W.lr⟩,x2.mono (by simp)⟩
   ·show Zj [some (.ref w),some (.int asked),none,none,none,none,none] g=_
    rw[<-x1]
    unfold Zj
    refine Qg [some (.ref w),some (.int asked),some (.tup [.int a,.str y,.int b]),none,none,none,none] g (by simp[hw,e0]) (Qg [some (.ref w),some (.int asked),some (.tup [.int a,.str y,.int b]),some (.bl true),none,none,none] g (by simp[eq_str,s_r',hy]) (Qg [some (.ref w),some (.int asked),some (.tup [.int a,.str y,.int b]),some (.bl true),some (.ref r),none,none] g (by simp[hw]) (Qg [some (.ref w),some (.int asked),some (.tup [.int a,.str y,.int b]),some (.bl true),some (.ref r),some (.ref l),none] g (by simp[hw]) (Qg [some (.ref w),some (.int asked),some (.tup [.int a,.str y,.int b]),some (.bl true),some (.ref r),some (.ref l),some (.int (QF b S.st S.R S.own asked))] g ?_ rfl))))
    by_cases hb:b=(S.st:Int) <;> simp[hw,QF,hb,q1]
   ·rw[x3];show _=some (fwO rows ((b.toNat:Nat):Int) _ _ _ _);rw[Ti b0];rfl
  ·rw[Ue hy]
   obtain⟨g',x1,x2,x3,x4,x5⟩:=Qel (y:=.str y) (rt:=false) (asked:=asked) (a:=a) (b:=b) (n:=QF b S.st S.L S.own asked) hw W.l' W.r' W.wl W.wr W.lr zL zR
   refine⟨g',QS rfl ?_,⟨?_,x4,x5,W.wl,W.wr,W.lr⟩,x2⟩
   ·show Zj [some (.ref w),some (.int asked),none,none,none,none,none] g=_
    rw[<-x1]
    unfold Zj
    refine Qg [some (.ref w),some (.int asked),some (.tup [.int a,.str y,.int b]),none,none,none,none] g (by simp[hw,e0]) (Qg [some (.ref w),some (.int asked),some (.tup [.int a,.str y,.int b]),some (.bl false),none,none,none] g (by simp[eq_str,s_r',hy]) (Qg [some (.ref w),some (.int asked),some (.tup [.int a,.str y,.int b]),some (.bl false),some (.ref l),none,none] g (by simp[hw]) (Qg [some (.ref w),some (.int asked),some (.tup [.int a,.str y,.int b]),some (.bl false),some (.ref l),some (.ref r),none] g (by simp[hw]) (Qg [some (.ref w),some (.int asked),some (.tup [.int a,.str y,.int b]),some (.bl false),some (.ref l),some (.ref r),some (.int (QF b S.st S.L S.own asked))] g ?_ rfl))))
    by_cases hb:b=(S.st:Int) <;> simp[hw,QF,hb,q2]
   ·rw[x3];show _=some (fwO rows ((b.toNat:Nat):Int) _ _ _ _);rw[Ti b0];rfl
theorem Qb7{α:Type}{s:Nat}{xs:List α}{F H:α->D}{t:MG}{e:ME}{n:Nat}{cap:List Nat}{σ:S3}{g0 g:G}{a:ME}(hs:g[s]?=some (.lst (xs.map F)))(hz:xs.length<=100000)(ha:a σ g0=.ok (.ref s) g)(I:S3->Prop)(h0:I (capt n cap σ))(step:∀x∈xs,∀σ',I σ'->∃σ1,t (F x) σ'=some σ1/\I σ1/\e σ1 g=.ok (H x) g):JC (Zy a) n cap t YM e σ g0=.ok (.ref g.length) (g++[.lst (xs.map H)]):=by
 have hit:Zy a σ g0=.ok (srcL s xs.length) g:=by
  unfold Zy
  rw[ha,Res.bind_ok]
  unfold Qa3
  dsimp only
  rw[hs]
  dsimp only
  rw[Uw]
  try rfl
 obtain⟨ys,σ',g3,c1,c2,c3,_⟩:=YE (src:=srcL s xs.length) (t:=t) (c:=YM) (e:=e) (n:=xs.length)
  (λi σ' g4 acc=>acc=(xs.take i).map H/\g4=g/\I σ') (λi σ' g4 acc hi hQ=>by
   obtain⟨q1,q2,q3⟩:=hQ
   subst q2
   obtain⟨σ1,e1,e2,e3⟩:=step xs[i] (UL hi) σ' q3
   refine⟨F xs[i],σ1,g4,?_,e1,.inl ⟨H xs[i],g4,rfl,e3,?_,rfl,e2⟩⟩
   ·show(match g4[s]? with|some (.lst es)=>some es[i]? | _=>none)=_
    rw[hs];dsimp only;rw[UA,UP hi];rfl
   ·rw[q1,UU hi,Wh];rfl) (λσ g4 acc hQ=>by
   show(match g4[s]? with|some (.lst es)=>some es[xs.length]? | _=>none)=_
   rw[hQ.2.1,hs];dsimp only;rw[Tx (by simp)]) (xs.length+1) 0 (capt n cap σ) g [] (by omega) (by omega) ⟨rfl,rfl,h0⟩
 rw[Ru]at c2
 subst c2 c3
 exact Qe6 hit (U3 (QcS hz)) rfl c1
theorem Qis{α:Type}{H:α->D}{xs:List α}(h:∀x∈xs,H x=.bl true):allB (xs.map H)=some true:=by
 induction xs with
 |nil=>rfl
 |cons p r ih =>
  rw[UH,h p (Uv ..)]
  show(allB (r.map H)).map (true && ·)=_
  rw[ih λx hx=>h x (Ux _ hx)];rfl
theorem QgL{α:Type}{H:α->D}{xs:List α}(h:∀x∈xs,H x=.bl false):anyB (xs.map H)=some false:=by
 induction xs with
 |nil=>rfl
 |cons p r ih =>
  rw[UH,h p (Uv ..)]
  show(anyB (r.map H)).map (false || ·)=_
  rw[ih λx hx=>h x (Ux _ hx)];rfl
theorem Qb8{m:Int}:∀{s:Sts}{p:Int×Int},Zv m s->p∈s->0<=p.1/\p.1<m/\1<=p.2
 |_::_,_,h,hp=>by
  rcases UD.mp hp with rfl|hp
  ·exact⟨h.1,h.2.1,h.2.2.1⟩
  ·exact Qb8 h.2.2.2.2 hp
theorem QcT{m:Int}:∀{s:Sts}{i:Nat}{x y:Int×Int},Zv m s->s[i]?=some x->s[i+1]?=some y->x.1≠y.1
 |[],_,_,_,_,h,_=>by simp at h
 |p::r,0,x,y,h,hx,hy=>by
  have:p=x:=by simpa using hx
  subst this
  cases r with
  |nil=>simp at hy
  |cons q r =>
   have:q=y:=by simpa using hy
   subst this
   exact λe=>h.2.2.2.1 e.symm
 |p::r,i+1,x,y,h,hx,hy=>QcT (s:=r) (i:=i) h.2.2.2.2 (by simpa using hx) (by simpa using hy)
theorem Qem{m:Int}:∀{s:Sts}{p:Int×Int},Zv m (s++[p])->p.1≠0
 |[],_,h=>λe=>h.2.2.2.1 (by rw[e];rfl)
 |_::r,_,h=>Qem (s:=r) h.2.2.2.2
theorem QgM{p:Int×Int}{g:G}(h1:0<=p.1)(h2:1<=p.2):Z8 [stD p] g=.ok (.bl true) g:=by
 have e:∀i:Int,QU [.int i] g=.ok (.bl (decide (0<=i))) g:=λi=>rfl
 have e2:pLen (.tup [.int p.1,.int p.2]) g=.ok (.int 2) g:=rfl
 have e3:ZV .tuple (.tup [.int p.1,.int p.2]) g=.ok (.bl true) g:=rfl
 exact QS rfl (by simp[Qa5,stD,e,e2,e3,h1,show 0<=p.2 by omega,show 0<p.2 by omega])
theorem cut1(xs:List D):cutD xs (some 1) none=xs.drop 1:=by
 unfold cutD sIxD
 cases xs with
 |nil=>rfl
 |cons x r=>simp
theorem Qit(side:Sts):side=[]\/∃a p,side=a++[p]:=by
 rcases List.eq_nil_or_concat side with h|⟨a,p,h⟩
 ·exact .inl h
 ·exact .inr ⟨a,p,by simpa using h⟩
theorem QaH{s m:Nat}{side:Sts}{g:G}(hs:g[s]?=some (.lst (stsD side)))(hG:Zv m side)(hz:side.length<=90000):∃g',YW [.ref s] g=.ok .non g'/\Keeps [] g g':=by
 have hl:=JA hs
 have c1:=Qb7 (F:=stD) (H:=λ_=>.bl true) (t:=gSet 0) (e:=Qo Z8 (Qb (mVar 0) mNil)) (n:=1) (cap:=[]) (σ:=[some (.ref s),none,none]) (a:=mVar 0) hs (by omega) rfl (λσ=>∃u,σ=[u]) ⟨_,rfl⟩ (λx hx σ' ⟨u,hu⟩=>by
  have h1:=Qb8 hG hx
  subst hu
  exact⟨[some (stD x)],rfl,⟨_,rfl⟩,by simp[QgM h1.1 h1.2.2]⟩)
 have a1:allB (side.map λ_=>D.bl true)=some true:=Qis λ_ _=>rfl
 have hk:Keeps [] g (g++[.lst (side.map λ_=>D.bl true)]):=.push _
 have p1:pAll (.ref g.length) (g++[.lst (side.map λ_=>D.bl true)])=.ok (.bl true) (g++[.lst (side.map λ_=>D.bl true)]):=by simp[pAll,a1]
 generalize g++[.lst (side.map λ_=>D.bl true)]=g1 at c1 hk p1
 have hs1:=hk.at' _ _ (by simp) hs
 have t0:Qec (.ref s) g=.ok (.bl true) g:=by unfold Qec tyOf;dsimp only;rw[hs];rfl
 have s1:QbC (.ref s) (some 1) none g1=.ok (.ref g1.length) (g1++[.lst ((stsD side).drop 1)]):=by unfold QbC;dsimp only;rw[hs1];dsimp only;rw[cut1]
 have k2:Keeps [] g1 (g1++[.lst ((stsD side).drop 1)]):=.push _
 have r2:=QQ (g:=g1) (.lst ((stsD side).drop 1))
 generalize hr:g1.length=r at s1 r2
 generalize g1++[.lst ((stsD side).drop 1)]=g2 at s1 k2 r2
 have hs2:=k2.at' _ _ (by simp) hs1
 have q1:=Qb3 hs2
 have q2:=Qb3 r2
 have hlen:(stsD side).length=side.length:=by simp[stsD]
 have hz2:∃src,QcE (.ref s) (.ref r) g2=.ok src g2/\src.top=side.length-1/\(∀i,i<side.length-1->∃x y,side[i]?=some x/\side[i+1]?=some y/\src.at' g2 i=some (some (.tup [stD x,stD y])))/\src.at' g2 (side.length-1)=some none:=by
  unfold QcE
  rw[q1,q2]
  refine⟨_,rfl,by simp[hlen],λi hi=>?_,?_⟩
  ·have e1:(stsD side)[i]?=some (stD (side[i]'(by omega))):=by unfold stsD;rw[UA,UP (by omega)];rfl
   have e2:((stsD side).drop 1)[i]?=some (stD (side[i+1]'(by omega))):=by unfold stsD;rw[List.getElem?_drop,UA,show 1+i=i+1 by omega,UP (by omega)];rfl
   exact⟨_,_,UP (by omega),UP (by omega),by dsimp only;rw[q1,q2];dsimp only;rw[e1,e2]⟩
  ·dsimp only;rw[q1,q2];dsimp only
   rw[show((stsD side).drop 1)[side.length-1]?=none from Tx (by rw[TF,hlen];omega)]
   cases (stsD side)[side.length-1]? <;> rfl
 obtain⟨src,z1,z2,z3,z4⟩:=hz2
 obtain⟨σ',g',f1,rfl,y1,y2,rfl⟩:=Qid (t:=Qai [gSet 1,gSet 2]) (body:=YA) (σ:=[some (.ref s),none,none]) (g:=g2) z2 (λ_ σ g'=>g'=g2/\∃y1 y2,σ=[some (.ref s),y1,y2]) ⟨rfl,_,_,rfl⟩ (λi σ g' hi ⟨q,y1,y2,hσ⟩=>by
  subst q hσ
  obtain⟨x,y,hx,hy,hat⟩:=z3 i hi
  refine⟨_,[some (.ref s),some (stD x),some (stD y)],[some (.ref s),some (stD x),some (stD y)],g',hat,rfl,?_,rfl,_,_,rfl⟩
  have:=QcT hG hx hy
  simp[YA,stD,this]) (λσ g' ⟨q,_⟩=>by rw[q];exact z4)
 refine⟨g',QaE rfl (?_:JP [some (.ref s),none,none] g=.nx [some (.ref s),y1,y2] g'),hk.trans k2⟩
 unfold JP
 refine Qg [some (.ref s),none,none] g1 ?_ (Qg [some (.ref s),y1,y2] g' ?_ ?_)
 ·have:Qk (mOp1 pAll (JC (Zy (mVar 0)) 1 [] (gSet 0) YM (Qo Z8 (Qb (mVar 0) mNil)))) [some (.ref s),none,none] g=.ok true g1:=YG (JR c1 p1)
  exact iff' g1 (by rw[Qkq,Qil,QlC,QnI,Qik];simp only[Tn,t0];rw[Qil,this];rfl) rfl
 ·have e:Qa4 (mVar 0) (Qar (mVar 0) (Qco (mLit (.int 1))) JD) [some (.ref s),none,none] g1=.ok src g':=by
   unfold Qa4 Qar Qco JD
   simp[Res.bind,s1,z1]
  unfold mFor
  rw[e]
  exact f1
 ·have hl2:=JA hs2
  rcases Qit side with rfl|⟨a,p,rfl⟩
  ·simp[hl2,stsD]
  ·have h3:pIx (.ref s) (.int (-1)) g'=.ok (stD p) g':=by
    have:g'[s]?=some (.lst (stD p::(stsD a).reverse).reverse):=by rw[hs2];simp[stsD]
    exact QfW this
   have:=Qem hG
   simp[hl2,hlen,h3]
   simp[stD,this]
structure StR(n m:Nat)(g:G)(d:D)(st:Nat)(L R:Sts)(a b:Nat):Prop where
 d':d=.tup [.int st,.ref a,.ref b]
 a':g[a]?=some (.lst (stsD L))
 b':g[b]?=some (.lst (stsD R))
 L':Zv m L
 R':Zv m R
 s':st<n
theorem StR.mono{n m:Nat}{g g1:G}{d:D}{st:Nat}{L R:Sts}{a b:Nat}(h:StR n m g d st L R a b)(k:Keeps [] g g1):StR n m g1 d st L R a b :=
 ⟨h.d',k.at' _ _ (by simp) h.a',k.at' _ _ (by simp) h.b',h.L',h.R',h.s'⟩
theorem Qb9{n m:Nat}{g:G}{d:D}{st:Nat}{L R:Sts}{a b:Nat}(h:StR n m g d st L R a b)(zL:L.length<=90000)(zR:R.length<=90000):∃g',Zq [d] g=.ok .non g'/\Keeps [] g g':=by
 obtain⟨g1,e1,k1⟩:=QaH h.a' h.L' zL
 obtain⟨g2,e2,k2⟩:=QaH (k1.at' _ _ (by simp) h.b') h.R' zR
 have hd:=h.d'
 subst hd
 refine⟨g2,QaE (σ:=[some (.tup [.int st,.ref a,.ref b])]) rfl ?_,k1.trans k2⟩
 have e:∀i:Int,QU [.int i] g=.ok (.bl (decide (0<=i))) g:=λi=>rfl
 have e3:pLen (.tup [.int st,.ref a,.ref b]) g=.ok (.int 3) g:=rfl
 have e4:ZV .tuple (.tup [.int st,.ref a,.ref b]) g=.ok (.bl true) g:=rfl
 simp[Jd,e,e1,e2,e3,e4]
theorem Qks{s m:Nat}{side:Sts}{g:G}{σ:S3}{d0 d1 d3:Option D}(hσ:σ=[d0,d1,some (.int m),some (.ref s)])(hs:g[s]?=some (.lst (stsD side)))(hG:Zv m side)(hz:side.length<=90000):Zl σ g=.nx σ (g++[.lst (side.map λ_=>D.bl false)]):=by
 subst hσ
 have c1:=Qb7 (F:=stD) (H:=λ_=>.bl false) (t:=Qai [gSet 0,gSet 1]) (e:=mOp2 pGe (mVar 0) (mVar 2)) (n:=2) (cap:=[2]) (σ:=[d0,d1,some (.int m),some (.ref s)]) (a:=mVar 3) hs (by omega) rfl (λσ=>∃u v,σ=[u,v,some (.int m)]) ⟨_,_,rfl⟩ (λx hx σ' ⟨u,v,hu⟩=>by
  have h1:=Qb8 hG hx
  subst hu
  exact⟨[some (.int x.1),some (.int x.2),some (.int m)],rfl,⟨_,_,rfl⟩,by simp;omega⟩)
 have a1:anyB (side.map λ_=>D.bl false)=some false:=QgL λ_ _=>rfl
 have p1:pAny (.ref g.length) (g++[.lst (side.map λ_=>D.bl false)])=.ok (.bl false) (g++[.lst (side.map λ_=>D.bl false)]):=by simp[pAny,a1]
 unfold Zl
 exact iff' _ (YG (JR c1 p1)) rfl
theorem QjM{M:Nat}{rows:List (List D)}{g:G}(hM:g[M]?=some (JQ rows)):Qak [.ref M] g=.ok (.int rows.length) g:=by
 refine QS rfl ?_
 unfold JQ at hM
 simp[QbS,hM,pLen]
theorem QjN{M m:Nat}{rows:List (List D)}{g:G}(hM:g[M]?=some (JQ rows))(h0:0<rows.length)(hr:∀r∈rows,r.length=m):QaU [.ref M] g=.ok (.int m) g:=by
 refine QS rfl ?_
 unfold JQ at hM
 cases rows with
 |nil=>simp at h0
 |cons r rest =>
  have:=hr r (Uv ..)
  simp[QcP,hM,pLen,this]
theorem Qdz{n m M:Nat}{rows:List (List D)}{g:G}{d:D}{st:Nat}{L R:Sts}{a b:Nat}(T:Tb rows n m)(hM:g[M]?=some (JQ rows))(h:StR n m g d st L R a b)(zL:L.length<=90000)(zR:R.length<=90000):∃g',ZQ [.ref M,d] g=.ok .non g'/\Keeps [] g g':=by
 obtain⟨g1,e1,k1⟩:=Qb9 h zL zR
 have hM1:=k1.at' _ _ (by simp) hM
 have e2:=QjM hM1
 have e3:=QjN hM1 (by rw[T.len];exact T.n0) T.row
 have h1:=h.mono k1
 have hd:=h.d'
 subst hd
 have hst:=h.s'
 generalize hx:([some (.ref M),some (.tup [.int st,.ref a,.ref b]),some (.int m)]:S3)=σ0
 have s1:=Qks (d0:=some (.ref M)) (d1:=some (.tup [.int st,.ref a,.ref b])) (d3:=none) rfl h1.a' h1.L' zL
 have k2:Keeps [] g1 (g1++[.lst (L.map λ_=>D.bl false)]):=.push _
 generalize g1++[.lst (L.map λ_=>D.bl false)]=g2 at s1 k2
 have h2:=h1.mono k2
 have s2:=Qks (d0:=some (.ref M)) (d1:=some (.tup [.int st,.ref a,.ref b])) (d3:=none) rfl h2.b' h2.R' zR
 have k3:Keeps [] g2 (g2++[.lst (R.map λ_=>D.bl false)]):=.push _
 generalize g2++[.lst (R.map λ_=>D.bl false)]=g3 at s2 k3
 refine⟨g3,QaE (σ:=[some (.ref M),some (.tup [.int st,.ref a,.ref b]),some (.int m),some (.ref b)]) rfl ?_,(k1.trans k2).trans k3⟩
 unfold YX
 refine Qg [some (.ref M),some (.tup [.int st,.ref a,.ref b]),none,none] g1 (by simp[e1]) (Qg [some (.ref M),some (.tup [.int st,.ref a,.ref b]),none,none] g1 (by simp[e2,T.len];intro z;omega) (Qg [some (.ref M),some (.tup [.int st,.ref a,.ref b]),some (.int m),none] g1 (by simp[e3]) ?_))
 have e5:Zy (Qar (mVar 1) (Qco (mLit (.int 1))) JD) [some (.ref M),some (.tup [.int st,.ref a,.ref b]),some (.int m),none] g1=.ok ⟨λ_ i=>some ([D.ref a,D.ref b]:List D)[i]?,2⟩ g1:=rfl
 rw[QaD e5]
 show forL _ _ _ 3 0 _ _=_
 simp[forL,gSet,s1,s2]
theorem J5{s:Nat}{ds:List D}{g:G}(hs:g[s]?=some (.lst ds)):ZC (.ref s) g=.ok (.ref g.length) (g++[.lst ds.reverse]):=by unfold ZC;rw[Qb3 hs]
theorem JT{g:G}{t:List GO}{M:Nat}{o:GO}(h:g[M]?=some o):(g++t)[M]?=some o:=by rw[Uy (Yb h)];exact h
theorem gt0{g:G}{t:List GO}{o:GO}:(g++o::t)[g.length]?=some o:=by simp
theorem gt1{g:G}{t:List GO}{o p:GO}:(g++p::o::t)[g.length+1]?=some o:=by simp
theorem gt2{g:G}{t:List GO}{o p q:GO}:(g++q::p::o::t)[g.length+2]?=some o:=by simp
theorem st0{g:G}{t:List GO}{o u:GO}:(g++o::t).set g.length u=g++u::t:=by simp
theorem st2{g:G}{t:List GO}{o p q u:GO}:(g++q::p::o::t).set (g.length+2) u=g++q::p::u::t:=by rw[Bk _ _ (by omega)];simp
theorem QlI{n m M:Nat}{rows:List (List D)}{g:G}{d:D}{st:Nat}{L R:Sts}{a b:Nat}{σ:S3}(hM:g[M]?=some (JQ rows))(h:StR n m g d st L R a b)(zR:R.length<90000)(v0:σ[0]?=some (some (.ref M)))(v1:σ[1]?=some (some d)):
  ∃w l r g',QbB 13 ZP (Qb (mVar 0) (Qb (mVar 1) mNil)) σ g=.ok (.ref w) g'/\FRep rows w l r g' ⟨st,L,QD R,QA R 1⟩ 0/\g.length<=w/\g.length<=l/\g.length<=r/\Keeps [] g g':=by
 have hd:=h.d'
 subst hd
 unfold JQ at hM
 have zz:(QA R 1).length<90000:=by have:=Ju R 1;omega
 let σ0:S3:=[some (.ref g.length),some (.ref M),some (.tup [.int st,.ref a,.ref b])]
 have hi:ZP [.ref g.length,.ref M,.tup [.int st,.ref a,.ref b]] (g++[.ins 13 []])=.ok .non (g++[fwO rows st (QD R) 0 (g.length+1) (g.length+2),.lst (revD L),.lst (revD (QA R 1))]):=by
  refine QaE (σ:=σ0) rfl ?_
  show YB σ0 (g++[.ins 13 []])=_
  unfold YB
  refine Qg σ0 (g++[.ins 13 [(Str.ofString "table",.tup (rows.map .tup))]]) (by simp[σ0,JT hM,pi1]) ?_
  refine Qg σ0 (g++[.ins 13 [(Str.ofString "table",.tup (rows.map .tup)),(Str.ofString "state",.int st)]]) (by simp[σ0,pi2]) ?_
  have q1:ZC (.ref a) (g++[.ins 13 [(Str.ofString "table",.tup (rows.map .tup)),(Str.ofString "state",.int st)]])=.ok (.ref (g.length+1)) (g++[.ins 13 [(Str.ofString "table",.tup (rows.map .tup)),(Str.ofString "state",.int st)],.lst (revD L)]):=by rw[J5 (JT h.a')];simp[revD]
  refine Qg σ0 (g++[.ins 13 [(Str.ofString "table",.tup (rows.map .tup)),(Str.ofString "state",.int st),(Str.ofString "left",.ref (g.length+1))],.lst (revD L)]) (by simp[σ0,q1,pi3]) ?_
  have q2:ZC (.ref b) (g++[.ins 13 [(Str.ofString "table",.tup (rows.map .tup)),(Str.ofString "state",.int st),(Str.ofString "left",.ref (g.length+1))],.lst (revD L)])=.ok (.ref (g.length+2)) (g++[.ins 13 [(Str.ofString "table",.tup (rows.map .tup)),(Str.ofString "state",.int st),(Str.ofString "left",.ref (g.length+1))],.lst (revD L),.lst (revD R)]):=by rw[J5 (JT h.b')];simp[revD]
  refine Qg σ0 (g++[.ins 13 [(Str.ofString "table",.tup (rows.map .tup)),(Str.ofString "state",.int st),(Str.ofString "left",.ref (g.length+1)),(Str.ofString "right",.ref (g.length+2))],.lst (revD L),.lst (revD R)]) (by simp[σ0,q2,pi4]) ?_
  have q3:=Qb6 (gt2 (g:=g) (t:=[]) (q:=.ins 13 [(Str.ofString "table",.tup (rows.map .tup)),(Str.ofString "state",.int st),(Str.ofString "left",.ref (g.length+1)),(Str.ofString "right",.ref (g.length+2))]) (p:=.lst (revD L)) (o:=.lst (revD R)))
  refine Qg σ0 (g++[.ins 13 [(Str.ofString "table",.tup (rows.map .tup)),(Str.ofString "state",.int st),(Str.ofString "left",.ref (g.length+1)),(Str.ofString "right",.ref (g.length+2)),(Str.ofString "own",.int (QD R))],.lst (revD L),.lst (revD R)]) (by simp[σ0,Qiq,q3,pi5]) ?_
  have q4:=Qfa (c:=1) (gt2 (g:=g) (t:=[]) (q:=.ins 13 [(Str.ofString "table",.tup (rows.map .tup)),(Str.ofString "state",.int st),(Str.ofString "left",.ref (g.length+1)),(Str.ofString "right",.ref (g.length+2)),(Str.ofString "own",.int (QD R))]) (p:=.lst (revD L)) (o:=.lst (revD R))) zR
  rw[st2]at q4
  refine Qg σ0 (g++[.ins 13 [(Str.ofString "table",.tup (rows.map .tup)),(Str.ofString "state",.int st),(Str.ofString "left",.ref (g.length+1)),(Str.ofString "right",.ref (g.length+2)),(Str.ofString "own",.int (QD R))],.lst (revD L),.lst (revD (QA R 1))]) (by simp[σ0,Qir,q4]) ?_
  simp[σ0,pi6,fwO]
 refine⟨g.length,g.length+1,g.length+2,g++[fwO rows st (QD R) 0 (g.length+1) (g.length+2),.lst (revD L),.lst (revD (QA R 1))],?_,⟨gt0,gt1,gt2,by omega,by omega,by omega⟩,by omega,by omega,by omega,⟨by simp,λk o _ e=>JT e⟩⟩
 unfold QbB
 simp[v0,v1,Res.bind,hi]
theorem QnM{rows:List (List D)}{w l r:Nat}{g:G}{S:RowN}{mv:Int}(W:FRep rows w l r g S mv)(zR:S.R.length<90000):
  ∃a b g',Z5 [.ref w] g=.ok (.tup [.int S.st,.ref a,.ref b]) g'/\Keeps [] g g'/\g.length<=a/\a<b/\g'[a]?=some (.lst (stsD S.L))/\g'[b]?=some (.lst (stsD (putN S.R S.own 1))):=by
 have hw:=W.w'
 unfold fwO at hw
 refine⟨g.length+1,g.length+2,g++[.lst (revD (putN S.R S.own 1)),.lst (stsD S.L),.lst (stsD (putN S.R S.own 1))],QS rfl ?_,⟨by simp,λk o _ e=>JT e⟩,by omega,by omega,gt1,gt2⟩
 show Y7 [some (.ref w),none] g=_
 unfold Y7
 have q1:Qhk (.ref r) g=.ok (.ref g.length) (g++[.lst (revD S.R)]):=by simp[Qhk,W.r']
 refine Qg [some (.ref w),some (.ref g.length)] (g++[.lst (revD S.R)]) (by simp[hw,q1]) ?_
 have q2:=Qip (sg:=S.own) (c:=1) (gt0 (g:=g) (t:=[]) (o:=.lst (revD S.R))) zR
 rw[st0]at q2
 refine Qg [some (.ref w),some (.ref g.length)] (g++[.lst (revD (putN S.R S.own 1))]) (by simp[JT hw,q2]) ?_
 have q3:ZC (.ref l) (g++[.lst (revD (putN S.R S.own 1))])=.ok (.ref (g.length+1)) (g++[.lst (revD (putN S.R S.own 1)),.lst (stsD S.L)]):=by rw[J5 (JT W.l')];simp[revD]
 have q4:ZC (.ref g.length) (g++[.lst (revD (putN S.R S.own 1)),.lst (stsD S.L)])=.ok (.ref (g.length+2)) (g++[.lst (revD (putN S.R S.own 1)),.lst (stsD S.L),.lst (stsD (putN S.R S.own 1))]):=by rw[J5 gt0];simp[revD]
 simp[JT hw,q3,q4,pTup,SZ]
theorem J6{c:MT}{body:MS}:∀(f:Nat)(σ:S3)(g:G),Zx c body f σ g≠.stuck->∀f',f<=f'->Zx c body f' σ g=Zx c body f σ g
 |0,_,_,h,_,_=>absurd rfl h
 |f+1,σ,g,h,f',hf=>by
  obtain⟨k,rfl⟩:∃k,f'=k+1:=⟨f' - 1,by omega⟩
  unfold Zx at h ⊢
  cases hc:c σ g with
  |stuck=>rfl
  |raise e g1=>rfl
  |ok b g1 =>
   cases b with
   |false=>rfl
   |true =>
    rw[hc]at h
    dsimp only at h ⊢
    cases hb:body σ g1 with
    |nx σ2 g2=>rw[hb]at h;exact J6 f σ2 g2 h k (by omega)
    |ct σ2 g2=>rw[hb]at h;exact J6 f σ2 g2 h k (by omega)
    |bk σ2 g2=>rfl
    |rt d g2=>rfl
    |raise e σ2 g2=>rfl
    |stuck=>rfl
theorem Qbs{c:MT}{body:MS}{f:Nat}{σ:S3}{g:G}{R:Out}(h:Zx c body f σ g=R)(hR:R≠.stuck):QbA c body σ g=R:=by
 have hx:∃f,Zx c body f σ g≠.stuck:=⟨f,by rw[h];exact hR⟩
 unfold QbA
 rw[dif_pos hx]
 have h1:=hx.choose_spec
 rcases Nat.le_total f hx.choose with z|z
 ·rw[J6 f σ g (by rw[h];exact hR) _ z,h]
 ·rw[<-J6 _ σ g h1 f z,h]
theorem Keeps.over{S:List Nat}{g g1 g2:G}(a:Keeps [] g g1)(b:Keeps S g1 g2)(h:∀n∈S,g.length<=n):Keeps [] g g2 :=
 ⟨Ut a.len b.len,λn o _ e=>b.at' n o (λz=>by have:=h n z;have:=Yb e;omega) (a.at' n o (by simp) e)⟩
theorem QjO{d:D}{S:RowN}{w:Int}{r:RowN×Int×Int}(h:ZY d S w=some r):r.1.L.length+r.1.R.length<=S.L.length+S.R.length+1:=by
 unfold ZY at h
 split at h
 ·rename_i a y b
  cases h
  split
  ·have:=Qdy S.L a (QF b S.st S.R S.own w)
   have:=Ju S.R (QF b S.st S.R S.own w-1)
   have:=Ju (QA S.R (QF b S.st S.R S.own w-1)) 1
   dsimp only;omega
  ·have:=Qdy S.R a (QF b S.st S.L S.own w)
   have:=Ju S.L (QF b S.st S.L S.own w-1)
   have:=Ju (QA S.L (QF b S.st S.L S.own w-1)) 1
   dsimp only;omega
 ·cases h
noncomputable def QgN:MT:=(QaN (Qk (mOp2 pLt (mVar 5) (mVar 2))) (Qk (mOp2 Qaq (Qcn 13 (Str.ofString "entry") Zd (mVar 4) mNil) (mLit .non))))
noncomputable def Jg(M:Nat)(d:D)(steps most:Int)(w:Nat)(done leaps:Int):S3:=[some (.ref M),some d,some (.int steps),some (.int most),some (.ref w),some (.int done),some (.int leaps)]
theorem Qen{rows:List (List D)}{n m M w l r:Nat}{d:D}{steps most:Int}(T:Tb rows n m):∀(k:Nat)(S:RowN)(g:G)(done leaps mv:Int),OkN n m S->FRep rows w l r g S mv->leaps+k=most->S.L.length+S.R.length+min k (steps-done).toNat<80000 ->
  ∃g',Keeps [w,l,r] g g'/\(match runN rows k S (steps-done) with
   |some q=>Zx QgN QK (k+2) (Jg M d steps most w done leaps) g=.nx (Jg M d steps most w (done+q.2.2.1) (leaps+q.2.2.2)) g'/\FRep rows w l r g' q.1 (mv+q.2.1)/\q.1.L.length+q.1.R.length<=S.L.length+S.R.length+min k (steps-done).toNat
   |none=>∃σ',Zx QgN QK (k+2) (Jg M d steps most w done leaps) g=.raise (6,none) σ' g')
 |k,S,g,done,leaps,mv,ho,W,hm,hz=>by
  have h0:=ho.o0;have h1:=ho.o1
  obtain⟨row,e,_,_,he,hat⟩:=T.at ho.st (c:=S.own.toNat) (by omega)
  have hw:=W.w'
  unfold fwO at hw
  have e0:=Qf3 W h0 hat
  unfold Zx
  have tc:QgN (Jg M d steps most w done leaps) g=.ok (decide (done<steps) && !isNon e) g:=by
   unfold QgN Jg
   by_cases z:done<steps <;> simp[z,hw,e0,Qaq]
  have hN:∀u,Yi rows S u=ZY e S u:=λu=>by unfold Yi;rw[hat];rfl
  by_cases z:done<steps
  ·rcases he with rfl|⟨a,b,y,rfl,he⟩
   ·rw[JS (by rw[hN];rfl)]
    refine⟨g,.refl,?_,by simpa using W,by dsimp only;omega⟩
    rw[tc,UC z];simp[isNon]
   ·have he':entOk (.tup [.int a,.str y,.int b]) n m:=.inr ⟨a,b,y,rfl,he⟩
    have tt:QgN (Jg M d steps most w done leaps) g=.ok true g:=by rw[tc,UC z];rfl
    rw[tt]
    dsimp only
    obtain⟨rr,hl⟩:∃rr,ZY (.tup [.int a,.str y,.int b]) S (steps-done)=some rr:=⟨_,rfl⟩
    cases k with
    |zero =>
     rw[Qe9 (by omega) ((hN _).trans hl)]
     refine⟨g,.refl,Jg M d steps most w done leaps,?_⟩
     have eb:QK (Jg M d steps most w done leaps) g=.raise (6,none) (Jg M d steps most w done leaps) g:=by
      unfold QK
      refine Qb0 (ift g ?_ ?_)
      ·unfold Jg;simp;omega
      ·simp[Qfs,SZ]
     rw[eb]
    |succ k =>
     obtain⟨g1,x1,x2,x3⟩:=QlH W he' h0 hat hl (by omega) (by omega)
     have hln:=QjO hl
     obtain⟨o1,s1,s2⟩:=Qe8 ho he' T.m0 (by omega) hl
     obtain⟨g2,k2,y2⟩:=Qen (d:=d) (M:=M) (steps:=steps) (most:=most) T k rr.1 g1 (done+rr.2.1) (leaps+1) (mv+rr.2.2) o1 x2 (by omega) (by omega)
     have eb:QK (Jg M d steps most w done leaps) g=.nx (Jg M d steps most w (done+rr.2.1) (leaps+1)) g1:=by
      unfold QK
      refine Qg (Jg M d steps most w done leaps) g (iff' g ?_ rfl) (Qg (Jg M d steps most w (done+rr.2.1) leaps) g1 ?_ ?_)
      ·unfold Jg;simp;omega
      ·unfold Jg;simp[hw,x1]
      ·unfold Jg;simp
     refine⟨g2,x3.trans k2,?_⟩
     rw[eb]
     dsimp only
     rw[YH (by omega) ((hN _).trans hl),show steps-done-rr.2.1=steps - (done+rr.2.1) by omega]
     cases hr:runN rows k rr.1 (steps - (done+rr.2.1)) with
     |none=>rw[hr]at y2;exact y2
     |some q =>
      rw[hr]at y2
      obtain⟨z1,z2,z3⟩:=y2
      dsimp only[Option.map]
      refine⟨?_,?_,by omega⟩
      ·rw[z1];congr 2 <;> omega
      ·rw[<-Int.add_assoc];exact z2
  ·rw[Yj (by omega)]
   refine⟨g,.refl,?_,by simpa using W,by dsimp only;omega⟩
   rw[tc,UB z];simp
theorem QlJ{rows:List (List D)}{n m M k:Nat}{d:D}{steps:Int}{g:G}{st:Nat}{L R:Sts}{a b:Nat}(T:Tb rows n m)(hM:g[M]?=some (JQ rows))(h:StR n m g d st L R a b)(hz:L.length+R.length+min k steps.toNat<80000):
  ∃g',Keeps [] g g'/\(match runN rows k ⟨st,L,QD R,QA R 1⟩ steps with
   |some q=>∃a' b',Jq [.ref M,d,.int steps,.int k] g=.ok (.tup [.tup [.int q.1.st,.ref a',.ref b'],.int q.2.1,.int q.2.2.1,.int q.2.2.2]) g'/\StR n m g' (.tup [.int q.1.st,.ref a',.ref b']) q.1.st q.1.L (putN q.1.R q.1.own 1) a' b'/\q.1.L.length+q.1.R.length<=L.length+R.length+min k steps.toNat
   |none=>Jq [.ref M,d,.int steps,.int k] g=.raise (6,none) g'):=by
 obtain⟨g1,e1,k1⟩:=Qdz T hM h (by omega) (by omega)
 have hM1:=k1.at' _ _ (by simp) hM
 obtain⟨w,l,r,g2,e2,W2,w1,w2,w3,k2⟩:=QlI (σ:=[some (.ref M),some d,some (.int steps),some (.int k),none,none,none]) hM1 (h.mono k1) (by omega) rfl rfl
 have hn:=Qe7 h.R' T.m0
 have ho:OkN n m ⟨st,L,QD R,QA R 1⟩:=⟨h.s',hn.1,hn.2,h.L',Je h.R'⟩
 have hdl:=Ju R 1
 obtain⟨g3,k3,y3⟩:=Qen (M:=M) (d:=d) (steps:=steps) (most:=k) T k _ g2 0 0 0 ho W2 (by omega) (by dsimp only;omega)
 simp only[Int.sub_zero]at y3
 have hk3:Keeps [] g g3:=(k1.trans k2).over k3 (λx hx=>by have:=k1.len;simp at hx;rcases hx with rfl|rfl|rfl <;> omega)
 have hpre:∀R',mSeq (QbA QgN QK) (mRet (mOpA pTup (Qb (Qcn 13 (Str.ofString "row") Z5 (mVar 4) mNil) (Qb (ZU [13] "moved" (mVar 4)) (Qb (mVar 5) (Qb (mVar 6) mNil)))))) (Jg M d steps k w 0 0) g2=R'->Qal [some (.ref M),some d,some (.int steps),some (.int k),none,none,none] g=R':=λR' hR=>by
  unfold Qal
  exact Qg _ g1 (by simp[e1]) (Qg [some (.ref M),some d,some (.int steps),some (.int k),some (.ref w),none,none] g2 (ZI e2) (Qg [some (.ref M),some d,some (.int steps),some (.int k),some (.ref w),some (.int 0),none] g2 rfl (Qg (Jg M d steps k w 0 0) g2 rfl hR)))
 cases hr:runN rows k ⟨st,L,QD R,QA R 1⟩ steps with
 |none =>
  rw[hr]at y3
  obtain⟨σ',y3⟩:=y3
  exact⟨g3,hk3,Qeg rfl (hpre _ (Qb0 (Qbs y3 (by intro z;cases z))))⟩
 |some q =>
  rw[hr]at y3
  obtain⟨y4,W3,hln⟩:=y3
  try dsimp only at hln
  obtain⟨a',b',g4,e4,k4,l1,l2,a4,b4⟩:=QnM W3 (by omega)
  have h3:=QfZ T k _ steps q ho
  have hq:OkN n m q.1:=by
   by_cases z:0<=steps
   ·exact(h3 z hr).1
   ·rw[Yj (by omega)]at hr;cases hr;exact ho
  refine⟨g4,hk3.trans k4,a',b',QS rfl (hpre _ (Qg _ g3 (Qbs y4 (by intro z;cases z)) ?_)),⟨rfl,a4,b4,hq.L,QaF hq.R hq.o0 hq.o1,hq.st⟩,by omega⟩
  have hw:=W3.w'
  unfold fwO at hw
  have hw4:=k4.at' _ _ (by simp) hw
  unfold Jg
  simp[hw,e4,hw4,pTup,SZ]
inductive Sm(g:G):Nat->D->D->Prop
 |int (f:Nat) (i:Int):Sm g (f+1) (.int i) (.int i)
 |seq (f:Nat) (x y:D) (b:Bool) (xs ys:List D) (h1:QB g x=some (b,xs)) (h2:QB g y=some (b,ys)) (hl:xs.length=ys.length) (hz:xs.length<=1000) (hi:∀(i:Nat) u v,xs[i]?=some u->ys[i]?=some v->Sm g f u v):Sm g (f+1) x y
theorem Yo{g g1:G}{x:D}{p:Bool×List D}(h:QB g x=some p)(k:Keeps [] g g1):QB g1 x=some p:=by
 cases x with
 |ref n =>
  unfold QB at h ⊢
  dsimp only at h ⊢
  cases hg:g[n]? with
  |none=>rw[hg]at h;cases h
  |some o =>
   rw[hg]at h
   rw[k.at' _ _ (by simp) hg]
   exact h
 |_=>exact h
theorem Qf4{g:G}{x:D}{b:Bool}{xs:List D}(h:QB g x=some (b,xs)):tyOf g x=some (if b then .list else .tuple):=by
 cases x with
 |ref n =>
  unfold QB at h
  unfold tyOf
  dsimp only at h ⊢
  cases hg:g[n]? with
  |none=>rw[hg]at h;cases h
  |some o =>
   rw[hg]at h
   cases o with
   |lst ds=>cases h;rfl
   |_=>cases h
 |tup ds=>cases h;rfl
 |fl ds=>cases h;rfl
 |_=>cases h
theorem Qiu{g:G}{x:D}{b:Bool}{xs:List D}(h:QB g x=some (b,xs)):pLen x g=.ok (.int xs.length) g:=by
 cases x with
 |ref n =>
  unfold QB at h
  unfold pLen
  dsimp only at h ⊢
  cases hg:g[n]? with
  |none=>rw[hg]at h;cases h
  |some o =>
   rw[hg]at h
   cases o with
   |lst ds=>cases h;rfl
   |_=>cases h
 |tup ds=>cases h;rfl
 |fl ds=>cases h;rfl
 |_=>cases h
theorem Qf5:∀n:Nat,allB (List.replicate n (.bl true))=some true
 |0=>rfl
 |n+1=>by rw[UX];unfold allB;rw[Qf5 n];rfl
theorem Qiv{g:G}:∀{f:Nat}{x y:D},Sm g f x y->∀g1,Keeps [] g g1->∃g2,ZD f [x,y] g1=.ok (.bl true) g2/\Keeps [] g1 g2
 |0,_,_,h,_,_=>by cases h
 |f+1,x,y,h,g1,k=>by
  cases h with
  |int _ i =>
   refine⟨g1,QS rfl ?_,.refl⟩
   show Qaz (ZD f) [some (.int i),some (.int i)] g1=_
   unfold Qaz
   refine Qg [some (.int i),some (.int i)] g1 rfl (Qg [some (.int i),some (.int i)] g1 rfl (Qg [some (.int i),some (.int i)] g1 rfl (QcQ ?_)))
   have e:pEq (.int i) (.int i) g1=.ok (.bl true) g1:=by unfold pEq eqT;dsimp only;rw[RU]
   show mOp2 pEq (mVar 0) (mVar 1) [some (.int i),some (.int i)] g1=_
   exact Y0 (x:=.int i) (y:=.int i) (g1:=g1) (g2:=g1) rfl rfl e
  |seq _ _ _ b xs ys h1 h2 hl hz hi =>
   have s1:=Yo h1 k
   have s2:=Yo h2 k
   obtain⟨src,e1,e2,e3⟩:=QlB s1 s2 hl
   obtain⟨ds,σ',g2,c1,c2,c3,_⟩:=YE (src:=src) (t:=Qai [gSet 0,gSet 1]) (c:=YM) (e:=Qo (ZD f) (Qb (mVar 0) (Qb (mVar 1) mNil))) (n:=xs.length)
    (λi σ' g4 acc=>acc=List.replicate i (.bl true)/\Keeps [] g1 g4/\∃u v,σ'=[u,v]) (λi σ' g4 acc hi' hQ=>by
     obtain⟨q1,q2,u,v,q3⟩:=hQ
     subst q3
     have hy:i<ys.length:=by omega
     obtain⟨g5,a1,a2⟩:=Qiv (hi i xs[i] ys[i] (by simp[hi']) (by simp[hy])) g4 (k.trans q2)
     refine⟨.tup [xs[i],ys[i]],[some xs[i],some ys[i]],g4,(e3 g4 (Yo s1 q2) (Yo s2 q2)).2 i _ _ (by simp[hi']) (by simp[hy]),rfl,.inl ⟨.bl true,g5,rfl,?_,?_,q2.trans a2,_,_,rfl⟩⟩
     ·rw[Q3 (ds:=[xs[i],ys[i]]) (g':=g4) rfl];exact a1
     ·rw[q1,List.replicate_succ']) (λσ g4 acc hQ=>(e3 g4 (Yo s1 hQ.2.1) (Yo s2 hQ.2.1)).1) (src.top+1) 0 [none,none] g1 [] (by omega) (by omega) ⟨rfl,.refl,none,none,rfl⟩
   subst c2
   have c4:=Qe6 (it:=Qa4 (mVar 0) (mVar 1)) (n:=2) (cap:=[]) (σ:=[some x,some y]) (t:=Qai [gSet 0,gSet 1]) (c:=YM) (σ0:=[none,none]) (g:=g1) (by
    unfold Qa4
    rw[show mVar 0 [some x,some y] g1=.ok x g1 from rfl,Res.bind_ok,show mVar 1 [some x,some y] g1=.ok y g1 from rfl,Res.bind_ok]
    exact e1) (by rw[e2];exact U3 (Qii hz)) rfl c1
   have kk:Keeps [] g2 (g2++[.lst (List.replicate xs.length (.bl true))]):=.push _
   refine⟨_,QS rfl ?_,c3.trans kk⟩
   show Qaz (ZD f) [some x,some y] g1=_
   have ty1:=Qf4 s1
   have ty2:=Qf4 s2
   have is0:∀c:Ty,mOp1 (ZV c) (mVar 0) [some x,some y] g1=.ok (.bl (tyLe (if b then .list else .tuple) c)) g1:=λc=>JR (x:=x) (g1:=g1) rfl (by unfold ZV;rw[ty1])
   have is1:∀c:Ty,mOp1 (ZV c) (mVar 1) [some x,some y] g1=.ok (.bl (tyLe (if b then .list else .tuple) c)) g1:=λc=>JR (x:=y) (g1:=g1) rfl (by unfold ZV;rw[ty2])
   have ne:∀c:Ty,Qk (mOp2 pNe (mOp1 (ZV c) (mVar 0)) (mOp1 (ZV c) (mVar 1))) [some x,some y] g1=.ok false g1:=λc=>YG (Y0 (is0 c) (is1 c) (by unfold pNe neT;dsimp only;rw[RU];rfl))
   have t1:mOrT (Qk (mOp1 (ZV .list) (mVar 1))) (Qk (mOp1 (ZV .tuple) (mVar 1))) [some x,some y] g1=.ok true g1:=by
    unfold mOrT
    rw[YG (is1 .list),Res.bind_ok,YG (is1 .tuple)]
    cases b <;> rfl
   have e5:mOp2 pEq (mOp1 pLen (mVar 0)) (mOp1 pLen (mVar 1)) [some x,some y] g1=.ok (.bl true) g1:=Y0 (x:=.int xs.length) (y:=.int ys.length) (g1:=g1) (g2:=g1) (JR (x:=x) (g1:=g1) rfl (Qiu s1)) (JR (x:=y) (g1:=g1) rfl (Qiu s2)) (by unfold pEq eqT;dsimp only;rw[hl,RU])
   unfold Qaz
   refine Qee (ift g1 t1 (Qg [some x,some y] g1 (iff' g1 (QnE (ne .list) (ne .tuple)) rfl) (QcQ ?_)))
   unfold mAnd
   rw[e5,Res.bind_ok]
   dsimp only
   rw[Ud rfl]
   refine JR c4 ?_
   unfold pAll
   dsimp only
   rw[QQ]
   dsimp only
   rw[Qf5]
theorem QlK(g:G)(f:Nat)(p:Int×Int):Sm g (f+2) (stD p) (stD p):=.seq _ _ _ false [.int p.1,.int p.2] [.int p.1,.int p.2] rfl rfl rfl (by simp) (λi u v h1 h2=>by
 match i,h1,h2 with
 |0,h1,h2=>cases h1;cases h2;exact .int _ _
 |1,h1,h2=>cases h1;cases h2;exact .int _ _
 |i+2,h1,_=>simp at h1)
theorem Qf6(k j:DK)(v:D):∀ks:List (DK×D),dGet (ks.map λp=>if p.1=k then (p.1,v) else p) j=(dGet ks j).map λx=>if j=k then v else x
 |[]=>rfl
 |p::r=>by
  have ih:=Qf6 k j v r
  unfold dGet at ih ⊢
  rw[UH,UM,UM]
  by_cases h:p.1=j
  ·have e:decide ((if p.1=k then (p.1,v) else p).1=j)=true:=by split <;> exact UC h
   rw[e,UC h]
   subst h
   by_cases hk:p.1=k <;> simp[hk]
  ·have e:decide ((if p.1=k then (p.1,v) else p).1=j)=false:=by split <;> exact UB h
   rw[e,UB h]
   exact ih
theorem QdA(k:DK):∀ks:List (DK×D),(ks.any λp=>decide (p.1=k))=(dGet ks k).isSome
 |[]=>rfl
 |p::r=>by
  have ih:=QdA k r
  unfold dGet at ih ⊢
  rw[TW,UM]
  by_cases h:p.1=k
  ·rw[UC h];rfl
  ·rw[UB h];exact ih
theorem Qf7(k j:DK)(v:D):∀ks:List (DK×D),dGet ks k=none->dGet (ks++[(k,v)]) j=if j=k then some v else dGet ks j
 |[],_=>by
  unfold dGet
  by_cases h:j=k
  ·subst h;simp
  ·simp[h,Ne.symm h]
 |p::r,hn=>by
  have hp:¬p.1=k:=λh=>by unfold dGet at hn;rw[UM,UC h]at hn;cases hn
  have hr:dGet r k=none:=by unfold dGet at hn ⊢;rw[UM,UB hp]at hn;exact hn
  have ih:=Qf7 k j v r hr
  unfold dGet at ih ⊢
  rw[List.cons_append,UM,UM]
  by_cases h:p.1=j
  ·rw[UC h,Ue (λz=>hp (h.trans z))]
  ·rw[UB h];exact ih
theorem QdB(ks:List (DK×D))(k j:DK)(v:D):dGet (dPut ks k v) j=if j=k then some v else dGet ks j:=by
 unfold dPut
 rw[QdA]
 cases h:dGet ks k with
 |none=>rw[Ue (by simp)];exact Qf7 k j v ks h
 |some x =>
  rw[Ud (show(some x).isSome=true from rfl),Qf6]
  by_cases e:j=k
  ·subst e;rw[h];simp
  ·simp[e]
theorem Qeo(k j:DK):∀ks:List (DK×D),dGet (Qba ks k) j=if j=k then none else dGet ks j
 |[]=>by unfold dGet Qba;split <;> rfl
 |p::r=>by
  have ih:=Qeo k j r
  unfold dGet Qba at ih ⊢
  rw[TX]
  by_cases h:p.1=k
  ·rw[Ue (by simp[h]),ih,UM]
   by_cases e:j=k
   ·rw[Ud e,Ud e]
   ·rw[Ue e,Ue e,UB (λz=>e (z.symm.trans h))]
  ·rw[Ud (by simp[h]),UM,UM]
   by_cases e:p.1=j
   ·rw[UC e,Ue (λz=>h (e.trans z))]
   ·rw[UB e];exact ih
theorem Qf8(ks:List (DK×D))(k:DK)(v:D):(dPut ks k v).length<=ks.length+1:=by
 unfold dPut;split <;> simp
theorem Qiw(ks:List (DK×D))(k:DK):(Qba ks k).length<=ks.length:=Bn _ _
theorem Qf9(k:DK)(v:D):∀ks:List (DK×D),Yk (ks.map λp=>if p.1=k then (p.1,v) else p)=Yk ks
 |[]=>rfl
 |p::r=>by
  have ih:=Qf9 k v r
  obtain⟨q,w⟩:=p
  rw[UH]
  by_cases h:q=k
  ·rw[Ud h]
   cases q with
   |inl i=>show(Yk _).map _=(Yk r).map _;rw[ih]
   |inr s=>rfl
  ·rw[Ue h]
   cases q with
   |inl i=>show(Yk _).map _=(Yk r).map _;rw[ih]
   |inr s=>rfl
theorem Qga(x:Int)(v:D):∀{ks:List (DK×D)}{is:List Int},Yk ks=some is->Yk (ks++[(.inl x,v)])=some (is++[x])
 |[],_,h=>by cases h;rfl
 | (.inl i,_)::r,is,h=>by
  have h:(Yk r).map (i :: ·)=some is:=h
  obtain⟨js,h1,h2⟩:=Rf.mp h
  show(Yk (r++_)).map (i :: ·)=_
  rw[Qga x v h1,<-h2];rfl
theorem Qep(x:Int):∀{ks:List (DK×D)}{is:List Int},Yk ks=some is->Yk (Qba ks (.inl x))=some (is.filter λi=>decide (i≠x))
 |[],_,h=>by cases h;rfl
 | (.inl i,_)::r,is,h=>by
  have h:(Yk r).map (i :: ·)=some is:=h
  obtain⟨js,h1,h2⟩:=Rf.mp h
  have ih:=Qep x h1
  subst h2
  unfold Qba at ih ⊢
  rw[TX,TX]
  by_cases e:i=x
  ·subst e
   rw[Ue (by simp),Ue (by simp)];exact ih
  ·rw[Ud (by simp[e]),Ud (by simp[e])]
   show(Yk _).map (i :: ·)=_
   rw[ih];rfl
structure DF(ks:List (DK×D))(f:Int->Int):Prop where
 get:∀x,dGet ks (.inl x)=if f x=0 then none else some (.int (f x))
 keys:∃is,Yk ks=some is/\is.Nodup/\∀x,x∈is↔f x≠0
theorem df0:DF [] (λ_=>0):=⟨λ_=>rfl,[],rfl,.nil,λx=>by simp⟩
theorem DF.getD{ks:List (DK×D)}{f:Int->Int}(h:DF ks f)(x:Int):(dGet ks (.inl x)).getD (.int 0)=.int (f x):=by
 rw[h.get]
 by_cases z:f x=0
 ·rw[Ud z,z];rfl
 ·rw[Ue z];rfl
noncomputable def putC(ks:List (DK×D))(x:Int)(a:Int):List (DK×D):=if a=0 then Qba (dPut ks (.inl x) (.int a)) (.inl x) else dPut ks (.inl x) (.int a)
theorem QjP(ks:List (DK×D))(x a:Int):(putC ks x a).length<=ks.length+1:=by
 unfold putC
 split
 ·exact Ut (Qiw _ _) (Qf8 _ _ _)
 ·exact Qf8 _ _ _
theorem DF.put{ks:List (DK×D)}{f:Int->Int}{x a:Int}(h:DF ks f):DF (putC ks x a) (updF f x a):=by
 obtain⟨is,k1,k2,k3⟩:=h.keys
 have hinj:∀y:Int,((Sum.inl y:DK)=.inl x)↔y=x:=λy=>⟨λz=>by injection z,λz=>by rw[z]⟩
 have kput:∃js,Yk (dPut ks (.inl x) (.int a))=some js/\js.Nodup/\∀y,y∈js↔(y=x\/y∈is):=by
  unfold dPut
  rw[QdA,h.get]
  by_cases z:f x=0
  ·rw[Ud z,Ue (by simp)]
   have hx:x∉is:=λhm=>(k3 x).mp hm z
   refine⟨is++[x],Qga x _ k1,?_,λy=>by simp[or_comm]⟩
   rw[List.nodup_append]
   refine⟨k2,by simp,λu hu v hv e=>hx ?_⟩
   have hv:v=x:=by simpa using hv
   rw[<-hv,<-e];exact hu
  ·rw[Ue z,Ud (by simp)]
   have hx:x∈is:=(k3 x).mpr z
   exact⟨is,by rw[Qf9];exact k1,k2,λy=>⟨.inr,λo=>o.elim (λe=>e ▸ hx) id⟩⟩
 obtain⟨js,j1,j2,j3⟩:=kput
 unfold putC
 by_cases ha:a=0
 ·rw[Ud ha]
  refine⟨λy=>?_,js.filter λi=>decide (i≠x),Qep x j1,j2.filter _,λy=>?_⟩
  ·rw[Qeo,QdB]
   unfold updF
   by_cases e:y=x
   ·rw[Ud ((hinj y).mpr e),Ud e,Ud ha]
   ·rw[Ue (λz=>e ((hinj y).mp z)),Ue (λz=>e ((hinj y).mp z)),Ue e];exact h.get y
  ·rw[Ba,j3,k3]
   unfold updF
   by_cases e:y=x
   ·simp[e,ha]
   ·simp[e]
 ·rw[Ue ha]
  refine⟨λy=>?_,js,j1,j2,λy=>?_⟩
  ·rw[QdB]
   unfold updF
   by_cases e:y=x
   ·rw[Ud ((hinj y).mpr e),Ud e,Ue ha]
   ·rw[Ue (λz=>e ((hinj y).mp z)),Ue e];exact h.get y
  ·rw[j3,k3]
   unfold updF
   by_cases e:y=x
   ·simp[e,ha]
   ·simp[e]
noncomputable def UpP(M:List (Int×Int)):Prop:=M.Pairwise λa b=>a.1<b.1
structure MkF(M:List (Int×Int))(f:Int->Int):Prop where
 up:UpP M
 mem:∀x s,(x,s)∈M↔s=f x/\s≠0
theorem Qkt:∀{M N:List (Int×Int)},UpP M->UpP N->(∀p,p∈M↔p∈N)->M=N
 |[],[],_,_,_=>rfl
 |[],q::N,_,_,h=>by have:=(h q).mpr (Uv ..);simp at this
 |p::M,[],_,_,h=>by have:=(h p).mp (Uv ..);simp at this
 |p::M,q::N,hM,hN,h=>by
  have hM':=TB.mp hM
  have hN':=TB.mp hN
  have e:p=q:=by
   rcases UD.mp ((h p).mp (Uv ..)) with e|e
   ·exact e
   ·rcases UD.mp ((h q).mpr (Uv ..)) with e'|e'
    ·exact e'.symm
    ·have a:=hN'.1 p e;have b:=hM'.1 q e';omega
  subst e
  congr 1
  refine Qkt hM'.2 hN'.2 λr=>⟨λhr=>?_,λhr=>?_⟩
  ·rcases UD.mp ((h r).mp (Ux _ hr)) with e|e
   ·subst e;have:=hM'.1 r hr;omega
   ·exact e
  ·rcases UD.mp ((h r).mpr (Ux _ hr)) with e|e
   ·subst e;have:=hN'.1 r hr;omega
   ·exact e
theorem MkF.uniq{M N:List (Int×Int)}{f:Int->Int}(h:MkF M f)(h':MkF N f):M=N:=Qkt h.up h'.up λp=>by rw[h.mem,h'.mem]
theorem DF.marks{ks:List (DK×D)}{f:Int->Int}{is:List Int}(h:DF ks f)(hk:Yk ks=some is):MkF ((Yz is).map λx=>(x,f x)) f:=by
 obtain⟨js,k1,k2,k3⟩:=h.keys
 rw[hk]at k1
 cases k1
 have hp:=Ym is
 have hs:=JM is
 have hn:(Yz is).Nodup:=hp.nodup_iff.mpr k2
 refine⟨?_,λx s=>?_⟩
 ·unfold UpP
  rw[WP]
  have:=hs.and hn
  exact this.imp λ⟨a,b⟩=>by show _<_;omega
 ·rw[RP]
  constructor
  ·rintro ⟨y,hy,e⟩
   cases e
   exact⟨rfl,(k3 x).mp (hp.mem_iff.mp hy)⟩
  ·rintro ⟨rfl,h0⟩
   exact⟨x,hp.mem_iff.mpr ((k3 x).mpr h0),rfl⟩
theorem Qgb:∀{ks:List (DK×D)}{is:List Int},Yk ks=some is->is.length=ks.length
 |[],_,h=>by cases h;rfl
 | (.inl i,_)::r,is,h=>by
  have h:(Yk r).map (i :: ·)=some is:=h
  obtain⟨js,h1,h2⟩:=Rf.mp h
  subst h2
  simp[Qgb h1]
noncomputable def QO:Sts->Int->Int->List (Int×Int)
 |[],_,_=>[]
 | (sg,k)::r,x,w=>(if sg=0 then [] else (List.range k.toNat).map λi:Nat=>(x+w*(i:Int),sg))++QO r (x+w*k) w
theorem YI{m:Int}{w:Int}:∀{side:Sts}{x y s:Int},Zv m side->((y,s)∈QO side x w↔∃i:Nat,y=x+w*i/\s=ZS side i/\s≠0)
 |[],x,y,s,_=>by
  simp[QO,ZS]
 | (t,k)::r,x,y,s,h=>by
  have hk:=h.2.2.1
  have ih:=YI (w:=w) (side:=r) (x:=x+w*k) (y:=y) (s:=s) h.2.2.2.2
  unfold QO
  rw[Ta,ih]
  constructor
  ·rintro (hm|⟨i,e1,e2,e3⟩)
   ·by_cases t0:t=0
    ·rw[Ud t0]at hm;simp at hm
    ·rw[Ue t0]at hm
     obtain⟨i,hi,e⟩:=RP.mp hm
     have hi:=Tt.mp hi
     cases e
     exact⟨i,rfl,by unfold ZS;rw[Ud (by omega)],t0⟩
   ·refine⟨k.toNat+i,?_,?_,e3⟩
    ·rw[e1,Bd,Ti (by omega),Int.mul_add];omega
    ·rw[e2,ZS,Ue (by omega)];congr 1;omega
  ·rintro ⟨i,e1,e2,e3⟩
   rw[ZS]at e2
   by_cases z:(i:Int)<k
   ·rw[Ud z]at e2
    subst e2
    left
    rw[Ue e3,e1]
    exact RP.mpr ⟨i,Tt.mpr (by omega),rfl⟩
   ·rw[Ue z]at e2
    right
    refine⟨i-k.toNat,?_,e2,e3⟩
    rw[e1,show((i-k.toNat:Nat):Int)=(i:Int) - k by omega,Int.mul_sub];omega
theorem up_r{m:Int}:∀{side:Sts}{x:Int},Zv m side->UpP (QO side x 1)
 |[],_,_=>.nil
 | (t,k)::r,x,h=>by
  have hk:=h.2.2.1
  unfold QO UpP
  rw[U0]
  refine⟨?_,up_r h.2.2.2.2,λa ha b hb=>?_⟩
  ·split
   ·exact .nil
   ·rw[WP];exact List.pairwise_lt_range.imp λhab=>by show _<_;omega
  ·split at ha
   ·simp at ha
   ·obtain⟨i,hi,rfl⟩:=RP.mp ha
    have hi:=Tt.mp hi
    obtain⟨j,e,_⟩:=(YI (y:=b.1) (s:=b.2) h.2.2.2.2).mp hb
    show _<b.1
    rw[e];dsimp only;omega
theorem up_l{m:Int}:∀{side:Sts}{x:Int},Zv m side->(QO side x (-1)).Pairwise λa b=>b.1<a.1
 |[],_,_=>.nil
 | (t,k)::r,x,h=>by
  have hk:=h.2.2.1
  unfold QO
  rw[U0]
  refine⟨?_,up_l h.2.2.2.2,λa ha b hb=>?_⟩
  ·split
   ·exact .nil
   ·rw[WP];exact List.pairwise_lt_range.imp λhab=>by show _<_;omega
  ·split at ha
   ·simp at ha
   ·obtain⟨i,hi,rfl⟩:=RP.mp ha
    have hi:=Tt.mp hi
    obtain⟨j,e,_⟩:=(YI (y:=b.1) (s:=b.2) h.2.2.2.2).mp hb
    show b.1<_
    rw[e];dsimp only;omega
theorem Qix{n m:Nat}{S:RowN}{c:Cn}(ho:OkN n m S)(h:RF S c):MkF ((QO S.L (c.pl-1) (-1)).reverse++QO (putN S.R S.own 1) c.pl 1) c.f:=by
 have hR:=QaF (c:=1) ho.R ho.o0 ho.o1
 have cR:∀i:Nat,c.f (c.pl+i)=ZS (putN S.R S.own 1) i:=λi=>by
  cases i with
  |zero=>rw[(J4 ho.R).1,<-h.own];simp
  |succ i=>rw[(J4 ho.R).2,<-h.R];congr 1;omega
 refine⟨?_,λx s=>?_⟩
 ·unfold UpP
  rw[U0]
  refine⟨List.pairwise_reverse.mpr (up_l ho.L),up_r hR,λa ha b hb=>?_⟩
  obtain⟨i,e,_⟩:=(YI (y:=a.1) (s:=a.2) ho.L).mp (List.mem_reverse.mp ha)
  obtain⟨j,e',_⟩:=(YI (y:=b.1) (s:=b.2) hR).mp hb
  omega
 ·rw[Ta,List.mem_reverse,YI ho.L,YI hR]
  constructor
  ·rintro (⟨i,e1,e2,e3⟩|⟨i,e1,e2,e3⟩)
   ·exact⟨by rw[e2,<-h.L,e1];congr 1;omega,e3⟩
   ·exact⟨by rw[e2,<-cR,e1];congr 1;omega,e3⟩
  ·rintro ⟨e1,e3⟩
   by_cases z:x<c.pl
   ·left
    refine⟨(c.pl-1-x).toNat,by omega,?_,e3⟩
    rw[<-h.L,e1];congr 1;omega
   ·right
    refine⟨(x-c.pl).toNat,by omega,?_,e3⟩
    rw[<-cR,e1];congr 1;omega
section
variable{σ:S3}{g:G}
@[simp] theorem QoK{a:MA}{d:D}:Qe0 a d σ g=(match a σ g with | .ok xs g1=>.ok (xs++[d]) g1 | .raise e g'=>.raise e g' | .stuck=>.stuck):=by unfold Qe0 Res.bind;cases a σ g <;> rfl
@[simp] theorem Qo4{ds:List D}:newL ds g=if ds.length<=SZ then .ok (.ref g.length) (g++[.lst ds]) else .stuck:=rfl
@[simp] theorem QoL{ds:List D}:pTup ds g=if ds.length<=SZ then .ok (.tup ds) g else .stuck:=rfl
@[simp] theorem Qiy:JD σ g=.ok none g:=rfl
@[simp] theorem QlL{a:ME}:Qco a σ g=(match a σ g with | .ok (.int i) g1=>.ok (some i) g1 | .raise e g'=>.raise e g'|_=>.stuck):=by unfold Qco Res.bind;cases a σ g with|ok d g1=>cases d <;> rfl|_=>rfl
@[simp] theorem QjQ{a:ME}{lo hi:MO}:Qar a lo hi σ g=(match a σ g with
 |.ok x g1=>(match lo σ g1 with
  |.ok l g2=>(match hi σ g2 with | .ok h g3=>QbC x l h g3 | .raise e g'=>.raise e g' | .stuck=>.stuck)
  |.raise e g'=>.raise e g' | .stuck=>.stuck)
 |.raise e g'=>.raise e g' | .stuck=>.stuck):=by
 unfold Qar Res.bind;cases a σ g with
 |ok x g1=>dsimp only;cases lo σ g1 with
  |ok l g2=>dsimp only;cases hi σ g2 <;> rfl
  |_=>rfl
 |_=>rfl
@[simp] theorem Qgc{i j:Int}(h:0<j):pMod (.int i) (.int j) g=.ok (.int (i%j)) g:=Ud h
theorem JU{i j:Int}(h:0<j)(h2:j<1073741824):Z6 (.int i) (.int j) g=.ok (.int (i/j)) g:=Ud ⟨h,h2⟩
end
theorem Keeps.setNew{S:List Nat}{g g1:G}{s:Nat}{o:GO}(k:Keeps S g g1)(h:g.length<=s):Keeps S g (g1.set s o) :=
 ⟨by have:=k.len;simp;exact this,λn u q e=>by rw[Uh (by have:=Yb e;omega)];exact k.at' n u q e⟩
theorem QlM{n:Nat}(h:n<=100000):inR (n:Int):=⟨by omega,by omega⟩
theorem QgO{k:Nat}{H:Nat->D}{t:MG}{e:ME}{n:Nat}{cap:List Nat}{σ:S3}{g:G}{a:ME}(hz:k<=100000)(ha:a σ g=.ok (.int k) g)(I:S3->Prop)(h0:I (capt n cap σ))(step:∀i:Nat,i<k->∀σ',I σ'->∃σ1,t (.int i) σ'=some σ1/\I σ1/\e σ1 g=.ok (H i) g):JC (Qx a) n cap t YM e σ g=.ok (.ref g.length) (g++[.lst ((List.range k).map H)]):=by
 obtain⟨ys,σ',g3,c1,c2,c3,_⟩:=YE (src:=QX 0 k) (t:=t) (c:=YM) (e:=e) (n:=k)
  (λi σ' g4 acc=>acc=(List.range i).map H/\g4=g/\I σ') (λi σ' g4 acc hi hQ=>by
   obtain⟨q1,q2,q3⟩:=hQ
   subst q2
   obtain⟨σ1,e1,e2,e3⟩:=step i hi σ' q3
   refine⟨.int i,σ1,g4,by simp[QX,hi],e1,.inl ⟨H i,g4,rfl,e3,by rw[q1,List.range_succ,Wh];rfl,rfl,e2⟩⟩) (λσ g4 acc hQ=>by simp[QX]) (k+1) 0 (capt n cap σ) g [] (by omega) (by omega) ⟨rfl,rfl,h0⟩
 subst c2 c3
 exact Qe6 (Yc ha (QlM hz)) (U3 (QcS hz)) rfl c1
noncomputable def nbk:Sts->Nat
 |[]=>0
 | (t,k)::r=>(if t=0 then 0 else k.toNat)+nbk r
theorem Yd(w:Int):∀(side:Sts)(x:Int),(QO side x w).length=nbk side
 |[],_=>rfl
 | (t,k)::r,x=>by unfold QO nbk;rw[Us,Yd w r];split <;> simp
theorem Qca(w:Int):∀(a b:Sts)(x:Int),∃y,QO (a++b) x w=QO a x w++QO b y w/\y=a.foldl (λz p=>z+w*p.2) x
 |[],b,x=>⟨x,rfl,rfl⟩
 | (t,k)::r,b,x=>by
  obtain⟨y,e1,e2⟩:=Qca w r b (x+w*k)
  refine⟨y,?_,e2⟩
  rw[List.cons_append,QO,QO,e1,UG]
noncomputable def mkD(M:List (Int×Int)):List D:=M.map stD
theorem Qcb{s:Nat}{side:Sts}{x w:Int}{g:G}(hs:g[s]?=some (.lst (stsD side)))(hw:cM w)(hz:nbk side<=50000)(hn:∀p∈side,0<=p.2):
  ∃r g',J0 [.ref s,.int x,.int w] g=.ok (.ref r) g'/\g'[r]?=some (.lst (mkD (QO side x w)))/\Keeps [] g g':=by
 have k0:Keeps [] g (g++[.lst []]):=.push _
 have r0:=QQ (g:=g) (.lst [])
 generalize hr:g.length=r at r0
 have hsr:s≠r:=by have:=Yb hs;omega
 have hnb:∀i,nbk (side.take i)<=nbk side:=λi=>by
  rw[<-Yd 0 _ 0,<-Yd 0 _ 0]
  obtain⟨y,e,_⟩:=Qca 0 (side.take i) (side.drop i) 0
  rw[Tj]at e
  rw[e,Us];omega
 let S:Int->Option D->Option D->S3:=λp y5 y6=>[some (.ref s),some (.int x),some (.int w),some (.ref r),some (.int p),y5,y6]
 obtain⟨σ',g',f1,q1,q2,y5,y6,q3⟩:=Qid (src:=srcL s side.length) (t:=Qai [gSet 5,gSet 6]) (body:=Yl) (n:=side.length) (σ:=S x none none) (g:=g++[.lst []]) rfl
  (λi σ g'=>g'[r]?=some (.lst (mkD (QO (side.take i) x w)))/\Keeps [] g g'/\∃y5 y6,σ=S ((side.take i).foldl (λz p=>z+w*p.2) x) y5 y6) ⟨by simpa[mkD,QO]using r0,k0,none,none,rfl⟩ (λi σ g' hi ⟨q1,q2,y5,y6,hσ⟩=>by
   subst hσ
   have hat:(srcL s side.length).at' g' i=some (some (stD side[i])):=by
    show(match g'[s]? with|some (.lst es)=>some es[i]? | _=>none)=_
    rw[q2.at' _ _ (by simp) hs];dsimp only;unfold stsD;rw[UA,UP hi];rfl
   have htk:side.take (i+1)=side.take i++[side[i]]:=UU hi
   have hn':=hn _ (UL hi)
   have hnb':=hnb (i+1)
   rw[htk]at hnb' ⊢
   generalize side[i]=p at hat hn' hnb' ⊢
   obtain⟨t,k⟩:=p
   generalize hP:(side.take i).foldl (λz p=>z+w*p.2) x=P at *
   obtain⟨y,e1,e2⟩:=Qca w (side.take i) [(t,k)] x
   rw[hP]at e2
   subst e2
   rw[List.foldl_append,hP,e1]
   have hml:=Yd w (side.take i) x
   have hml2:=Yd w (side.take i++[(t,k)]) x
   rw[e1,Us]at hml2
   have hn':0<=k:=hn'
   by_cases t0:t=0
   ·subst t0
    have e3:QO [(0,k)] y w=[]:=by simp[QO]
    rw[e3,UJ]
    refine⟨stD (0,k),S y (some (.int 0)) (some (.int k)),S (y+w*k) (some (.int 0)) (some (.int k)),g',hat,rfl,?_,q1,q2,_,_,rfl⟩
    simp[Yl,S,mulL hw]
   ·have e3:QO [(t,k)] y w=(List.range k.toNat).map λi:Nat=>(y+w*(i:Int),t):=by simp[QO,t0]
    have hkl:k.toNat<=50000:=by rw[e3]at hml2;simp at hml2;omega
    have hkk:((k.toNat:Nat):Int)=k:=by omega
    have c1:=QgO (k:=k.toNat) (H:=λi=>stD (y+w*(i:Int),t)) (t:=gSet 0) (e:=mOpA pTup (Qb (mOp2 pAdd (mVar 2) (mOp2 pMul (mVar 3) (mVar 0))) (Qb (mVar 1) mNil))) (n:=1) (cap:=[5,4,2]) (σ:=S y (some (.int t)) (some (.int k))) (g:=g') (a:=mVar 6) (by omega) (by simp[S,hkk]) (λσ=>∃u,σ=[u,some (.int t),some (.int y),some (.int w)]) ⟨_,rfl⟩ (λi hi σ' ⟨u,hu⟩=>by
     subst hu
     exact⟨[some (.int i),some (.int t),some (.int y),some (.int w)],rfl,⟨_,rfl⟩,by simp[mulL hw,SZ,stD]⟩)
    have kp:Keeps [] g' (g'++[.lst ((List.range k.toNat).map λi:Nat=>stD (y+w*(i:Int),t))]):=.push _
    have gp:=QQ (g:=g') (.lst ((List.range k.toNat).map λi:Nat=>stD (y+w*(i:Int),t)))
    have hrl:=Yb q1
    generalize hg2:g'++[GO.lst ((List.range k.toNat).map λi:Nat=>stD (y+w*(i:Int),t))]=g2 at c1 kp gp
    have q4:=kp.at' _ _ (by simp) q1
    have hmd:(mkD (QO (side.take i) x w)).length=nbk (side.take i):=by unfold mkD;rw[Uw,hml]
    refine⟨stD (t,k),S y (some (.int t)) (some (.int k)),S (y+w*k) (some (.int t)) (some (.int k)),g2.set r (.lst (mkD (QO (side.take i) x w)++(List.range k.toNat).map λi:Nat=>stD (y+w*(i:Int),t))),hat,rfl,?_,?_,(q2.trans kp).setNew (by omega),_,_,rfl⟩
    ·unfold Yl
     refine Qg (S y (some (.int t)) (some (.int k))) _ (ift g' (by simp[S,t0]) (Qds (d:=.non) (g':=g2.set r (.lst (mkD (QO (side.take i) x w)++(List.range k.toNat).map λi:Nat=>stD (y+w*(i:Int),t)))) ?_)) (by simp[S,mulL hw])
     unfold QeY
     rw[show mVar 3 (S y (some (.int t)) (some (.int k))) g'=.ok (.ref r) g' from rfl,Res.bind_ok]
     dsimp only
     rw[q1]
     dsimp only
     rw[c1,Res.bind_ok]
     dsimp only
     rw[q4,gp]
     dsimp only
     rw[Ud ⟨by omega,by rw[hmd];simp;exact U3 (QcS (by have:=hnb i;omega))⟩]
    ·rw[QH q4,e3];simp[mkD]) (λσ g' ⟨_,q2,_⟩=>by
   show(match g'[s]? with|some (.lst es)=>some es[side.length]? | _=>none)=_
   rw[q2.at' _ _ (by simp) hs];dsimp only;rw[Tx (by simp[stsD])])
 subst q3
 rw[Ru]at q1 f1
 refine⟨r,g',QS rfl (?_:QaV [some (.ref s),some (.int x),some (.int w),none,none,none,none] g=_),q1,q2⟩
 unfold QaV
 refine Qg [some (.ref s),some (.int x),some (.int w),some (.ref r),none,none,none] (g++[.lst []]) (by rw[<-hr];simp[SZ]) (Qg (S x none none) (g++[.lst []]) rfl (Qg (S (side.foldl (λz p=>z+w*p.2) x) y5 y6) g' ?_ rfl))
 have hit:Zy (mVar 0) (S x none none) (g++[.lst []])=.ok (srcL s side.length) (g++[.lst []]):=by
  unfold Zy
  rw[show mVar 0 (S x none none) (g++[.lst []])=.ok (.ref s) (g++[.lst []]) from rfl,Res.bind_ok]
  unfold Qa3
  dsimp only
  rw[k0.at' _ _ (by simp) hs]
  dsimp only
  rw[show(stsD side).length=side.length by simp[stsD]]
  try rfl
 rw[QaD hit]
 exact f1
noncomputable def Z0(c:Cn)(M:List (Int×Int)):D:=.tup [.int c.st,.int c.pl,.tup (mkD M)]
theorem QgP{n m:Nat}{g:G}{S:RowN}{c:Cn}{a b:Nat}{M:List (Int×Int)}(ho:OkN n m S)(h:RF S c)(hM:MkF M c.f)(hl:M.length<=40000)(hr:StR n m g (.tup [.int S.st,.ref a,.ref b]) S.st S.L (putN S.R S.own 1) a b)(zL:S.L.length<80000)(zR:S.R.length<80000):
  ∃g',QbU [.tup [.int S.st,.ref a,.ref b],.int c.pl] g=.ok (Z0 c M) g'/\Keeps [] g g':=by
 have hp:=Qdy S.R S.own 1
 have hmk:=(Qix ho h).uniq hM
 have hlen:=Rb List.length hmk
 rw[Us,Rc,Yd,Yd]at hlen
 obtain⟨g1,e1,k1⟩:=Qb9 hr (by omega) (by omega)
 have h1:=hr.mono k1
 obtain⟨u,g2,e2,u2,k2⟩:=Qcb (x:=c.pl-1) (w:=-1) h1.a' ⟨by decide,by decide⟩ (by omega) (λp hp=>by have:=Qb8 ho.L hp;omega)
 obtain⟨v,g3,e3,v3,k3⟩:=Qcb (x:=c.pl) (w:=1) (h1.mono k2).b' ⟨by decide,by decide⟩ (by omega) (λp hp=>by have:=Qb8 hr.R' hp;omega)
 have u3:=k3.at' _ _ (by simp) u2
 refine⟨g3,QS rfl (?_:QbT [some (.tup [.int S.st,.ref a,.ref b]),some (.int c.pl),none,none] g=_),(k1.trans k2).trans k3⟩
 unfold QbT
 refine Qg [some (.tup [.int S.st,.ref a,.ref b]),some (.int c.pl),none,none] g1 (by simp[e1]) (Qg [some (.tup [.int S.st,.ref a,.ref b]),some (.int c.pl),some (.ref u),none] g2 (by simp[e2]) (Qg [some (.tup [.int S.st,.ref a,.ref b]),some (.int c.pl),some (.ref u),some (.ref v)] g3 (by simp[e3]) ?_))
 have t1:JN (.ref u) g3=.ok (.tup (mkD (QO S.L (c.pl-1) (-1)).reverse)) g3:=by unfold JN;rw[Qb3 u3];simp[mkD]
 have t2:YR (.ref v) g3=.ok (.tup (mkD (QO (putN S.R S.own 1) c.pl 1))) g3:=by simp[YR,v3]
 have t3:pAdd (.tup (mkD (QO S.L (c.pl-1) (-1)).reverse)) (.tup (mkD (QO (putN S.R S.own 1) c.pl 1))) g3=.ok (.tup (mkD M)) g3:=by
  unfold pAdd
  dsimp only
  rw[Ud (by simp only[mkD,Uw,Rc,Yd];exact U3 (QcS (by omega)))]
  rw[<-hmk];simp[mkD]
 simp[t1,t2,t3,SZ,Z0,h.st]
theorem QdC(rows:List (List D)):RF ⟨0,[],0,[]⟩ ⟨0,0,λ_=>0⟩:=⟨rfl,rfl,λ_=>rfl,λ_=>rfl⟩
noncomputable def c0:Cn:=⟨0,0,λ_=>0⟩
theorem J7{rows:List (List D)}{n m:Nat}(T:Tb rows n m):OkN n m ⟨0,[],0,[]⟩:=⟨T.n0,U8 _,by have:=T.m0;show(0:Int)<m;omega,trivial,trivial⟩
theorem QdD{rows:List (List D)}{n m M k w:Nat}{steps:Int}{g:G}(T:Tb rows n m)(hM:g[M]?=some (JQ rows))(hs:steps=(w:Int)\/(steps<0/\w=0))(hw:min k w<70000):
  ∃g',Keeps [] g g'/\(match runN rows k ⟨0,[],0,[]⟩ (w:Nat) with
   |none=>ZH [.ref M,.int steps,.int k] g=.raise (6,none) g'
   |some q=>∀Mk,MkF Mk (runF rows w c0).1.f->Mk.length<=40000->∃g2,Keeps [] g g2/\ZH [.ref M,.int steps,.int k] g=.ok (.tup [Z0 (runF rows w c0).1 Mk,.int (runF rows w c0).2]) g2):=by
 have hr0:runN rows k ⟨0,[],0,[]⟩ steps=runN rows k ⟨0,[],0,[]⟩ (w:Nat):=by
  rcases hs with rfl|⟨h,rfl⟩
  ·rfl
  ·rw[Yj (by omega),Yj (by simp)]
 have hm:min k steps.toNat<70000:=by rcases hs with rfl|⟨h,rfl⟩ <;> omega
 have kp:Keeps [] g (g++[.lst []]++[.lst []]):=(Keeps.push _).trans (.push _)
 have hS:StR n m (g++[.lst []]++[.lst []]) (.tup [.int (0:Nat),.ref g.length,.ref (g++[GO.lst []]).length]) 0 [] [] g.length (g++[GO.lst []]).length:=⟨rfl,by rw[UG];exact gt0,QQ _,trivial,trivial,T.n0⟩
 have hM1:=kp.at' _ _ (by simp) hM
 obtain⟨g1,k1,y1⟩:=QlJ (k:=k) (steps:=steps) T hM1 hS (by simp;omega)
 have hro:runN rows k ⟨0,[],QD [],QA [] 1⟩ steps=runN rows k ⟨0,[],0,[]⟩ steps:=rfl
 rw[hro,hr0]at y1
 refine⟨g1,kp.trans k1,?_⟩
 have e0:(Qb (mVar 0) (Qb (mOpA pTup (Qb (mLit (.int 0)) (Qb (mOpA newL mNil) (Qb (mOpA newL mNil) mNil)))) (Qb (mVar 1) (Qb (mVar 2) mNil)))) [some (.ref M),some (.int steps),some (.int k),none] g=.ok [.ref M,.tup [.int (0:Nat),.ref g.length,.ref (g++[GO.lst []]).length],.int steps,.int k] (g++[.lst []]++[.lst []]):=by simp[SZ]
 cases hr:runN rows k ⟨0,[],0,[]⟩ (w:Nat) with
 |none =>
  rw[hr]at y1
  refine Qeg (σ:=[some (.ref M),some (.int steps),some (.int k),none]) rfl (?_:Z9 [some (.ref M),some (.int steps),some (.int k),none] g=_)
  unfold Z9
  refine Qb0 ?_
  unfold mAsg
  rw[Q3 e0,y1]
 |some q =>
  rw[hr]at y1
  obtain⟨a',b',e1,e2,e3⟩:=y1
  intro Mk hMk hMl
  obtain⟨z1,z2,z3⟩:=Jf T w k _ c0 q (J7 T) (QdC rows) hr
  have hoq:OkN n m q.1:=(QfZ T k _ (w:Nat) q (J7 T) (by omega) hr).1
  have e3':q.1.L.length+q.1.R.length<70000:=by simp at e3;omega
  obtain⟨g2,e4,k4⟩:=QgP hoq z1 hMk hMl e2 (by omega) (by omega)
  have hpl:q.2.1=(runF rows w c0).1.pl:=by rw[z2];show _ - (0:Int)=_;omega
  refine⟨g2,(kp.trans k1).trans k4,QS rfl (?_:Z9 [some (.ref M),some (.int steps),some (.int k),none] g=_)⟩
  unfold Z9
  refine Qg [some (.ref M),some (.int steps),some (.int k),some (.tup [.tup [.int q.1.st,.ref a',.ref b'],.int q.2.1,.int q.2.2.1,.int q.2.2.2])] g1 (ZI (by rw[Q3 e0,e1])) ?_
  rw[hpl,z3]
  simp[e4,SZ]
section
variable{σ:S3}{g:G}
theorem Qiz{o k x:ME}{n:Nat}{ks:List (DK×D)}{i:Int}{z:D}(ho:o σ g=.ok (.ref n) g)(hd:g[n]?=some (.dct ks))(hk:k σ g=.ok (.int i) g)(hx:x σ g=.ok z g):Qea o k x σ g=.ok ((dGet ks (.inl i)).getD z) g:=by
 unfold Qea;simp[ho,hd,hk,hx,Res.bind]
theorem QlN{o k v:ME}{n:Nat}{ks:List (DK×D)}{i:Int}{y:D}(hv:v σ g=.ok y g)(ho:o σ g=.ok (.ref n) g)(hk:k σ g=.ok (.int i) g)(hd:g[n]?=some (.dct ks))(hz:ks.length<=100000):Qdl o k v σ g=.nx σ (g.set n (.dct (dPut ks (.inl i) y))):=by
 unfold Qdl;simp[hv,ho,hk,hd,QcS hz]
theorem QlO{o k:ME}{n:Nat}{ks:List (DK×D)}{i:Int}{v:D}(ho:o σ g=.ok (.ref n) g)(hk:k σ g=.ok (.int i) g)(hd:g[n]?=some (.dct ks))(hv:dGet ks (.inl i)=some v):QgA o k σ g=.ok v (g.set n (.dct (Qba ks (.inl i)))):=by
 unfold QgA;simp[ho,hd,hk,Res.bind,hv]
end
noncomputable def shL(c:Cn)(d:Nat):D:=.tup [.int c.st,.int c.pl,.ref d]
noncomputable def SL(g:G)(c:Cn)(x:D)(B:Nat):Prop:=∃d ks,x=shL c d/\g[d]?=some (.dct ks)/\DF ks c.f/\ks.length<=B
theorem SL.mono{S:List Nat}{g g1:G}{c:Cn}{x:D}{B:Nat}(h:SL g c x B)(k:Keeps S g g1)(hS:∀n∈S,∃ds,g[n]?=some (.lst ds)):SL g1 c x B:=by
 obtain⟨d,ks,e,hd,h1,h2⟩:=h
 refine⟨d,ks,e,k.at' _ _ (λhm=>?_) hd,h1,h2⟩
 obtain⟨ds,hl⟩:=hS d hm
 rw[hd]at hl;cases hl
theorem SL.up{g:G}{c:Cn}{x:D}{B C:Nat}(h:SL g c x B)(hc:B<=C):SL g c x C:=by
 obtain⟨d,ks,e,hd,h1,h2⟩:=h
 exact⟨d,ks,e,hd,h1,Ut h2 hc⟩
structure CnOk(n m:Nat)(c:Cn):Prop where
 st:c.st<n
 f:∀x,0<=c.f x/\c.f x<m
theorem QlP{rows:List (List D)}{n m:Nat}{c c':Cn}(T:Tb rows n m)(h:CnOk n m c)(hs:ZL rows c=some c'):CnOk n m c':=by
 have hf:=h.f c.pl
 obtain⟨row,d,_,_,he,e⟩:=T.at h.st (c:=(c.f c.pl).toNat) (by omega)
 unfold ZL at hs
 rw[e]at hs
 rcases he with rfl|⟨a,b,y,rfl,a0,a1,b0,b1,_⟩
 ·cases hs
 ·cases hs
  refine⟨by show b.toNat<n;omega,λx=>?_⟩
  show 0<=updF c.f c.pl a x/\updF c.f c.pl a x<m
  unfold updF
  split
  ·exact⟨a0,a1⟩
  ·exact h.f x
noncomputable def tabB(B:Nat)(g:G)(t:Nat)(rows:List (List D)):Prop:=t<B/\∃ds,g[t]?=some (.lst ds)/\∀(i:Nat)(row:List D),rows[i]?=some row->∃n,n<B/\ds[i]?=some (.ref n)/\g[n]?=some (.lst row)
theorem tabOf.b{N:Nat}{g:G}{t:Nat}{rows:List (List D)}(h:tabOf N g t rows):tabB g.length g t rows:=by
 obtain⟨_,ds,h1,h2,h3⟩:=h
 refine⟨Yb h1,ds,h1,λi row hr=>?_⟩
 have hi:i<ds.length:=by rw[h2];exact(Up.mp hr).1
 obtain⟨n,e,_,_,hn⟩:=h3 i ds[i] row (by simp) hr
 exact⟨n,Yb hn,by rw[<-e];simp,hn⟩
theorem tabB.mono{B:Nat}{S:List Nat}{g g1:G}{t:Nat}{rows:List (List D)}(h:tabB B g t rows)(k:Keeps S g g1)(hS:∀n∈S,B<=n):tabB B g1 t rows:=by
 obtain⟨h0,ds,h1,h2⟩:=h
 refine⟨h0,ds,k.at' _ _ (λz=>by have:=hS _ z;omega) h1,λi row hr=>?_⟩
 obtain⟨n,a,b,c⟩:=h2 i row hr
 exact⟨n,a,b,k.at' _ _ (λz=>by have:=hS _ z;omega) c⟩
theorem tabB.up{B C:Nat}{g:G}{t:Nat}{rows:List (List D)}(h:tabB B g t rows)(hc:B<=C):tabB C g t rows:=by
 obtain⟨h0,ds,h1,h2⟩:=h
 refine⟨by omega,ds,h1,λi row hr=>?_⟩
 obtain⟨n,a,b,c⟩:=h2 i row hr
 exact⟨n,by omega,b,c⟩
theorem QnN{B t:Nat}{g:G}{rows:List (List D)}{i j:Nat}{r:List D}{d:D}(h:tabB B g t rows)(hr:rows[i]?=some r)(hd:r[j]?=some d):∃x,pIx (.ref t) (.int i) g=.ok (.ref x) g/\pIx (.ref x) (.int j) g=.ok d g/\g[x]?=some (.lst r)/\x<B:=by
 obtain⟨hN,ds,h1,h2⟩:=h
 obtain⟨x,q1,q2,q3⟩:=h2 i r hr
 exact⟨x,Qaf h1 q2,Qaf q3 hd,q3,q1⟩
theorem QiA{rows:List (List D)}{N n m t B:Nat}{c:Cn}{x:D}{g:G}(T:Tb rows n m)(ht:tabB N g t rows)(ho:CnOk n m c)(hx:SL g c x B)(hB:B<=90000):
  (ZL rows c=none/\Qbp [.ref t,x] g=.ok .non g)\/∃c' x' g',ZL rows c=some c'/\Qbp [.ref t,x] g=.ok x' g'/\SL g' c' x' (B+1)/\Keeps [] g g':=by
 obtain⟨d,ks,rfl,hd,hf,hk⟩:=hx
 have h0:=ho.f c.pl
 obtain⟨row,e,hr,hrd,he,hat⟩:=T.at ho.st (c:=(c.f c.pl).toNat) (by omega)
 obtain⟨y,p1,p2,_⟩:=QnN ht hr hrd
 rw[Ti h0.1]at p2
 have hst:ZL rows c=goF e c:=by unfold ZL;rw[hat];rfl
 let S:Option D->Option D->S3:=λx5 x6=>[some (.ref t),some (shL c d),some (.int c.st),some (.int c.pl),some (.ref d),x5,x6]
 have pre:∀R,mSeq (mIf (Qk (mOp2 pIs (mVar 5) (mLit .non))) (mRet (mLit .non)) QG)
   (mSeq (mAsg (gSet 6) (mOp1 Qh4 (mVar 4))) (mSeq (Qdl (mVar 6) (mVar 3) (mOp2 pIx (mVar 5) (mLit (.int 0)))) (mSeq (mIf (Qk (mOp2 pEq (mOp2 pIx (mVar 5) (mLit (.int 0))) (mLit (.int 0)))) (Zw (QgA (mVar 6) (mVar 3))) QG) (mSeq (mIf (Qk (mOp2 pEq (mOp2 pIx (mVar 5) (mLit (.int 1))) (mLit (.str "r")))) (mRet (mOpA pTup (Qb (mOp2 pIx (mVar 5) (mLit (.int 2))) (Qb (mOp2 pAdd (mVar 3) (mLit (.int 1))) (Qb (mVar 6) mNil))))) QG) (mRet (mOpA pTup (Qb (mOp2 pIx (mVar 5) (mLit (.int 2))) (Qb (mOp2 pSub (mVar 3) (mLit (.int 1))) (Qb (mVar 6) mNil))))))))) (S (some e) none) g=R->Qbo [some (.ref t),some (shL c d),none,none,none,none,none] g=R:=λR hR=>by
  unfold Qbo
  refine Qg (S none none) g rfl (Qg (S (some e) none) g (ZI (Y0 (x:=.ref y) (y:=.int (c.f c.pl)) (g1:=g) (g2:=g) (Y0 (x:=.ref t) (y:=.int c.st) (g1:=g) (g2:=g) rfl rfl p1) ?_ p2)) hR)
  rw[Qiz (n:=d) (ks:=ks) (i:=c.pl) (z:=.int 0) rfl hd rfl rfl,hf.getD]
 rw[hst]
 rcases he with rfl|⟨a,b,z,rfl,a0,a1,b0,b1,_⟩
 ·exact .inl ⟨rfl,QS rfl (pre _ (Qee rfl))⟩
 ·right
  have g1d:(g++[.dct ks])[g.length]?=some (.dct ks):=QQ _
  have k1:Keeps [] g (g++[.dct ks]):=.push _
  have hput:∃g2,mSeq (Qdl (mVar 6) (mVar 3) (mOp2 pIx (mVar 5) (mLit (.int 0)))) (mIf (Qk (mOp2 pEq (mOp2 pIx (mVar 5) (mLit (.int 0))) (mLit (.int 0)))) (Zw (QgA (mVar 6) (mVar 3))) QG) (S (some (.tup [.int a,.str z,.int b])) (some (.ref g.length))) (g++[.dct ks])=.nx (S (some (.tup [.int a,.str z,.int b])) (some (.ref g.length))) g2/\g2[g.length]?=some (.dct (putC ks c.pl a))/\Keeps [] g g2:=by
   have s1:Qdl (mVar 6) (mVar 3) (mOp2 pIx (mVar 5) (mLit (.int 0))) (S (some (.tup [.int a,.str z,.int b])) (some (.ref g.length))) (g++[.dct ks])=.nx (S (some (.tup [.int a,.str z,.int b])) (some (.ref g.length))) ((g++[GO.dct ks]).set g.length (.dct (dPut ks (.inl c.pl) (.int a)))):=QlN (by simp[S]) rfl rfl g1d (by omega)
   have g2d:=QH (u:=.dct (dPut ks (.inl c.pl) (.int a))) g1d
   by_cases ha:a=0
   ·refine⟨((g++[GO.dct ks]).set g.length (.dct (dPut ks (.inl c.pl) (.int a)))).set g.length (.dct (Qba (dPut ks (.inl c.pl) (.int a)) (.inl c.pl))),Qg _ _ s1 (ift _ (by simp[S,ha]) (Qds (d:=.int a) (QlO rfl rfl g2d (by rw[QdB,Ud rfl])))),?_,(k1.setNew (Uc _)).setNew (Uc _)⟩
    rw[QH g2d];unfold putC;rw[Ud ha]
   ·refine⟨(g++[GO.dct ks]).set g.length (.dct (dPut ks (.inl c.pl) (.int a))),Qg _ _ s1 (iff' _ (by simp[S,ha]) rfl),?_,k1.setNew (Uc _)⟩
    rw[g2d];unfold putC;rw[Ue ha]
  obtain⟨g2,s2,d2,k2⟩:=hput
  have fin:∀R,mSeq (mIf (Qk (mOp2 pEq (mOp2 pIx (mVar 5) (mLit (.int 1))) (mLit (.str "r")))) (mRet (mOpA pTup (Qb (mOp2 pIx (mVar 5) (mLit (.int 2))) (Qb (mOp2 pAdd (mVar 3) (mLit (.int 1))) (Qb (mVar 6) mNil))))) QG) (mRet (mOpA pTup (Qb (mOp2 pIx (mVar 5) (mLit (.int 2))) (Qb (mOp2 pSub (mVar 3) (mLit (.int 1))) (Qb (mVar 6) mNil))))) (S (some (.tup [.int a,.str z,.int b])) (some (.ref g.length))) g2=R->Qbo [some (.ref t),some (shL c d),none,none,none,none,none] g=R:=λR hR=>by
   refine pre _ (Qg _ g (iff' g rfl rfl) (Qg (S (some (.tup [.int a,.str z,.int b])) (some (.ref g.length))) (g++[.dct ks]) (ZI (JR (x:=.ref d) (g1:=g) rfl (by simp[Qh4,hd]))) ?_))
   rw[QnG]at s2 ⊢
   revert s2
   cases Qdl (mVar 6) (mVar 3) (mOp2 pIx (mVar 5) (mLit (.int 0))) (S (some (.tup [.int a,.str z,.int b])) (some (.ref g.length))) (g++[.dct ks]) with
   |nx σ1 g3=>intro s2;dsimp only at s2 ⊢;exact Qg _ g2 s2 hR
   |_=>intro s2;cases s2
  have hl:=QjP ks c.pl a
  have hS':∀p:Int,SL g2 ⟨b.toNat,p,updF c.f c.pl a⟩ (.tup [.int b,.int p,.ref g.length]) (B+1):=λp=>⟨g.length,putC ks c.pl a,by unfold shL;dsimp only;rw[Ti b0],d2,hf.put,by omega⟩
  by_cases hz:z=rS
  ·refine⟨_,_,g2,by unfold goF;dsimp only;rw[Ud hz],QS rfl (fin _ (Qee (ift g2 ?_ ?_))),hS' (c.pl+1),k2⟩
   ·simp[S,eq_str,s_r',hz]
   ·simp[S,SZ]
  ·refine⟨_,_,g2,by unfold goF;dsimp only;rw[Ue hz],QS rfl (fin _ (Qg _ g2 (iff' g2 ?_ rfl) ?_)),hS' (c.pl-1),k2⟩
   ·simp[S,eq_str,s_r',hz]
   ·simp[S,SZ]
theorem QiB{rows:List (List D)}{i:Nat}{c:Cn}(h:(runF rows i c).2=i):runF rows (i+1) c=match ZL rows (runF rows i c).1 with|none=>((runF rows i c).1,i)|some c'=>(c',i+1):=by
 rw[Qdv i 1 c h]
 cases hs:ZL rows (runF rows i c).1 with
 |none=>rw[Q9 hs];rfl
 |some c'=>rw[QN hs];rfl
theorem QiC{rows:List (List D)}:∀(k:Nat)(c:Cn),(runF rows k c).2<=k
 |0,_=>Uc _
 |k+1,c=>by
  cases hs:ZL rows c with
  |none=>rw[Q9 hs];exact U2 _
  |some c'=>rw[QN hs];have:=QiC (rows:=rows) k c';dsimp only;omega
theorem Qbt{rows:List (List D)}:∀(k:Nat)(c:Cn)(j:Nat),(j<=k->(runF rows j c).2=min j (runF rows k c).2)/\(j<=(runF rows k c).2->(runF rows j c).2=j)/\((runF rows k c).2<=j->j<=k->(runF rows j c).1=(runF rows k c).1)
 |0,c,j=>by
  cases j with
  |zero=>exact⟨λ_=>by simp[runF],λ_=>rfl,λ_ _=>rfl⟩
  |succ j=>exact⟨λh=>by omega,λh=>by have h:j+1<=0:=h;omega,λ_ h=>by omega⟩
 |k+1,c,j=>by
  cases hs:ZL rows c with
  |none=>rw[Q9 hs,Q9 hs];exact⟨λ_=>by simp,λh=>by dsimp only at h ⊢;omega,λ_ _=>rfl⟩
  |some c' =>
   rw[QN hs]
   cases j with
   |zero=>exact⟨λ_=>by simp[runF],λ_=>rfl,λh=>by dsimp only at h;omega⟩
   |succ j =>
    rw[QN hs]
    obtain⟨a1,a2,a3⟩:=Qbt (rows:=rows) k c' j
    refine⟨λh=>?_,λh=>?_,λh h2=>?_⟩
    ·have:=a1 (by omega);dsimp only;omega
    ·have:=a2 (by dsimp only at h;omega);dsimp only;omega
    ·exact a3 (by dsimp only at h;omega) (by omega)
theorem Qcc{f:List D->G->Res D}{a:MA}{σ:S3}{xs:List D}{g g1:G}{R:Res D}(ha:a σ g=.ok xs g1)(h:f xs g1=R):mOpA f a σ g=R:=by unfold mOpA;rw[ha,Res.bind_ok,h]
noncomputable def RunL(rows:List (List D))(c:Cn)(B:Nat)(g:G)(ds:List D)(j:Nat):Prop:=ds.length=j+1/\∀i,i<=j->∃x,ds[i]?=some x/\SL g (runF rows i c).1 x (B+i)
theorem RunL.mono{rows:List (List D)}{c:Cn}{B:Nat}{g g1:G}{ds:List D}{j:Nat}{S:List Nat}(h:RunL rows c B g ds j)(k:Keeps S g g1)(hS:∀n∈S,∃es,g[n]?=some (.lst es)):RunL rows c B g1 ds j :=
 ⟨h.1,λi hi=>let ⟨x,e,s⟩:=h.2 i hi;⟨x,e,s.mono k hS⟩⟩
theorem Qku{rows:List (List D)}{n m:Nat}(T:Tb rows n m):∀(k:Nat)(c:Cn),CnOk n m c->CnOk n m (runF rows k c).1
 |0,c,h=>h
 |k+1,c,h=>by
  cases hs:ZL rows c with
  |none=>rw[Q9 hs];exact h
  |some c'=>rw[QN hs];exact Qku T k c' (QlP T h hs)
theorem Qeq{rows:List (List D)}{N n m t r B:Nat}{steps:Int}{c:Cn}(T:Tb rows n m)(ho:CnOk n m c)(hr:N<=r):∀(k j:Nat)(g:G)(ds:List D)(x:D),(j:Int)+k=steps->(runF rows j c).2=j->tabB N g t rows->g[r]?=some (.lst ds)->RunL rows c B g ds j->B+(j+k)<80000->ds[j]?=some x ->
  ∃g' ds',g'[r]?=some (.lst ds')/\RunL rows c B g' ds' (runF rows (j+k) c).2/\Keeps [r] g g' /\
   (Zx (Qk (mOp2 pLe (mOp1 pLen (mVar 3)) (mVar 2))) ZW (k+2) [some (.ref t),some x,some (.int steps),some (.ref r)] g=.rt (.ref r) g'\/∃x',Zx (Qk (mOp2 pLe (mOp1 pLen (mVar 3)) (mVar 2))) ZW (k+2) [some (.ref t),some x,some (.int steps),some (.ref r)] g=.nx [some (.ref t),some x',some (.int steps),some (.ref r)] g')
 |0,j,g,ds,x,hs,hj,ht,hg,hR,hz,hx=>by
  refine⟨g,ds,hg,by rw[Nat.add_zero,hj];exact hR,.refl,.inr ⟨x,?_⟩⟩
  unfold Zx
  have tc:Qk (mOp2 pLe (mOp1 pLen (mVar 3)) (mVar 2)) [some (.ref t),some x,some (.int steps),some (.ref r)] g=.ok false g:=by simp[JA hg,hR.1];omega
  rw[tc]
 |k+1,j,g,ds,x,hs,hj,ht,hg,hR,hz,hx=>by
  unfold Zx
  have tc:Qk (mOp2 pLe (mOp1 pLen (mVar 3)) (mVar 2)) [some (.ref t),some x,some (.int steps),some (.ref r)] g=.ok true g:=by simp[JA hg,hR.1];omega
  rw[tc]
  dsimp only
  obtain⟨x0,hx0,sx⟩:=hR.2 j (Uc _)
  rw[hx]at hx0;cases hx0
  have hrs:=QiB (rows:=rows) hj
  rcases QiA T ht (Qku T j c ho) sx (by omega) with⟨e1,e2⟩|⟨c',x',g1,e1,e2,e3,k1⟩
  ·have eb:ZW [some (.ref t),some x,some (.int steps),some (.ref r)] g=.rt (.ref r) g:=by
    unfold ZW
    exact Qg [some (.ref t),some .non,some (.int steps),some (.ref r)] g (by simp[e2]) (Qee rfl)
   rw[eb]
   have hstop:(runF rows (j+(k+1)) c).2=j:=by rw[Qdv j (k+1) c hj,Q9 e1];rfl
   exact⟨g,ds,hg,by rw[hstop];exact hR,.refl,.inl rfl⟩
  ·rw[e1]at hrs
   have hg1:=k1.at' _ _ (by simp) hg
   obtain⟨d',ks',rfl,_⟩:=id e3
   have eb:ZW [some (.ref t),some x,some (.int steps),some (.ref r)] g=.nx [some (.ref t),some (shL c' d'),some (.int steps),some (.ref r)] (g1.set r (.lst (ds++[shL c' d']))):=by
    unfold ZW
    refine Qg [some (.ref t),some (shL c' d'),some (.int steps),some (.ref r)] g1 (by simp[e2]) (Qg _ g1 (iff' g1 rfl rfl) ?_)
    exact Qij rfl hg1 rfl (QcS (by rw[hR.1];omega))
   rw[eb]
   dsimp only
   have k2:Keeps [r] g (g1.set r (.lst (ds++[shL c' d']))):=(k1.mono (by simp)).trans (.set _ _)
   have hlst:∀q∈[r],∃es,g1[q]?=some (.lst es):=λq hq=>⟨ds,by rw[Uz.mp hq];exact hg1⟩
   have hR1:=hR.mono k1 (by simp)
   have hR2:=hR1.mono (Keeps.set r (.lst (ds++[shL c' d']))) hlst
   have hj1:(runF rows (j+1) c).2=j+1:=by rw[hrs]
   have hR3:RunL rows c B (g1.set r (.lst (ds++[shL c' d']))) (ds++[shL c' d']) (j+1):=⟨by simp[hR.1],λi hi=>by
    by_cases z:i<=j
    ·obtain⟨y,hy,sy⟩:=hR2.2 i z
     exact⟨y,by rw[Uy (by rw[hR.1];omega)];exact hy,sy⟩
    ·have:i=j+1:=by omega
     subst this
     refine⟨shL c' d',by rw[Uu (by rw[hR.1];omega),hR.1];simp,?_⟩
     rw[hrs]
     exact(e3.mono (Keeps.set r (.lst (ds++[shL c' d']))) hlst).up (by omega)⟩
   obtain⟨g',ds',z1,z2,z3,z4⟩:=Qeq (steps:=steps) (B:=B) T ho hr k (j+1) (g1.set r (.lst (ds++[shL c' d']))) (ds++[shL c' d']) (shL c' d') (by omega) hj1 (ht.mono k2 (by simpa using hr)) (QH hg1) hR3 (by omega) (by rw[Uu (by rw[hR.1];omega),hR.1];simp)
   rw[show j+1+k=j+(k+1) by omega]at z2
   exact⟨g',ds',z1,z2,k2.trans z3,z4⟩
theorem QjR{rows:List (List D)}{n m t B k:Nat}{c:Cn}{x:D}{g:G}(T:Tb rows n m)(ho:CnOk n m c)(ht:tabB g.length g t rows)(hx:SL g c x B)(hz:B+k<80000):
  ∃g' ds',Qe2 [.ref t,x,.int k] g=.ok (.ref g.length) g'/\g'[g.length]?=some (.lst ds')/\RunL rows c B g' ds' (runF rows k c).2/\Keeps [] g g':=by
 have k0:Keeps [] g (g++[.lst [x]]):=.push _
 obtain⟨g',ds',z1,z2,z3,z4⟩:=Qeq (steps:=k) (B:=B) T ho (Uc g.length) k 0 (g++[.lst [x]]) [x] x (by omega) rfl (ht.mono k0 (by simp)) (QQ _) ⟨rfl,λi hi=>by
  have hi0:i=0:=by omega
  rw[hi0];exact⟨x,rfl,hx.mono k0 (by simp)⟩⟩ (by omega) rfl
 rw[Tv]at z2
 refine⟨g',ds',QS rfl (?_:Qe1 [some (.ref t),some x,some (.int k),none] g=_),z1,z2,k0.over z3 (by simp)⟩
 unfold Qe1
 refine Qg [some (.ref t),some x,some (.int k),some (.ref g.length)] (g++[.lst [x]]) (by simp[SZ]) ?_
 rcases z4 with z4|⟨x',z4⟩
 ·exact Qee (Qbs z4 (by intro z;cases z))
 ·exact Qg _ g' (Qbs z4 (by intro z;cases z)) rfl
theorem QiD{c:Cn}{x:D}{B:Nat}{g:G}(h:SL g c x B):Jr [x] g=.ok (.tup [.int c.st,.int (c.f c.pl)]) g:=by
 obtain⟨d,ks,rfl,hd,hf,_⟩:=h
 refine QS rfl (?_:Qdq [some (shL c d)] g=_)
 unfold Qdq
 refine QcQ (Qcc (xs:=[.int c.st,.int (c.f c.pl)]) (g1:=g) (Qv (g1:=g) rfl (Qv (g1:=g) ?_ rfl)) (by simp[SZ]))
 rw[Qiz (n:=d) (ks:=ks) (i:=c.pl) (z:=.int 0) (by simp[shL]) hd (by simp[shL]) rfl,hf.getD]
theorem Qer{rows:List (List D)}:∀(k:Nat)(c:Cn)(p:Option (Nat×Int)),(runF rows (k+1) c).2=k+1->cutF rows (k+1) c p=cutF rows k c p+(if (k=0/\p=some (rdF c))\/(k≠0/\rdF (runF rows k c).1=rdF (runF rows (k-1) c).1) then 0 else 1)
 |0,c,p,h=>by
  cases hs:ZL rows c with
  |none=>rw[Q9 hs]at h;cases h
  |some c'=>simp[cutF,hs]
 |k+1,c,p,h=>by
  cases hs:ZL rows c with
  |none=>rw[Q9 hs]at h;cases h
  |some c' =>
   have h':(runF rows (k+1) c').2=k+1:=by rw[QN hs]at h;dsimp only at h;omega
   have ih:=Qer k c' (some (rdF c)) h'
   rw[cutF,hs]
   dsimp only
   rw[ih]
   conv=>rhs;rw[cutF,hs]
   dsimp only
   rw[QN hs]
   dsimp only
   cases k with
   |zero =>
    have e0:(runF rows 0 c').1=c':=rfl
    have e1:(runF rows (0+1-1) c).1=c:=rfl
    rw[e0,e1]
    have hc:(some (rdF c)=some (rdF c'))↔(rdF c'=rdF c):=⟨λe=>(Option.some.inj e).symm,λe=>by rw[e]⟩
    simp[hc];omega
   |succ k =>
    have e1:(runF rows (k+1+1-1) c).1=(runF rows k c').1:=by show(runF rows (k+1) c).1=_;rw[QN hs]
    rw[e1]
    simp;omega
theorem Qes{rows:List (List D)}:∀(k:Nat)(c:Cn)(p:Option (Nat×Int)),cutF rows k c p=cutF rows (runF rows k c).2 c p
 |0,_,_=>rfl
 |k+1,c,p=>by
  cases hs:ZL rows c with
  |none=>rw[Q9 hs];simp[cutF,hs]
  |some c'=>rw[QN hs];dsimp only;rw[cutF,hs];dsimp only;rw[Qes k c'];conv=>rhs;rw[cutF,hs]
theorem QiE{rows:List (List D)}:∀(k:Nat)(c:Cn)(p:Option (Nat×Int)),cutF rows k c p<=k
 |0,_,_=>Uc _
 |k+1,c,p=>by
  rw[cutF]
  cases ZL rows c with
  |none=>exact U2 _
  |some c'=>dsimp only;have:=QiE (rows:=rows) k c' (some (rdF c));split <;> omega
theorem QjS{rows:List (List D)}{c:Cn}{B r J:Nat}{ds:List D}{g:G}(hr:g[r]?=some (.lst ds))(h:RunL rows c B g ds J)(hJ:(runF rows J c).2=J)(hz:J<=1000):Jt [.ref r] g=.ok (.int (cutF rows J c none)) g:=by
 have hl:=JA hr
 rw[h.1]at hl
 have hd:∀i,i<=J->(runF rows i c).2=i:=λi hi=>(Qbt (rows:=rows) J c i).2.1 (by omega)
 have rd:∀i,i<=J->∃x,pIx (.ref r) (.int i) g=.ok x g/\Jr [x] g=.ok (.tup [.int (runF rows i c).1.st,.int ((runF rows i c).1.f (runF rows i c).1.pl)]) g:=λi hi=>by
  obtain⟨x,e,s⟩:=h.2 i hi
  exact⟨x,Qaf hr e,QiD s⟩
 obtain⟨σ',g',f1,rfl,y,rfl⟩:=YD (t:=gSet 2) (body:=Yh) (lo:=0) (n:=J) (σ:=[some (.ref r),some (.int 0),none]) (g:=g)
  (λi σ g'=>g'=g/\∃y,σ=[some (.ref r),some (.int (cutF rows i c none)),y]) ⟨rfl,none,rfl⟩ (λi σ g' hi ⟨q,y,hσ⟩=>by
   subst q hσ
   refine⟨[some (.ref r),some (.int (cutF rows i c none)),some (.int i)],[some (.ref r),some (.int (cutF rows (i+1) c none)),some (.int i)],g',by simp[gSet],?_,rfl,_,rfl⟩
   have hsn:=Qer (rows:=rows) i c none (hd (i+1) (by omega))
   unfold Yh
   cases i with
   |zero =>
    rw[hsn]
    exact ift g' (by simp) (by simp)
   |succ i =>
    obtain⟨x1,a1,a2⟩:=rd (i+1) (by omega)
    obtain⟨x2,b1,b2⟩:=rd i (by omega)
    have tt:Qk (mOp2 pNe (Qo Jr (Qb (mOp2 pIx (mVar 0) (mVar 2)) mNil)) (Qo Jr (Qb (mOp2 pIx (mVar 0) (mOp2 pSub (mVar 2) (mLit (.int 1)))) mNil))) [some (.ref r),some (.int (cutF rows (i+1) c none)),some (.int ((i+1:Nat):Int))] g'=.ok (!decide (rdF (runF rows (i+1) c).1=rdF (runF rows i c).1)) g':=by
     refine YG (Y0 (x:=.tup [.int (runF rows (i+1) c).1.st,.int ((runF rows (i+1) c).1.f (runF rows (i+1) c).1.pl)]) (y:=.tup [.int (runF rows i c).1.st,.int ((runF rows i c).1.f (runF rows i c).1.pl)]) (g1:=g') (g2:=g') ?_ ?_ ?_)
     ·rw[Q3 (ds:=[x1]) (g':=g') (Qv (Y0 (x:=.ref r) (y:=.int ((i+1:Nat):Int)) (g1:=g') (g2:=g') rfl rfl a1) rfl)];exact a2
     ·rw[Q3 (ds:=[x2]) (g':=g') (Qv (Y0 (x:=.ref r) (y:=.int (i:Nat)) (g1:=g') (g2:=g') rfl (by simp) b1) rfl)];exact b2
     ·have e:∀a b c d:Int,pNe (.tup [.int a,.int b]) (.tup [.int c,.int d]) g'=.ok (.bl (!((a == c) && ((b == d) && true)))) g':=λ_ _ _ _=>rfl
      rw[e]
      congr 2
      rw[T7]
      simp[rdF]
      omega
    rw[hsn]
    by_cases e:rdF (runF rows (i+1) c).1=rdF (runF rows i c).1
    ·rw[UC e]at tt
     refine iff' g' (QnE (by simp;omega) tt) ?_
     rw[Ud (.inr ⟨by omega,e⟩)];simp
    ·rw[UB e]at tt
     refine ift g' (?_:_=Res.ok true g') ?_
     ·rw[Qkq]
      simp only[show Qk (mOp2 pEq (mVar 2) (mLit (.int 0))) [some (.ref r),some (.int (cutF rows (i+1) c none)),some (.int ((i+1:Nat):Int))] g'=.ok false g' by simp;omega,tt];rfl
     ·rw[Ue (λz=>z.elim (λz=>by omega) (λz=>e z.2))];simp)
 refine QS rfl (?_:Js [some (.ref r),none,none] g'=_)
 unfold Js
 refine Qg [some (.ref r),some (.int 0),none] g' rfl (Qg [some (.ref r),some (.int (cutF rows J c none)),y] g' ?_ rfl)
 have hrg:Qx (mOp2 pSub (mOp1 pLen (mVar 0)) (mLit (.int 1))) [some (.ref r),some (.int 0),none] g'=.ok (QX 0 J) g':=Yc (by simp[hl]) (Qb2 (by omega))
 rw[QaD hrg]
 exact f1
noncomputable abbrev cnt(g:G)(a:Nat)(k:Int):Prop:=g[a]?=some (.lst [.int k])
theorem QnO(ns:List Int)(a:Nat)(k:Int)(g:G)(hg:cnt g a k)(hk:0<=k)(hk2:k<1000000000):∃v,1<=v/\Qe4 [.fl (ns.map .int),.ref a] g=.ok (.int v) (g.set a (.lst [.int (k+1)])):=by
 obtain⟨m,m1,m2,e⟩:=Qam ns a k g hg hk hk2
 have ga:cnt (g.set a (.lst [.int (k+1)])) a (k+1):=QH hg
 generalize g.set a (.lst [.int (k+1)])=g1 at e ga
 obtain⟨c,s2⟩:∃c,mAsg (gSet 3) (mIfE (Qk (mOp2 pGt (mOp1 pLen (mVar 0)) (mLit (.int 0)))) (mOp2 pIx (mVar 0) (mOp2 pMod (mOp2 pIx (mVar 1) (mLit (.int 0))) (mOp1 pLen (mVar 0)))) (mLit (.int 0))) [some (.fl (ns.map .int)),some (.ref a),some (.int m),none,none,none] g1=.nx [some (.fl (ns.map .int)),some (.ref a),some (.int m),some (.int c),none,none] g1:=by
  by_cases hl:0<ns.length
  ·obtain⟨x,hx⟩:=Qkn ns (k+1) hl
   have hl':(0:Int)<(ns.length:Int):=by omega
   exact⟨x,by simp[pLen,hl,ix0 ga,ixfl hx]⟩
  ·cases ns with
   |nil=>exact⟨0,rfl⟩
   |cons x r=>simp at hl
 have hr:(m/7%50).toNat<=1000:=by omega
 have hr2:((m/7%50).toNat:Int)=m/7%50:=by omega
 obtain⟨σ',g',f1,rfl,s,h0,x5,rfl⟩:=YD (t:=gSet 5) (body:=QaW) (lo:=0) (n:=(m/7%50).toNat) (σ:=[some (.fl (ns.map .int)),some (.ref a),some (.int m),some (.int c),some (.int 10),none]) (g:=g1)
  (λi σ g'=>g'=g1/\∃s:Int,0<s/\∃x5,σ=[some (.fl (ns.map .int)),some (.ref a),some (.int m),some (.int c),some (.int s),x5]) ⟨rfl,10,by omega,none,rfl⟩ (λi σ g' hi ⟨q,s,h0,x5,hσ⟩=>by
   subst q hσ
   refine⟨_,[some (.fl (ns.map .int)),some (.ref a),some (.int m),some (.int c),some (.int (s*10)),some (.int (0+i))],g',rfl,?_,rfl,s*10,by omega,_,rfl⟩
   simp[QaW,mulR (show cM 10 from ⟨by decide,by decide⟩)])
 have p5:pPow (.int 10) (.int 50) g'=.ok (.int (10^50)) g':=rfl
 have p4:pPow (.int 10) (.int 40) g'=.ok (.int (10^40)) g':=rfl
 refine⟨1+(c%10^50+m*10^40) % s,by have:=TM (c%10^50+m*10^40) (show s≠0 by omega);omega,QS rfl (?_:Qe3 [some (.fl (ns.map .int)),some (.ref a),none,none,none,none] g=_)⟩
 unfold Qe3
 refine Qg [some (.fl (ns.map .int)),some (.ref a),some (.int m),none,none,none] g' (by simp[e]) (Qg _ g' s2 (Qg [some (.fl (ns.map .int)),some (.ref a),some (.int m),some (.int c),some (.int 10),none] g' rfl (Qg [some (.fl (ns.map .int)),some (.ref a),some (.int m),some (.int c),some (.int s),x5] g' ?_ ?_)))
 ·have hrg:Qx (mOp2 pMod (mOp2 Z6 (mVar 2) (mLit (.int 7))) (mLit (.int 50))) [some (.fl (ns.map .int)),some (.ref a),some (.int m),some (.int c),some (.int 10),none] g'=.ok (QX 0 (m/7%50).toNat) g':=Yc (by rw[hr2];simp[JU]) (Qb2 hr)
  rw[QaD hrg]
  exact f1
 ·have cm:cM m:=⟨by omega,by omega⟩
  simp only[QnH,Qkp,Qko,Qik,TJ,Tn,p5,p4,Qgc (show(0:Int)<10^50 by decide),mulL cm,Qkr,Qgc h0]
end L3
section
namespace L3
open PySem
noncomputable def TabW(N n m:Nat)(g:G)(t:Nat):Prop:=N<=t/\∃ls:List Nat,g[t]?=some (.lst (ls.map .ref))/\ls.length=n/\∀x∈ls,N<=x/\x≠t/\∃r,g[x]?=some (.lst r)/\r.length=m/\∀d∈r,entOk d n m
theorem QiF{N n m t:Nat}{g:G}{rows:List (List D)}(h:tabOf N g t rows)(h1:rows.length=n)(h2:∀r∈rows,r.length=m)(h3:∀r∈rows,∀d∈r,entOk d n m):TabW N n m g t:=by
 obtain⟨hN,ds,e1,e2,e3⟩:=h
 have:∃ls:List Nat,ds=ls.map D.ref:=by
  have hx:∀x∈ds,∃n,x=D.ref n:=λx hx=>by
   obtain⟨i,hi,rfl⟩:=Th hx
   obtain⟨n,q,_⟩:=e3 i ds[i] (rows[i]'(by omega)) (by simp[hi]) (by simp[show i<rows.length by omega])
   exact⟨n,q⟩
  clear e1 e2 e3
  induction ds with
  |nil=>exact⟨[],rfl⟩
  |cons x r ih =>
   obtain⟨n,rfl⟩:=hx x (by simp)
   obtain⟨ls,rfl⟩:=ih λy hy=>hx y (by simp[hy])
   exact⟨n::ls,rfl⟩
 obtain⟨ls,rfl⟩:=this
 have hl:ls.length=rows.length:=by simpa using e2
 refine⟨hN,ls,e1,by omega,λx hx=>?_⟩
 obtain⟨i,hi,rfl⟩:=Th hx
 have hr:i<rows.length:=by omega
 obtain⟨n',q1,q2,q3,q4⟩:=e3 i (.ref ls[i]) rows[i] (by simp[hi]) (by simp[hr])
 cases q1
 exact⟨q2,q3,rows[i],q4,h2 _ (UL hr),h3 _ (UL hr)⟩
theorem TabW.back{N n m t:Nat}{g:G}(h:TabW N n m g t):∃rows,tabOf N g t rows/\rows.length=n/\(∀r∈rows,r.length=m)/\∀r∈rows,∀d∈r,entOk d n m:=by
 obtain⟨hN,ls,e1,e2,e3⟩:=h
 have:∀ls:List Nat,(∀x∈ls,N<=x/\x≠t/\∃r,g[x]?=some (.lst r)/\r.length=m/\∀d∈r,entOk d n m)->∃rows:List (List D),rows.length=ls.length/\(∀r∈rows,r.length=m/\∀d∈r,entOk d n m)/\∀(i:Nat) x r,ls[i]?=some x->rows[i]?=some r->N<=x/\x≠t/\g[x]?=some (.lst r):=by
  intro ls
  induction ls with
  |nil=>exact λ_=>⟨[],rfl,by simp,by simp⟩
  |cons x l ih =>
   intro hx
   obtain⟨rows,a1,a2,a3⟩:=ih λy hy=>hx y (by simp[hy])
   obtain⟨b1,b2,r,b3,b4,b5⟩:=hx x (by simp)
   refine⟨r::rows,by simp[a1],λr' hr'=>?_,λi y r' hy hr'=>?_⟩
   ·rcases UD.mp hr' with rfl|hr'
    ·exact⟨b4,b5⟩
    ·exact a2 r' hr'
   ·cases i with
    |zero=>simp at hy hr';subst hy hr';exact⟨b1,b2,b3⟩
    |succ i=>exact a3 i y r' (by simpa using hy) (by simpa using hr')
 obtain⟨rows,a1,a2,a3⟩:=this ls e3
 refine⟨rows,⟨hN,_,e1,by simp[a1],λi x r hx hr=>?_⟩,by omega,λr hr=>(a2 r hr).1,λr hr=>(a2 r hr).2⟩
 rw[UA]at hx
 cases hl:ls[i]? with
 |none=>rw[hl]at hx;cases hx
 |some y =>
  rw[hl]at hx
  cases hx
  exact⟨y,rfl,(a3 i y r hl hr).1,(a3 i y r hl hr).2.1,(a3 i y r hl hr).2.2⟩
theorem TabW.set{N n m t x:Nat}{g:G}{r:List D}(h:TabW N n m g t)(hx:g[x]?=some (.lst r))(xt:x≠t){r':List D}(hl:r'.length=m)(hr:∀d∈r',entOk d n m):TabW N n m (g.set x (.lst r')) t:=by
 obtain⟨hN,ls,e1,e2,e3⟩:=h
 refine⟨hN,ls,by rw[Uh xt];exact e1,e2,λy hy=>?_⟩
 obtain⟨b1,b2,r0,b3,b4,b5⟩:=e3 y hy
 by_cases z:x=y
 ·subst z;exact⟨b1,b2,r',QH hx,hl,hr⟩
 ·exact⟨b1,b2,r0,by rw[Uh z];exact b3,b4,b5⟩
theorem TabW.cnt{N n m t a:Nat}{g:G}{o:GO}(h:TabW N n m g t)(ha:a<N):TabW N n m (g.set a o) t:=by
 obtain⟨hN,ls,e1,e2,e3⟩:=h
 refine⟨hN,ls,by rw[Uh (by omega)];exact e1,e2,λy hy=>?_⟩
 obtain⟨b1,b2,r0,b3,b4,b5⟩:=e3 y hy
 exact⟨b1,b2,r0,by rw[Uh (by omega)];exact b3,b4,b5⟩
noncomputable def sMb(ns:List Int)(a n m t:Nat)(x2 x6 x7:Option D):S3:=[some (.fl (ns.map .int)),some (.ref a),x2,some (.int n),some (.int m),some (.ref t),x6,x7]
theorem QlQ{N n m t a i j:Nat}{ns:List Int}{g:G}{k:Int}{x2:Option D}(h:TabW N n m g t)(ha:a<N)(hg:cnt g a k)(hk:0<=k)(hk2:k<1000000000)(hi:i<n)(hj:j<m):
  ∃x2' g',ZX (sMb ns a n m t x2 (some (.int i)) (some (.int j))) g=.nx (sMb ns a n m t x2' (some (.int i)) (some (.int j))) g'/\TabW N n m g' t/\cnt g' a (k+1)/\KeepsN N [a] g g':=by
 obtain⟨mm,m1,m2,e⟩:=Qam ns a k g hg hk hk2
 have hn':(0:Int)<n:=by omega
 have hm':(0:Int)<m:=by omega
 have c1:cnt (g.set a (.lst [.int (k+1)])) a (k+1):=QH hg
 have h1:TabW N n m (g.set a (.lst [.int (k+1)])) t:=h.cnt ha
 have k1:KeepsN N [a] g (g.set a (.lst [.int (k+1)])):=(Keeps.set _ _).n (by simp)
 generalize g.set a (.lst [.int (k+1)])=g1 at e c1 h1 k1
 have s1:mAsg (gSet 2) (Qo ZR (Qb (mVar 0) (Qb (mVar 1) mNil))) (sMb ns a n m t x2 (some (.int i)) (some (.int j))) g=.nx (sMb ns a n m t (some (.int mm)) (some (.int i)) (some (.int j))) g1:=by simp[sMb,e]
 have part:∀(g:G)(σ:S3)(P:Bool)(c:MT)(v:ME),σ[5]?=some (some (.ref t))->σ[6]?=some (some (.int i))->σ[7]?=some (some (.int j))->TabW N n m g t->cnt g a (k+1) ->
   (∀x r d,g[x]?=some (.lst r)->r[j]?=some d->pIx (.ref t) (.int i) g=.ok (.ref x) g->pIx (.ref x) (.int j) g=.ok d g->entOk d n m->c σ g=.ok false g\/(c σ g=.ok true g/\∃d',v σ g=.ok d' g/\entOk d' n m)) ->
   ∃g',mIf c (YQ (mOp2 pIx (mVar 5) (mVar 6)) (mVar 7) v) QG σ g=.nx σ g'/\TabW N n m g' t/\cnt g' a (k+1)/\KeepsN N [a] g g':=by
  intro g σ P c v v5 v6 v7 h hc hd
  obtain⟨hN,ls,e1,e2,e3⟩:=id h
  have hx:ls[i]?=some (ls[i]'(by omega)):=by simp[show i<ls.length by omega]
  obtain⟨b1,b2,r,b3,b4,b5⟩:=e3 _ (UL (show i<ls.length by omega))
  have hr:r[j]?=some (r[j]'(by omega)):=by simp[show j<r.length by omega]
  have p1:pIx (.ref t) (.int i) g=.ok (.ref (ls[i]'(by omega))) g:=Qaf e1 (by rw[UA,hx];rfl)
  have p2:pIx (.ref (ls[i]'(by omega))) (.int j) g=.ok (r[j]'(by omega)) g:=Qaf b3 hr
  rcases hd _ r _ b3 hr p1 p2 (b5 _ (UL (by omega))) with hf|⟨ht,d',hv,ho⟩
  ·exact⟨g,iff' g hf rfl,h,hc,.refl⟩
  ·refine⟨g.set (ls[i]'(by omega)) (.lst (r.set j d')),ift g ht ?_,h.set b3 b2 (by simp[b4]) (λd hd=>?_),(Uh (by omega)).trans hc,(Keeps.set _ _).n (λn hn h2=>by simp at hn;omega)⟩
   ·exact QfV hv (by simp[v5,v6,p1]) (by simp[v7]) b3 (by omega)
   ·rcases WJ hd with hd|rfl
    ·exact b5 d hd
    ·exact ho
 obtain⟨g2,s2,h2,c2,k2⟩:=part g1 (sMb ns a n m t (some (.int mm)) (some (.int i)) (some (.int j))) true (QaN (Qk (mOp2 pEq (mOp2 pMod (mVar 2) (mLit (.int 3))) (mLit (.int 0)))) (Qk (mOp2 Qaq (mOp2 pIx (mOp2 pIx (mVar 5) (mVar 6)) (mVar 7)) (mLit .non)))) (mOpA pTup (Qb (mOp2 pIx (mOp2 pIx (mOp2 pIx (mVar 5) (mVar 6)) (mVar 7)) (mLit (.int 0))) (Qb (mOp2 pIx (mOp2 pIx (mOp2 pIx (mVar 5) (mVar 6)) (mVar 7)) (mLit (.int 1))) (Qb (mVar 6) mNil)))) rfl rfl rfl h1 c1 (λx r d hx hr p1 p2 ho=>by
  rcases ho with rfl|⟨u,v,w,rfl,u0,u1,v0,v1,hw⟩
  ·left;by_cases h3:mm%3=0 <;> simp[sMb,h3,p1,p2,Qaq,isNon]
  ·by_cases h3:mm%3=0
   ·right;exact⟨by simp[sMb,h3,p1,p2,Qaq,isNon],.tup [.int u,.str w,.int i],by simp[sMb,p1,p2,SZ],.inr ⟨u,i,w,rfl,u0,u1,by omega,by omega,hw⟩⟩
   ·left;simp[sMb,h3])
 obtain⟨w,hw,ww⟩:=QnB (mm/300) g2
 obtain⟨g3,s3,h3,c3,k3⟩:=part g2 (sMb ns a n m t (some (.int mm)) (some (.int i)) (some (.int j))) true (QaN (Qk (mOp2 pGt (mOp2 pMod (mOp2 Z6 (mVar 2) (mLit (.int 3))) (mLit (.int 7))) (mLit (.int 1)))) (Qk (mOp2 pIs (mOp2 pIx (mOp2 pIx (mVar 5) (mVar 6)) (mVar 7)) (mLit .non)))) (mOpA pTup (Qb (mOp2 pMod (mOp2 Z6 (mVar 2) (mLit (.int 30))) (mVar 4)) (Qb (mOp2 pIx (mLit (.str "lr")) (mOp2 pMod (mOp2 Z6 (mVar 2) (mLit (.int 300))) (mLit (.int 2)))) (Qb (mOp2 pMod (mOp2 Z6 (mVar 2) (mLit (.int 600))) (mVar 3)) mNil)))) rfl rfl rfl h2 c2 (λx r d hx hr p1 p2 ho=>by
  by_cases h3:1<mm/3%7
  ·rcases ho with rfl|⟨u,v,w,rfl,_⟩
   ·right;exact⟨by simp[sMb,h3,p1,p2,pIs,isNon,JU],.tup [.int (mm/30%m),.str w,.int (mm/600%n)],by simp[sMb,JU,Qgc hn',Qgc hm',hw,SZ],.inr ⟨_,_,w,rfl,TM _ (by omega),TC _ hm',TM _ (by omega),TC _ hn',ww⟩⟩
   ·left;simp[sMb,h3,p1,p2,pIs,isNon,JU]
  ·left;simp[sMb,h3,JU])
 exact⟨some (.int mm),g3,Qg _ g1 s1 (Qg _ g2 s2 s3),h3,c3,(k1.trans k2).trans k3⟩
theorem QnP{N n m t a i:Nat}{ns:List Int}{g:G}{k:Int}{x2 x7:Option D}(h:TabW N n m g t)(ha:a<N)(hg:cnt g a k)(hk:0<=k)(hk2:k<900000000)(hi:i<n)(hm:m<=8):
  ∃x2' x7' g',Zr (sMb ns a n m t x2 (some (.int i)) x7) g=.nx (sMb ns a n m t x2' (some (.int i)) x7') g'/\TabW N n m g' t/\cnt g' a (k+m)/\KeepsN N [a] g g':=by
 obtain⟨σ',g',f1,h',c',k',x2',x7',rfl⟩:=YD (t:=gSet 7) (body:=ZX) (lo:=0) (n:=m) (σ:=sMb ns a n m t x2 (some (.int i)) x7) (g:=g)
  (λj σ g'=>TabW N n m g' t/\cnt g' a (k+j)/\KeepsN N [a] g g'/\∃x2' x7',σ=sMb ns a n m t x2' (some (.int i)) x7') ⟨h,by simpa using hg,.refl,_,_,rfl⟩ (λj σ g' hj ⟨q1,q2,q3,x2',x7',hσ⟩=>by
   subst hσ
   obtain⟨x2'',g'',e1,e2,e3,e4⟩:=QlQ (ns:=ns) (x2:=x2') q1 ha q2 (by omega) (by omega) hi hj
   refine⟨sMb ns a n m t x2' (some (.int i)) (some (.int j)),_,g'',by simp[sMb,gSet],e1,e2,by rw[show k+((j+1:Nat):Int)=k+j+1 by omega];exact e3,q3.trans e4,_,_,rfl⟩)
 refine⟨x2',x7',g',?_,h',c',k'⟩
 unfold Zr
 have hrg:Qx (mVar 4) (sMb ns a n m t x2 (some (.int i)) x7) g=.ok (QX 0 m) g:=Yc (by simp[sMb]) (Qb2 (by omega))
 rw[QaD hrg]
 exact f1
theorem pick{xs:List Int}{i:Int}{g:G}{n:Nat}(hx:∀x∈xs,1<=x/\x<=4)(h0:0<=i)(h1:i<xs.length)(hn:g.length=n):∃v:Nat,1<=v/\v<=4/\pIx (.ref n) (.int i) (g++[.lst (xs.map .int)])=.ok (.int v) (g++[.lst (xs.map .int)]):=by
 subst hn
 have hi:i.toNat<xs.length:=by omega
 have:=hx _ (UL hi)
 refine⟨(xs[i.toNat]).toNat,by omega,by omega,?_⟩
 rw[Ti (by omega)]
 exact QnF (QQ _) h0 (by simp[hi])
end L3
namespace L3
open PySem
theorem QoM(ns:List Int)(a:Nat)(k:Int)(g:G)(hg:cnt g a k)(hk:0<=k)(hk2:k<800000000):
  ∃N n m t rows k' g',Y9 [.fl (ns.map .int),.ref a] g=.ok (.ref t) g'/\tabOf N g' t rows/\Tb rows n m/\cnt g' a k'/\k<=k'/\k'<=k+200/\Keeps [a] g g'/\a<N:=by
 obtain⟨mm,m1,m2,e⟩:=Qam ns a k g hg hk (by omega)
 have ha:=Yb hg
 have c1:cnt (g.set a (.lst [.int (k+1)])) a (k+1):=QH hg
 have k1:Keeps [a] g (g.set a (.lst [.int (k+1)])):=.set _ _
 have l1:(g.set a (.lst [.int (k+1)])).length=g.length:=by simp
 generalize g.set a (.lst [.int (k+1)])=g1 at e c1 k1 l1
 obtain⟨v,v1,v2,e2⟩:=pick (xs:=[1,2,2,3,3,4]) (i:=mm%6) (g:=g1) (n:=g1.length) (by decide) (by omega) (by simp;omega) rfl
 have k2:Keeps [a] g1 (g1++[.lst ([1,2,2,3,3,4].map D.int)]):=.push _
 have n2:newL [.int 1,.int 2,.int 2,.int 3,.int 3,.int 4] g1=.ok (.ref g1.length) (g1++[.lst ([1,2,2,3,3,4].map D.int)]):=by simp[SZ]
 have c2:cnt (g1++[.lst ([1,2,2,3,3,4].map D.int)]) a (k+1):=JT c1
 generalize g1++[.lst ([1,2,2,3,3,4].map D.int)]=g2 at e2 k2 n2 c2
 obtain⟨u,u1,u2,e3⟩:=pick (xs:=[2,2,3,2,4,1]) (i:=mm/6%6) (g:=g2) (n:=g2.length) (by decide) (by omega) (by simp;omega) rfl
 have k3:Keeps [a] g2 (g2++[.lst ([2,2,3,2,4,1].map D.int)]):=.push _
 have n3:newL [.int 2,.int 2,.int 3,.int 2,.int 4,.int 1] g2=.ok (.ref g2.length) (g2++[.lst ([2,2,3,2,4,1].map D.int)]):=by simp[SZ]
 have c3:cnt (g2++[.lst ([2,2,3,2,4,1].map D.int)]) a (k+1):=JT c2
 generalize g2++[.lst ([2,2,3,2,4,1].map D.int)]=g3 at e3 k3 n3 c3
 let S:Option D->Option D->Option D->Option D->S3:=λx3 x4 x5 x6=>[some (.fl (ns.map .int)),some (.ref a),some (.int mm),x3,x4,x5,x6,none]
 obtain⟨n,m,hn0,hn,hm0,hm,s4⟩:∃n m:Nat,0<n/\n<=5/\0<m/\m<=8/\mIf (Qk (mOp2 pEq (mOp2 pMod (mOp2 Z6 (mVar 2) (mLit (.int 36))) (mLit (.int 13))) (mLit (.int 0)))) (mAsg (Qai [(gSet 3),(gSet 4)]) (mOpA pTup (Qb (mLit (.int 5)) (Qb (mLit (.int 8)) mNil)))) QG (S (some (.int v)) (some (.int u)) none none) g3=.nx (S (some (.int n)) (some (.int m)) none none) g3:=by
  by_cases h:mm/36%13=0
  ·refine⟨5,8,by omega,by omega,by omega,by omega,ift g3 (by simp[S,JU,h]) (by unfold mAsg;simp[SZ,Qai,QeG,gSet,S])⟩
  ·exact⟨v,u,by omega,by omega,by omega,by omega,iff' g3 (by simp[S,JU,h]) rfl⟩
 obtain⟨rows,g4,e4,k4,c4,t4,r1,r2,r3⟩:=QjG ns a (k+1) n m g3 hn0 hm0 (by omega) hm c3 (by omega) (by omega)
 have haN:a<g3.length:=Yb c3
 have hmul:((n*m:Nat):Int)<=40:=by have:=Nat.mul_le_mul hn hm;omega
 have hmul0:(n:Int)*m=((n*m:Nat):Int):=by simp
 have hmm0:(0:Int)<=((n*m:Nat):Int):=by omega
 rw[hmul0]at c4
 generalize ((n*m:Nat):Int)=nm at c4 hmul hmm0
 obtain⟨σ',g5,f5,h5,⟨k',c5,hk'1,hk'2⟩,k5,x2',x6',x7',rfl⟩:=YD (t:=gSet 6) (body:=Zr) (lo:=0) (n:=n) (σ:=sMb ns a n m g3.length (some (.int mm)) none none) (g:=g4)
  (λi σ g'=>TabW g3.length n m g' g3.length/\(∃k',cnt g' a k'/\k+1+nm<=k'/\k'<=k+1+nm+8*i)/\KeepsN g3.length [a] g4 g'/\∃x2' x6' x7',σ=sMb ns a n m g3.length x2' x6' x7') ⟨QiF t4 r1 r2 r3,⟨_,c4,by omega,by omega⟩,.refl,_,_,_,rfl⟩ (λi σ g' hi ⟨q1,⟨k',q2,q3,q4⟩,q5,x2',x6',x7',hσ⟩=>by
   subst hσ
   obtain⟨y2,y7,g'',z1,z2,z3,z4⟩:=QnP (ns:=ns) (i:=i) (x2:=x2') (x7:=x7') q1 haN q2 (by omega) (by omega) hi hm
   exact⟨sMb ns a n m g3.length x2' (some (.int i)) x7',_,g'',by simp[sMb,gSet],z1,z2,⟨_,z3,by omega,by omega⟩,q5.trans z4,_,_,_,rfl⟩)
 obtain⟨rows',t5,w1,w2,w3⟩:=h5.back
 have kk:Keeps [a] g g5:=by
  have k34:Keeps [a] g3 g4:=k4
  have:KeepsN g3.length [a] g3 g5:=(k34.n (by simp)).trans k5
  exact((k1.trans k2).trans k3).trans this.keeps
 refine⟨g3.length,n,m,g3.length,rows',k',g5,QS rfl (?_:Y8 [some (.fl (ns.map .int)),some (.ref a),none,none,none,none,none,none] g=_),t5,⟨hn0,hm0,by omega,hm,w1,w2,w3⟩,c5,by omega,by omega,kk,haN⟩
 unfold Y8
 refine Qg (S none none none none) g1 (by simp[S,e]) (Qg (S (some (.int v)) none none none) g2 ?_ (Qg (S (some (.int v)) (some (.int u)) none none) g3 ?_ (Qg _ g3 s4 (Qg (sMb ns a n m g3.length (some (.int mm)) none none) g4 ?_ (Qg (sMb ns a n m g3.length x2' x6' x7') g5 ?_ rfl)))))
 ·exact ZI (Y0 (Qcc (xs:=[.int 1,.int 2,.int 2,.int 3,.int 3,.int 4]) (g1:=g1) (by simp) n2) (y:=.int (mm%6)) (g2:=g2) (by simp[S]) e2)
 ·exact ZI (Y0 (Qcc (xs:=[.int 2,.int 2,.int 3,.int 2,.int 4,.int 1]) (g1:=g2) (by simp) n3) (y:=.int (mm/6%6)) (g2:=g3) (by simp[S,JU]) e3)
 ·exact ZI (by rw[Q3 (ds:=[.fl (ns.map .int),.ref a,.int n,.int m]) (g':=g3) rfl];exact e4)
 ·have hrg:Qx (mVar 3) (sMb ns a n m g3.length (some (.int mm)) none none) g4=.ok (QX 0 n) g4:=Yc (by simp[sMb]) (Qb2 (by omega))
  rw[QaD hrg]
  exact f5
end L3
end
namespace L3
open PySem
theorem Qet:∀is:List Int,QdT (is.map D.int)=some is
 |[]=>rfl
 |i::r=>by show(QdT (r.map D.int)).map (i :: ·)=_;rw[Qet r];rfl
theorem QiG{c:Cn}{x:D}{B:Nat}{g:G}(h:SL g c x B)(hB:B<=40000):∃M g',Qdp [x] g=.ok (Z0 c M) g'/\MkF M c.f/\M.length<=B/\Keeps [] g g':=by
 obtain⟨d,ks,rfl,hd,hf,hk⟩:=h
 obtain⟨is,k1,k2,k3⟩:=hf.keys
 have hil:=Qgb k1
 have hsl:(Yz is).length=is.length:=(Ym is).length_eq
 have hM:=hf.marks k1
 let S:S3:=[some (shL c d),some (.int c.st),some (.int c.pl),some (.ref d)]
 have p1:QeZ (.ref d) g=.ok (.ref g.length) (g++[.lst (is.map .int)]):=by
  unfold QeZ;dsimp only;rw[hd];dsimp only;rw[k1];dsimp only;rw[Ud (by omega)]
 have g1:=QQ (g:=g) (.lst (is.map D.int))
 have kp1:Keeps [] g (g++[.lst (is.map D.int)]):=.push _
 generalize g.length=n1 at p1 g1
 generalize g++[.lst (is.map D.int)]=h1 at p1 g1 kp1
 have p2:Qaj (.ref n1) h1=.ok (.ref h1.length) (h1++[.lst ((Yz is).map .int)]):=by
  unfold Qaj;rw[Qb3 g1];dsimp only;rw[Qet]
 have g2:=QQ (g:=h1) (.lst ((Yz is).map D.int))
 have kp2:Keeps [] h1 (h1++[.lst ((Yz is).map D.int)]):=.push _
 generalize h1.length=n2 at p2 g2
 generalize h1++[.lst ((Yz is).map D.int)]=h2 at p2 g2 kp2
 have hd2:=(kp1.trans kp2).at' _ _ (by simp) hd
 have ha:mOp1 Qaj (mOp1 QeZ (mVar 3)) S g=.ok (.ref n2) h2:=JR (JR (x:=.ref d) (g1:=g) rfl p1) p2
 have c1:=Qb7 (F:=D.int) (H:=λy=>stD (y,c.f y)) (t:=gSet 0) (e:=mOpA pTup (Qb (mVar 0) (Qb (mOp2 pDIx (mVar 1) (mVar 0)) mNil))) (n:=1) (cap:=[3]) (σ:=S) (g0:=g) (a:=mOp1 Qaj (mOp1 QeZ (mVar 3))) g2 (by omega) ha (λσ=>∃u,σ=[u,some (.ref d)]) ⟨_,rfl⟩ (λy hy σ' ⟨u,hu⟩=>by
  subst hu
  have hy0:=(k3 y).mp ((Ym is).mem_iff.mp hy)
  refine⟨[some (.int y),some (.ref d)],rfl,⟨_,rfl⟩,?_⟩
  have e:pDIx (.ref d) (.int y) h2=.ok (.int (c.f y)) h2:=by unfold pDIx;dsimp only;rw[hd2];dsimp only;rw[hf.get,Ue hy0]
  simp[e,SZ,stD])
 have g3:=QQ (g:=h2) (.lst ((Yz is).map λy=>stD (y,c.f y)))
 have kp3:Keeps [] h2 (h2++[.lst ((Yz is).map λy=>stD (y,c.f y))]):=.push _
 refine⟨(Yz is).map λy=>(y,c.f y),_,QS rfl (?_:Qdo [some (shL c d),none,none,none] g=_),hM,by simp;omega,(kp1.trans kp2).trans kp3⟩
 unfold Qdo
 refine Qg S g rfl (QcQ (Qcc (xs:=[.int c.st,.int c.pl,.tup (mkD ((Yz is).map λy=>(y,c.f y)))]) (g1:=h2++[.lst ((Yz is).map λy=>stD (y,c.f y))]) (Qv (g1:=g) rfl (Qv (g1:=g) rfl (Qv (g1:=h2++[.lst ((Yz is).map λy=>stD (y,c.f y))]) (JR c1 ?_) rfl))) (by simp[SZ,Z0])))
 simp[YR,g3,mkD]
theorem Qfb{g:G}{f:Nat}{ds:List D}(hz:ds.length<=1000)(h:∀u∈ds,Sm g f u u):Sm g (f+1) (.tup ds) (.tup ds):=.seq _ _ _ false ds ds rfl rfl rfl hz (λi u v h1 h2=>by
 rw[h1]at h2;cases h2
 exact h u (RW h1))
theorem QlR(g:G)(c:Cn){M:List (Int×Int)}(hM:M.length<=1000)(k:Int):Sm g 6 (.tup [Z0 c M,.int k]) (.tup [Z0 c M,.int k]):=by
 refine Qfb (by simp) λu hu=>?_
 simp at hu
 rcases hu with rfl|rfl
 ·refine Qfb (by simp) λu hu=>?_
  simp at hu
  rcases hu with rfl|rfl|rfl
  ·exact .int _ _
  ·exact .int _ _
  ·refine Qfb (by simpa[mkD]using hM) λu hu=>?_
   obtain⟨p,_,rfl⟩:=RP.mp hu
   exact QlK g 1 p
 ·exact .int _ _
theorem Qcd(g:G)(c:Cn){M:List (Int×Int)}(hM:M.length<=1000)(k:Int):∃g',ZD 6 [.tup [Z0 c M,.int k],.tup [Z0 c M,.int k]] g=.ok (.bl true) g'/\Keeps [] g g':=Qiv (QlR g c hM k) g .refl
noncomputable def tooS:Str:=Str.ofString "too long"
theorem QaI{rows:List (List D)}{n m M k w:Nat}{steps:Int}{g:G}(T:Tb rows n m)(hM:g[M]?=some (JQ rows))(hs:steps=(w:Int)\/(steps<0/\w=0))(hw:min k w<70000):
  ∃g',Keeps [] g g'/\(match runN rows k ⟨0,[],0,[]⟩ (w:Nat) with
   |none=>Ya [.ref M,.int steps,.int k] g=.ok (.str tooS) g'
   |some q=>∀Mk,MkF Mk (runF rows w c0).1.f->Mk.length<=40000->∃g2,Keeps [] g g2/\Ya [.ref M,.int steps,.int k] g=.ok (.tup [Z0 (runF rows w c0).1 Mk,.int (runF rows w c0).2]) g2):=by
 obtain⟨g',k1,y⟩:=QdD (k:=k) T hM hs hw
 refine⟨g',k1,?_⟩
 have s0:mAsg (gSet 3) (mLit .non) [some (.ref M),some (.int steps),some (.int k),none] g=.nx [some (.ref M),some (.int steps),some (.int k),some .non] g:=rfl
 cases hr:runN rows k ⟨0,[],0,[]⟩ (w:Nat) with
 |none =>
  rw[hr]at y
  refine QS rfl (Qg _ g s0 (Qg [some (.ref M),some (.int steps),some (.int k),some (.str tooS)] g' ?_ rfl))
  unfold mTry
  simp[y,runH,tooS]
 |some q =>
  rw[hr]at y
  intro Mk h1 h2
  obtain⟨g2,k2,e2⟩:=y Mk h1 h2
  refine⟨g2,k2,QS rfl (Qg _ g s0 (Qg [some (.ref M),some (.int steps),some (.int k),some (.tup [Z0 (runF rows w c0).1 Mk,.int (runF rows w c0).2])] g2 ?_ rfl))⟩
  unfold mTry
  simp[e2]
theorem QnQ{rows:List (List D)}{n m w:Nat}(T:Tb rows n m)(k:Nat):
  (cutF rows w c0 none<=k->∃q,runN rows k ⟨0,[],0,[]⟩ (w:Nat)=some q)/\(k<cutF rows w c0 none->runN rows k ⟨0,[],0,[]⟩ (w:Nat)=none):=by
 obtain⟨q,hq⟩:=QcR T w ⟨0,[],0,[]⟩ (w:Nat) (J7 T) (by omega)
 have hl:=Qf1 T w w _ c0 q (J7 T) (QdC rows) hq
 have hf:=Qf0 T w _ (w:Nat) q k (J7 T) hq
 exact⟨λh=>⟨q,hf.1 (by rw[hl];omega)⟩,λh=>hf.2 (by rw[hl];omega)⟩
theorem cn0{rows:List (List D)}{n m:Nat}(T:Tb rows n m):CnOk n m c0:=⟨T.n0,λx=>⟨U8 _,by have:=T.m0;show(0:Int)<m;omega⟩⟩
theorem QjT{α:Type}(xs:List α)(k:Nat):cutD xs none (some ((1:Int)+k))=xs.take (k+1):=by
 unfold cutD sIxD
 dsimp only
 rw[Ue (by omega),List.drop_zero,Nat.sub_zero,show((1:Int)+k).toNat=k+1 by omega,List.take_eq_take_iff]
 omega
theorem QnR{s:Int}{g:G}:Qh6 (.int 0) (.int s) g=.ok (.int (s.toNat:Nat)) g:=by
 unfold Qh6
 dsimp only
 by_cases h:0<s
 ·rw[Ud h,Ti (by omega)]
 ·rw[Ue h,show s.toNat=0 by omega];rfl
theorem Qkv{g:G}:pNe (.str tooS) (.str "too long") g=.ok (.bl false) g:=by
 unfold pNe neT tooS;simp
theorem QjU{rows:List (List D)}{n m M t r a J:Nat}{ns:List Int}{g:G}{ds:List D}{k:Int}{i:Nat}{x6 x7 x8 x9 x10 x11 x12 x13:Option D}(T:Tb rows n m)(hM:g[M]?=some (JQ rows))(hr:g[r]?=some (.lst ds))(hR:RunL rows c0 0 g ds J)(hJ:J=(runF rows 200 c0).2)(hc:cnt g a k)(hk:0<=k)(hk2:k<900000000)(hra:r≠a)(hMa:M≠a)(hi:i<4):
  ∃g' y6 y7 y8 y9,Qbq [some (.fl (ns.map .int)),some (.ref a),some (.ref t),some (.ref M),some (.ref r),some (.int i),x6,x7,x8,x9,x10,x11,x12,x13] g=.nx [some (.fl (ns.map .int)),some (.ref a),some (.ref t),some (.ref M),some (.ref r),some (.int i),y6,y7,y8,y9,x10,x11,x12,x13] g'/\Keeps [a] g g'/\cnt g' a (k+1):=by
 obtain⟨v,v1,v2,e1⟩:=Qam ns a k g hc hk (by omega)
 have c1:cnt (g.set a (.lst [.int (k+1)])) a (k+1):=QH hc
 have k1:Keeps [a] g (g.set a (.lst [.int (k+1)])):=.set _ _
 generalize g.set a (.lst [.int (k+1)])=g1 at e1 c1 k1
 have hla:∀q∈[a],∃es,g[q]?=some (.lst es):=λq hq=>⟨[.int k],by rw[Uz.mp hq];exact hc⟩
 have hr1:=k1.at' _ _ (by simpa using hra) hr
 have hM1:=k1.at' _ _ (by simpa using hMa) hM
 have hR1:=hR.mono k1 hla
 obtain⟨steps,hst⟩:∃steps,steps=v%201 - (i:Int):=⟨_,rfl⟩
 obtain⟨w,hw⟩:∃w,w=steps.toNat:=⟨_,rfl⟩
 have hw200:w<=200:=by omega
 have hsw:steps=(w:Int)\/(steps<0/\w=0):=by omega
 -- what is seen
 have hJ2:=QiC (rows:=rows) 200 c0
 obtain⟨N,hN⟩:∃N,N=min w J:=⟨_,rfl⟩
 obtain⟨m1,m2,m3⟩:=Qbt (rows:=rows) 200 c0 w
 obtain⟨_,n2,n3⟩:=Qbt (rows:=rows) 200 c0 N
 have hdone:(runF rows w c0).2=N:=by rw[m1 hw200,<-hJ,hN]
 have hNd:(runF rows N c0).2=N:=n2 (by omega)
 have hcfg:(runF rows w c0).1=(runF rows N c0).1:=by
  by_cases z:w<=J
  ·rw[show N=w by omega]
  ·rw[m3 (by omega) hw200,n3 (by omega) (by omega)]
 have hcut:cutF rows N c0 none=cutF rows w c0 none:=by rw[Qes w c0,hdone]
 have k2:Keeps [] g1 (g1++[.lst (ds.take (w+1))]):=.push _
 have r2:=QQ (g:=g1) (.lst (ds.take (w+1)))
 have p2:QbC (.ref r) none (some ((1:Int)+w)) g1=.ok (.ref g1.length) (g1++[.lst (ds.take (w+1))]):=by unfold QbC;dsimp only;rw[hr1];dsimp only;rw[QjT]
 have hR2:RunL rows c0 0 (g1++[.lst (ds.take (w+1))]) (ds.take (w+1)) N:=⟨by rw[U5,hR.1];omega,λi hi=>by
  obtain⟨x,e,s⟩:=hR1.2 i (by omega)
  exact⟨x,by rw[Rw (by omega)];exact e,s.mono k2 (by simp)⟩⟩
 generalize g1.length=q at p2 r2
 generalize g1++[.lst (ds.take (w+1))]=g2 at p2 r2 k2 hR2
 have e3:=QjS r2 hR2 hNd (by omega)
 obtain⟨x,hx,sx⟩:=hR2.2 N (Uc _)
 obtain⟨Mk,g3,e4,hMk,hMl,k3⟩:=QiG sx (by omega)
 have hln:=JA r2
 rw[hR2.1]at hln
 have hln3:=JA (k3.at' _ _ (by simp) r2)
 rw[hR2.1]at hln3
 have hix:pIx (.ref q) (.int N) g2=.ok x g2:=Qaf r2 hx
 have kp3:=k2.trans k3
 have hM3:=kp3.at' _ _ (by simp) hM1
 rw[<-hcfg]at hMk e4
 have h3:=QnQ T (w:=w) (rows:=rows)
 have hlw:cutF rows w c0 none<=w:=QiE _ _ _
 -- with many
 obtain⟨q5,hq5⟩:=(h3 5000).1 (by omega)
 obtain⟨_,_,y5⟩:=QdD (k:=5000) T hM3 hsw (by omega)
 rw[hq5]at y5
 obtain⟨g4,k4,e5⟩:=y5 Mk hMk (by omega)
 rw[hdone]at e5
 obtain⟨g5,e6,k5⟩:=Qcd g4 (runF rows w c0).1 (M:=Mk) (by omega) (N:Int)
 have hM5:=(k4.trans k5).at' _ _ (by simp) hM3
 -- with just as many
 obtain⟨q6,hq6⟩:=(h3 (cutF rows w c0 none)).1 (Uc _)
 obtain⟨_,_,y6⟩:=QaI (k:=cutF rows w c0 none) T hM5 hsw (by omega)
 rw[hq6]at y6
 obtain⟨g6,k6,e7⟩:=y6 Mk hMk (by omega)
 rw[hdone]at e7
 obtain⟨g7,e8,k7⟩:=Qcd g6 (runF rows w c0).1 (M:=Mk) (by omega) (N:Int)
 have hM7:=(k6.trans k7).at' _ _ (by simp) hM5
 let Z:Option D->Option D->Option D->Option D->S3:=λy6 y7 y8 y9=>[some (.fl (ns.map .int)),some (.ref a),some (.ref t),some (.ref M),some (.ref r),some (.int i),y6,y7,y8,y9,x10,x11,x12,x13]
 -- with one less
 obtain⟨g8,k8,t8⟩:∃g8,Keeps [] g7 g8/\QaN (Qk (mOp2 pGt (mVar 8) (mLit (.int 0)))) (Qk (mOp2 pNe (Qo Ya (Qb (mVar 3) (Qb (mVar 6) (Qb (mOp2 pSub (mVar 8) (mLit (.int 1))) mNil)))) (mLit (.str "too long")))) (Z (some (.int steps)) (some (.ref q)) (some (.int (cutF rows N c0 none))) (some (.tup [Z0 (runF rows w c0).1 Mk,.int N]))) g7=.ok false g8:=by
  rw[hcut]
  by_cases z:cutF rows w c0 none=0
  ·exact⟨g7,.refl,by simp[Z,z]⟩
  ·obtain⟨l,hl⟩:∃l,cutF rows w c0 none=l+1:=⟨cutF rows w c0 none-1,by omega⟩
   obtain⟨g8,k8,y8⟩:=QaI (k:=l) T hM7 hsw (by omega)
   rw[(h3 l).2 (by omega)]at y8
   refine⟨g8,k8,?_⟩
   rw[hl,QlD]
   have hgt:Qk (mOp2 pGt (mVar 8) (mLit (.int 0))) (Z (some (.int steps)) (some (.ref q)) (some (.int ((l+1:Nat):Int))) (some (.tup [Z0 (runF rows w c0).1 Mk,.int N]))) g7=.ok true g7:=by simp[Z] <;> omega
   rw[hgt]
   dsimp only
   rw[Ud rfl]
   refine YG (Y0 (x:=.str tooS) (y:=.str "too long") (g1:=g8) (g2:=g8) ?_ rfl Qkv)
   rw[Q3 (ds:=[.ref M,.int steps,.int l]) (g':=g7) (Qv (g1:=g7) rfl (Qv (g1:=g7) rfl (Qv (g1:=g7) (by simp[Z]) rfl)))]
   exact y8
 refine⟨g8,some (.int steps),some (.ref q),some (.int (cutF rows N c0 none)),some (.tup [Z0 (runF rows w c0).1 Mk,.int N]),?_,k1.trans ((((((kp3.trans k4).trans k5).trans k6).trans k7).trans k8).mono (by simp)),((((((kp3.trans k4).trans k5).trans k6).trans k7).trans k8)).at' _ _ (by simp) c1⟩
 unfold Qbq
 refine Qg (Z (some (.int steps)) x7 x8 x9) g1 (by rw[hst];simp[Z,e1]) ?_
 refine Qg (Z (some (.int steps)) (some (.ref q)) x8 x9) g2 (ZI ?_) ?_
 ·simp only[QjQ,Qiy,QlL,Qkp,Qko,Qik,Z,TJ,Tn,QnR,Qkr,<-hw,p2]
 refine Qg (Z (some (.int steps)) (some (.ref q)) (some (.int (cutF rows N c0 none))) x9) g2 (by simp[Z,e3]) ?_
 refine Qg (Z (some (.int steps)) (some (.ref q)) (some (.int (cutF rows N c0 none))) (some (.tup [Z0 (runF rows w c0).1 Mk,.int N]))) g3 (ZI (Qcc (xs:=[Z0 (runF rows w c0).1 Mk,.int N]) (g1:=g3) (Qv (g1:=g3) ?_ (Qv (g1:=g3) ?_ rfl)) (by simp[SZ]))) ?_
 ·rw[Q3 (ds:=[x]) (g':=g2) (Qv (g1:=g2) (Y0 (x:=.ref q) (y:=.int N) (g1:=g2) (g2:=g2) rfl (by simp[Z,hln]) hix) rfl)]
  exact e4
 ·simp[Z,hln3]
 refine Qg (Z (some (.int steps)) (some (.ref q)) (some (.int (cutF rows N c0 none))) (some (.tup [Z0 (runF rows w c0).1 Mk,.int N]))) g7 (iff' g7 (QnC (g1:=g5) (g2:=g7) (YG ?_) (YG ?_)) rfl) (iff' g8 t8 rfl)
 ·rw[Q3 (ds:=[.tup [Z0 (runF rows w c0).1 Mk,.int N],.tup [Z0 (runF rows w c0).1 Mk,.int N]]) (g':=g4)]
  ·exact e6
  ·refine Qv (g1:=g4) ?_ rfl
   rw[Q3 (ds:=[.ref M,.int steps,.int 5000]) (g':=g3) (by simp[Z])]
   exact e5
 ·rw[Q3 (ds:=[.tup [Z0 (runF rows w c0).1 Mk,.int N],.tup [Z0 (runF rows w c0).1 Mk,.int N]]) (g':=g6)]
  ·exact e8
  ·refine Qv (g1:=g6) ?_ rfl
   rw[Q3 (ds:=[.ref M,.int steps,.int (cutF rows w c0 none)]) (g':=g5) (by simp[Z,hcut])]
   exact e7
noncomputable def QaJ:List (List D):=[[.tup [.int 0,.str rS,.int 1]],[.tup [.int 0,.str lS,.int 0]]]
theorem rsT:Tb QaJ 2 1:=⟨by omega,by omega,by omega,by omega,rfl,by simp[QaJ],by
 intro r hr d hd
 simp[QaJ]at hr
 rcases hr with rfl|rfl
 ·simp at hd;subst hd;exact .inr ⟨0,1,rS,rfl,by omega,by omega,by omega,by omega,.inr rfl⟩
 ·simp at hd;subst hd;exact .inr ⟨0,0,lS,rfl,by omega,by omega,by omega,by omega,.inl rfl⟩⟩
noncomputable def rsC(i:Nat):Cn:=⟨i%2,(i%2:Nat),λ_=>0⟩
theorem QiH(i:Nat):ZL QaJ (rsC i)=some (rsC (i+1)):=by
 have hu:∀x:Int,updF (λ_=>(0:Int)) x 0=λ_=>0:=λx=>by funext y;unfold updF;split <;> rfl
 rcases Nat.mod_two_eq_zero_or_one i with h|h
 ·have h2:(i+1) % 2=1:=by omega
  unfold rsC
  rw[h,h2]
  show goF (.tup [.int 0,.str rS,.int 1]) _=_
  unfold goF
  simp[hu]
 ·have h2:(i+1) % 2=0:=by omega
  unfold rsC
  rw[h,h2]
  show goF (.tup [.int 0,.str lS,.int 0]) _=_
  unfold goF
  have:¬lS=rS:=by decide
  simp[hu,this]
theorem Qkw:∀(k i:Nat),runF QaJ k (rsC i)=(rsC (i+k),k)
 |0,i=>rfl
 |k+1,i=>by rw[QN (QiH i),Qkw k (i+1)];simp[show i+1+k=i+(k+1) by omega]
theorem Qkx:∀(k i:Nat)(p:Option (Nat×Int)),p≠some (rdF (rsC i))->cutF QaJ k (rsC i) p=k
 |0,_,_,_=>rfl
 |k+1,i,p,h=>by
  rw[cutF,QiH]
  dsimp only
  rw[Ue h,Qkx k (i+1) (some (rdF (rsC i))) (λe=>by
   have:=Rb Prod.fst (Option.some.inj e)
   simp[rdF,rsC]at this
   omega)]
  omega
theorem Qky:MkF [] (λ_=>0):=⟨.nil,λx s=>by simp⟩
theorem QlS{g:G}{M a:Nat}{rows:List (List D)}{k:Int}(h:g[M]?=some (JQ rows))(hc:cnt g a k):M≠a:=λe=>by
 subst e
 cases h.symm.trans hc
theorem QiI{ns:List Int}{rows:List (List D)}{n m N t:Nat}{g g0:G}{σ:S3}{e:MA}(T:Tb rows n m)(ht:tabOf N g t rows)(he:e σ g0=.ok [.ref t] g):∃g',Keeps [] g g'/\QbB 11 QJ e σ g0=.ok (.ref g.length) g'/\g'[g.length]?=some (JQ rows):=by
 have n0:=T.n0;have m0:=T.m0;have n12:=T.n12;have m8:=T.m8
 have hgood:=entOk.good T.n0 T.m0 T.len T.row T.ent
 obtain⟨g2,kp2,e2,hM2⟩:=QlA (.ref t) rows g ht.rows (λr hr=>by rw[T.row r hr];exact U3 (Qii (by omega))) (by rw[T.len];exact U3 (Qii (by omega))) (λr hr d hd=>(T.ent r hr d hd).thing) e σ g0 he
 rw[Ud hgood]at e2
 exact⟨g2,kp2,e2,hM2 hgood⟩
theorem Qkz{g:G}{c:Cn}{x:D}{k:Int}(hx:x=.tup [Z0 c [],.int k]):∃g',ZD 6 [.tup [Z0 c [],.int k],x] g=.ok (.bl true) g'/\Keeps [] g g':=by subst hx;exact Qcd g c (M:=[]) (by simp) k
theorem QlT{rows:List (List D)}{n m w:Nat}{y:Str}(T:Tb rows n m)(he:Qb4 rows 0 0=some (.tup [.int 0,.str y,.int 0]))(hw:1<=w):(∃q,runN rows 1 ⟨0,[],0,[]⟩ (w:Nat)=some q)/\(runF rows w c0).2=w/\(runF rows w c0).1=⟨0,if y=rS then w else -w,λ_=>0⟩:=by
 have hst:QF 0 0 [] 0 (w:Int)=w:=by unfold QF Ql;rw[Ud (by simp),Ud (by rfl)];dsimp only;omega
 have hp:putN [] 0 (w:Int)=[]:=by unfold putN;split <;> rfl
 have hl:ZY (.tup [.int 0,.str y,.int 0]) ⟨0,[],0,[]⟩ (w:Nat)=some (⟨0,[],0,[]⟩,(w:Int),if y=rS then (w:Int) else -w):=by
  unfold ZY
  dsimp only
  rw[hst,hp]
  by_cases hy:y=rS
  ·rw[Ud hy,Ud hy];rfl
  ·rw[Ue hy,Ue hy];rfl
 have hn:Yi rows ⟨0,[],0,[]⟩ (w:Nat)=some (⟨0,[],0,[]⟩,(w:Int),if y=rS then (w:Int) else -w):=by unfold Yi;show(Qb4 rows 0 0).bind _=_;rw[he];exact hl
 have hr:runN rows 1 ⟨0,[],0,[]⟩ (w:Nat)=some (⟨0,[],0,[]⟩,(if y=rS then (w:Int) else -w)+0,(w:Int)+0,0+1):=by rw[YH (by omega) hn,Yj (by dsimp only;omega)];rfl
 obtain⟨z1,z2,z3⟩:=Jf T w 1 _ c0 _ (J7 T) (QdC rows) hr
 refine⟨⟨_,hr⟩,by dsimp only at z3;omega,?_⟩
 have e1:=z1.st
 have e2:(runF rows w c0).1.pl=if y=rS then (w:Int) else -w:=by dsimp only at z2;have:c0.pl=0:=rfl;omega
 have e3:(runF rows w c0).1.f=λ_=>0:=by
  funext x
  by_cases h:x<(runF rows w c0).1.pl
  ·have:=z1.L ((runF rows w c0).1.pl-1-x).toNat
   rw[show(runF rows w c0).1.pl-1 - ((((runF rows w c0).1.pl-1-x).toNat:Nat):Int)=x by omega]at this
   exact this
  ·by_cases h2:x=(runF rows w c0).1.pl
   ·rw[h2];exact z1.own
   ·have:=z1.R (x - (runF rows w c0).1.pl-1).toNat
    rw[show(runF rows w c0).1.pl+1+(((x - (runF rows w c0).1.pl-1).toNat:Nat):Int)=x by omega]at this
    exact this
 cases hc:(runF rows w c0).1 with
 |mk st pl f=>rw[hc]at e1 e2 e3;dsimp only at e1 e2 e3;rw[e1,e2,e3]
theorem law_true(ns:List Int)(h:ns.length<=63):∃g',QjB [.fl (ns.map .int)] []=.ok (.bl true) g':=by
 have cA:cnt ([.lst [.int 0]]:G) 0 0:=rfl
 obtain⟨N,n,m,t,rows,k1,g1,e1,t1,T,c1,h11,h12,_,haN⟩:=QoM ns 0 0 [.lst [.int 0]] cA (by omega) (by omega)
 let Z:List (Option D)->S3:=λl=>[some (.fl (ns.map .int)),some (.ref 0),some (.ref t)]++l
 obtain⟨g2,kp2,e2,hM⟩:=QiI (ns:=ns) (σ:=Z [none,none,none,none,none,none,none,none,none,none,none]) (e:=Qb (mVar 2) mNil) (g0:=g1) T t1 rfl
 have c2:=kp2.at' _ _ (by simp) c1
 have t2:=t1.mono kp2 (by simp)
 have hM0:=QlS hM c2
 generalize g1.length=M at e2 hM hM0
 -- the run
 have kp3:Keeps [] g2 (g2++[.dct []]):=.push _
 have sx:SL (g2++[.dct []]) c0 (shL c0 g2.length) 0:=⟨g2.length,[],rfl,QQ _,df0,by simp⟩
 have tb:=(t2.mono kp3 (by simp)).b
 have e3a:mOpA pTup (Qb (mLit (.int 0)) (Qb (mLit (.int 0)) (Qb Qjt mNil))) (Z [some (.ref M),none,none,none,none,none,none,none,none,none,none]) g2=.ok (shL c0 g2.length) (g2++[.dct []]):=by simp[Qjt,SZ,shL,c0]
 generalize g2.length=dn at sx e3a
 generalize g2++[GO.dct []]=g2' at kp3 sx tb e3a
 obtain⟨g3,ds,e3,r3,hR,kp3'⟩:=QjR (k:=200) T (cn0 T) tb sx (by omega)
 have kp23:=kp3.trans kp3'
 have c3:=kp23.at' _ _ (by simp) c2
 have hM3:=kp23.at' _ _ (by simp) hM
 have t3:=t2.mono kp23 (by simp)
 have hr0:g2'.length≠0:=by have:=kp3.len;have:=Yb c2;omega
 generalize g2'.length=r at e3 r3 hr0
 -- four turns
 obtain⟨σ4,g4,f4,kp4,⟨k4,c4,h41,h42⟩,y5,y6,y7,y8,y9,rfl⟩:=YD (t:=gSet 5) (body:=Qbq) (lo:=0) (n:=4) (σ:=Z [some (.ref M),some (.ref r),none,none,none,none,none,none,none,none,none]) (g:=g3)
  (λi σ g'=>Keeps [0] g3 g'/\(∃k',cnt g' 0 k'/\k1<=k'/\k'<=k1+i)/\∃y5 y6 y7 y8 y9,σ=Z [some (.ref M),some (.ref r),y5,y6,y7,y8,y9,none,none,none,none]) ⟨.refl,⟨k1,c3,by omega,by omega⟩,_,_,_,_,_,rfl⟩ (λi σ g' hi ⟨q1,⟨k',q2,q3,q4⟩,y5,y6,y7,y8,y9,hσ⟩=>by
   subst hσ
   have hla:∀q∈[0],∃es,g3[q]?=some (.lst es):=λq hq=>⟨[.int k1],by rw[Uz.mp hq];exact c3⟩
   obtain⟨g'',z6,z7,z8,z9,w1,w2,w3⟩:=QjU (t:=t) (i:=i) (ns:=ns) (x6:=y6) (x7:=y7) (x8:=y8) (x9:=y9) (x10:=none) (x11:=none) (x12:=none) (x13:=none) T (q1.at' _ _ (by simpa using hM0) hM3) (q1.at' _ _ (by simpa using hr0) r3) (hR.mono q1 hla) rfl q2 (by omega) (by omega) hr0 hM0 hi
   refine⟨_,_,g'',?_,w1,q1.trans w2,⟨k'+1,w3,by omega,by omega⟩,some (.int i),z6,z7,z8,z9,rfl⟩
   simp[Z,gSet])
 have t4:=t3.mono kp4 (by simpa using haN)
 -- to and fro
 obtain⟨v,v1,v2,e5⟩:=Qam ns 0 k4 g4 c4 (by omega) (by omega)
 have kp5:Keeps [0] g4 (g4.set 0 (.lst [.int (k4+1)])):=.set _ _
 have c5:cnt (g4.set 0 (.lst [.int (k4+1)])) 0 (k4+1):=QH c4
 generalize g4.set 0 (.lst [.int (k4+1)])=g5 at e5 kp5 c5
 have t5:=t4.mono kp5 (by simpa using haN)
 obtain⟨w,hw⟩:∃w:Nat,300+v%700=(w:Int):=⟨(300+v%700).toNat,by omega⟩
 have hw1:300<=w/\w<=999:=by omega
 have kp6:Keeps [] g5 (g5++[.lst [.tup [.int 0,.str rS,.int 1]],.lst [.tup [.int 0,.str lS,.int 0]],.lst [.ref g5.length,.ref (g5.length+1)]]):=⟨by simp,λk o _ e=>JT e⟩
 have e6:(Qb (mOpA newL (Qb (mOpA newL (Qb (mOpA pTup (Qb (mLit (.int 0)) (Qb (mLit (.str "r")) (Qb (mLit (.int 1)) mNil)))) mNil)) (Qb (mOpA newL (Qb (mOpA pTup (Qb (mLit (.int 0)) (Qb (mLit (.str "l")) (Qb (mLit (.int 0)) mNil)))) mNil)) mNil))) mNil) (Z [some (.ref M),some (.ref r),y5,y6,y7,y8,y9,some (.int w),none,none,none]) g5=.ok [.ref (g5.length+2)] (g5++[.lst [.tup [.int 0,.str rS,.int 1]],.lst [.tup [.int 0,.str lS,.int 0]],.lst [.ref g5.length,.ref (g5.length+1)]]):=by
  have:Str.ofString "l" = lS:=s_l
  simp[SZ,s_r',this]
 have t6:tabOf g5.length (g5++[.lst [.tup [.int 0,.str rS,.int 1]],.lst [.tup [.int 0,.str lS,.int 0]],.lst [.ref g5.length,.ref (g5.length+1)]]) (g5.length+2) QaJ:=by
  refine⟨by omega,_,gt2,rfl,λi x r hx hr=>?_⟩
  match i,hx,hr with
  |0,hx,hr=>cases hx;cases hr;exact⟨_,rfl,by omega,by omega,gt0⟩
  |1,hx,hr=>cases hx;cases hr;exact⟨_,rfl,by omega,by omega,gt1⟩
  |i+2,hx,_=>simp at hx
 generalize g5++[.lst [.tup [.int 0,.str rS,.int 1]],.lst [.tup [.int 0,.str lS,.int 0]],.lst [.ref g5.length,.ref (g5.length+1)]]=g6 at kp6 e6 t6
 obtain⟨g7,kp7,e7,hM7⟩:=QiI (ns:=ns) (σ:=Z [some (.ref M),some (.ref r),y5,y6,y7,y8,y9,some (.int w),none,none,none]) (g0:=g5) rsT t6 e6
 generalize g6.length=M2 at e7 hM7
 have rs0:runF QaJ w c0=(rsC w,w):=by have:=Qkw w 0;rw[Tv]at this;exact this
 have rsc:cutF QaJ w c0 none=w:=Qkx w 0 none (by simp)
 have h3:=QnQ rsT (w:=w)
 rw[rsc]at h3
 obtain⟨q8,hq8⟩:=(h3 5000).1 (by omega)
 obtain⟨_,_,y8'⟩:=QdD (k:=5000) (steps:=w) rsT hM7 (.inl rfl) (by omega)
 rw[hq8,rs0]at y8'
 obtain⟨g8,kp8,e8⟩:=y8' [] Qky (by simp)
 obtain⟨g9,e9,kp9⟩:=Qkz (g:=g8) (c:=rsC w) (x:=.tup [.tup [.int ((w:Int) % 2),.int ((w:Int) % 2),.tup []],.int w]) (k:=w) (by unfold Z0 rsC mkD;simp)
 have hM9:=(kp8.trans kp9).at' _ _ (by simp) hM7
 obtain⟨l,hl⟩:∃l,w=l+1:=⟨w-1,by omega⟩
 obtain⟨g10,kp10,y10⟩:=QaI (k:=l) (steps:=w) rsT hM9 (.inl rfl) (by omega)
 rw[(h3 l).2 (by omega)]at y10
 have kpA:=((((kp6.trans kp7).trans kp8).trans kp9).trans kp10)
 have c10:=kpA.at' _ _ (by simp) c5
 have t10:=t5.mono kpA (by simp)
 -- far
 obtain⟨u,u1,e11⟩:=QnO ns 0 (k4+1) g10 c10 (by omega) (by omega)
 have kp11:Keeps [0] g10 (g10.set 0 (.lst [.int (k4+1+1)])):=.set _ _
 have c11:cnt (g10.set 0 (.lst [.int (k4+1+1)])) 0 (k4+1+1):=QH c10
 generalize g10.set 0 (.lst [.int (k4+1+1)])=g11 at e11 kp11 c11
 obtain⟨p,p1,p2,e12⟩:=Qam ns 0 (k4+1+1) g11 c11 (by omega) (by omega)
 have kp12:Keeps [0] g11 (g11.set 0 (.lst [.int (k4+1+1+1)])):=.set _ _
 generalize g11.set 0 (.lst [.int (k4+1+1+1)])=g12 at e12 kp12
 have t12:=(t10.mono kp11 (by simpa using haN)).mono kp12 (by simpa using haN)
 have hp2:p%2=0\/p%2=1:=by omega
 obtain⟨y,hy,hyy⟩:∃y,pIx (.str "lr") (.int (p%2)) g12=.ok (.str y) g12/\((p%2=0/\y=lS)\/(p%2=1/\y=rS)):=by
  rw[s_lr]
  rcases hp2 with h|h <;> rw[h]
  ·exact⟨lS,rfl,.inl ⟨rfl,rfl⟩⟩
  ·exact⟨rS,rfl,.inr ⟨rfl,rfl⟩⟩
 have tW:=QiF t12 T.len T.row T.ent
 obtain⟨hN,ls,b1,b2,b3⟩:=id tW
 have n0:=T.n0;have m0:=T.m0
 have hx:ls[0]?=some (ls[0]'(by omega)):=by simp[show 0<ls.length by omega]
 obtain⟨d1,d2,rr,d3,d4,d5⟩:=b3 _ (UL (show 0<ls.length by omega))
 have i1:pIx (.ref t) (.int 0) g12=.ok (.ref (ls[0]'(by omega))) g12:=Qaf (p:=0) b1 (by rw[UA,hx];rfl)
 have hyw:y=⟨#[108]⟩\/y=⟨#[114]⟩:=by rcases hyy with⟨_,rfl⟩|⟨_,rfl⟩;exact .inl rfl;exact .inr rfl
 have hent:entOk (.tup [.int 0,.str y,.int 0]) n m:=.inr ⟨0,0,y,rfl,by omega,by omega,by omega,by omega,hyw⟩
 have tW2:TabW N n m (g12.set (ls[0]'(by omega)) (.lst (rr.set 0 (.tup [.int 0,.str y,.int 0])))) t:=tW.set d3 d2 (by simp[d4]) (λd hd=>by
  rcases WJ hd with hd|rfl
  ·exact d5 d hd
  ·exact hent)
 have g13x:=QH (u:=.lst (rr.set 0 (.tup [.int 0,.str y,.int 0]))) d3
 have b13:(g12.set (ls[0]'(by omega)) (.lst (rr.set 0 (.tup [.int 0,.str y,.int 0]))))[t]?=some (.lst (ls.map .ref)):=by rw[Uh d2];exact b1
 have s13:YQ (mOp2 pIx (mVar 2) (mLit (.int 0))) (mLit (.int 0)) (mOpA pTup (Qb (mLit (.int 0)) (Qb (mOp2 pIx (mLit (.str "lr")) (mVar 13)) (Qb (mLit (.int 0)) mNil)))) (Z [some (.ref M),some (.ref r),y5,y6,y7,y8,y9,some (.int w),some (.ref M2),some (.int u),some (.int (p%2))]) g12=.nx (Z [some (.ref M),some (.ref r),y5,y6,y7,y8,y9,some (.int w),some (.ref M2),some (.int u),some (.int (p%2))]) (g12.set (ls[0]'(by omega)) (.lst (rr.set 0 (.tup [.int 0,.str y,.int 0])))):=QfV (k:=0) (by simp[Z,hy,SZ]) (by simp[Z,i1]) rfl d3 (by omega)
 generalize g12.set (ls[0]'(by omega)) (.lst (rr.set 0 (.tup [.int 0,.str y,.int 0])))=g13 at tW2 g13x b13 s13
 obtain⟨rows',t13,w1,w2,w3⟩:=tW2.back
 have T':Tb rows' n m:=⟨T.n0,T.m0,T.n12,T.m8,w1,w2,w3⟩
 have he0:Qb4 rows' 0 0=some (.tup [.int 0,.str y,.int 0]):=by
  obtain⟨_,ds',j1,j2,j3⟩:=id t13
  rw[b13]at j1
  cases j1
  have hr':rows'[0]?=some (rows'[0]'(by omega)):=by simp[show 0<rows'.length by omega]
  obtain⟨n',j4,_,_,j5⟩:=j3 0 (.ref (ls[0]'(by omega))) _ (by rw[UA,hx];rfl) hr'
  cases j4
  rw[g13x]at j5
  unfold Qb4
  rw[hr']
  injection j5 with j5
  injection j5 with j5
  show(rows'[0]'(by omega))[0]?=_
  rw[<-j5]
  simp[show 0<rr.length by omega]
 obtain⟨uw,huw⟩:∃uw:Nat,u=(uw:Int):=⟨u.toNat,by omega⟩
 obtain⟨⟨q14,hq14⟩,f1,f2⟩:=QlT (w:=uw) T' he0 (by omega)
 obtain⟨g14,kp14,e14,hM14⟩:=QiI (ns:=ns) (σ:=Z [some (.ref M),some (.ref r),y5,y6,y7,y8,y9,some (.int w),some (.ref M2),some (.int u),some (.int (p%2))]) (e:=Qb (mVar 2) mNil) (g0:=g13) T' t13 rfl
 generalize g13.length=M3 at e14 hM14
 obtain⟨_,_,y15⟩:=QaI (k:=1) (steps:=u) (w:=uw) T' hM14 (.inl huw) (by omega)
 rw[hq14,f1,f2]at y15
 obtain⟨g15,kp15,e15⟩:=y15 [] Qky (by simp)
 have kp16:Keeps [] g15 (g15++[.lst [.int (-u),.int u]]):=.push _
 have i16:pIx (.ref g15.length) (.int (p%2)) (g15++[.lst [.int (-u),.int u]])=.ok (.int (if y=rS then (uw:Int) else -uw)) (g15++[.lst [.int (-u),.int u]]):=by
  rcases hyy with⟨h,rfl⟩|⟨h,rfl⟩
  ·rw[h,Ue (by decide),huw];exact Qaf (p:=0) (QQ _) rfl
  ·rw[h,Ud rfl,huw];exact Qaf (p:=1) (QQ _) rfl
 obtain⟨g17,e17,kp17⟩:=Qkz (g:=g15++[.lst [.int (-u),.int u]]) (c:=⟨0,if y=rS then (uw:Int) else -uw,λ_=>0⟩) (x:=.tup [.tup [.int 0,.int (if y=rS then (uw:Int) else -uw),.tup []],.int u]) (k:=uw) (by unfold Z0 mkD;simp[huw])
 refine⟨g17,QS rfl (?_:Qlw [some (.fl (ns.map .int)),none,none,none,none,none,none,none,none,none,none,none,none,none] []=_)⟩
 unfold Qlw
 refine Qg [some (.fl (ns.map .int)),some (.ref 0),none,none,none,none,none,none,none,none,none,none,none,none] [.lst [.int 0]] (by simp[SZ]) ?_
 refine Qg (Z [none,none,none,none,none,none,none,none,none,none,none]) g1 (ZI (by rw[Q3 (ds:=[.fl (ns.map .int),.ref 0]) (g':=[.lst [.int 0]]) rfl];exact e1)) ?_
 refine Qg (Z [some (.ref M),none,none,none,none,none,none,none,none,none,none]) g2 (ZI e2) ?_
 refine Qg (Z [some (.ref M),some (.ref r),none,none,none,none,none,none,none,none,none]) g3 (ZI (by rw[Q3 (ds:=[.ref t,shL c0 dn,.int 200]) (g':=g2') (Qv (g1:=g2) rfl (Qv (g1:=g2') e3a (Qv (g1:=g2') rfl rfl)))];exact e3)) ?_
 refine Qg (Z [some (.ref M),some (.ref r),y5,y6,y7,y8,y9,none,none,none,none]) g4 ?_ ?_
 ·have hrg:Qx (mLit (.int 4)) (Z [some (.ref M),some (.ref r),none,none,none,none,none,none,none,none,none]) g3=.ok (QX 0 4) g3:=Yc (n:=4) rfl (Qb2 (by omega))
  rw[QaD hrg]
  exact f4
 refine Qg (Z [some (.ref M),some (.ref r),y5,y6,y7,y8,y9,some (.int w),none,none,none]) g5 (by rw[<-hw];simp[Z,e5]) ?_
 refine Qg (Z [some (.ref M),some (.ref r),y5,y6,y7,y8,y9,some (.int w),some (.ref M2),none,none]) g7 (ZI e7) ?_
 refine Qg _ g9 (iff' g9 (QnD (YG ?_)) rfl) ?_
 ·rw[Q3 (ds:=[.tup [Z0 (rsC w) [],.int w],.tup [.tup [.int ((w:Int) % 2),.int ((w:Int) % 2),.tup []],.int w]]) (g':=g8)]
  ·exact e9
  ·refine Qv (g1:=g8) ?_ ?_
   ·rw[Q3 (ds:=[.ref M2,.int w,.int 5000]) (g':=g7) (by simp[Z])]
    exact e8
   ·simp[Z,SZ]
 refine Qg (Z [some (.ref M),some (.ref r),y5,y6,y7,y8,y9,some (.int w),some (.ref M2),none,none]) g10 (iff' g10 (YG (Y0 (x:=.str tooS) (y:=.str "too long") (g1:=g10) (g2:=g10) ?_ rfl Qkv)) rfl) ?_
 ·rw[Q3 (ds:=[.ref M2,.int w,.int l]) (g':=g9) (Qv (g1:=g9) rfl (Qv (g1:=g9) rfl (Qv (g1:=g9) (by simp[Z,hl]) rfl)))]
  exact y10
 refine Qg (Z [some (.ref M),some (.ref r),y5,y6,y7,y8,y9,some (.int w),some (.ref M2),some (.int u),none]) g11 (ZI (by rw[Q3 (ds:=[.fl (ns.map .int),.ref 0]) (g':=g10) rfl];exact e11)) ?_
 refine Qg (Z [some (.ref M),some (.ref r),y5,y6,y7,y8,y9,some (.int w),some (.ref M2),some (.int u),some (.int (p%2))]) g12 (by simp[Z,e12]) ?_
 refine Qg _ g13 s13 (QcQ ?_)
 rw[Q3 (ds:=[.tup [Z0 ⟨0,if y=rS then (uw:Int) else -uw,λ_=>0⟩ [],.int uw],.tup [.tup [.int 0,.int (if y=rS then (uw:Int) else -uw),.tup []],.int u]]) (g':=g15++[.lst [.int (-u),.int u]])]
 ·exact e17
 ·refine Qv (g1:=g15) ?_ ?_
  ·rw[Q3 (ds:=[.ref M3,.int u,.int 1]) (g':=g14) (Qv (g1:=g14) e14 (Qv (g1:=g14) rfl (Qv (g1:=g14) rfl rfl)))]
   exact e15
  ·refine Qv (g1:=g15++[.lst [.int (-u),.int u]]) (Qcc (xs:=[.tup [.int 0,.int (if y=rS then (uw:Int) else -uw),.tup []],.int u]) (g1:=g15++[.lst [.int (-u),.int u]]) (Qv (g1:=g15++[.lst [.int (-u),.int u]]) (Qcc (xs:=[.int 0,.int (if y=rS then (uw:Int) else -uw),.tup []]) (g1:=g15++[.lst [.int (-u),.int u]]) (Qv (g1:=g15) rfl (Qv (g1:=g15++[.lst [.int (-u),.int u]]) (Y0 (x:=.ref g15.length) (y:=.int (p%2)) (g1:=g15++[.lst [.int (-u),.int u]]) (g2:=g15++[.lst [.int (-u),.int u]]) (by simp[Z,SZ]) rfl i16) (Qv (g1:=g15++[.lst [.int (-u),.int u]]) (by simp[SZ]) rfl))) (by simp[SZ])) (Qv (g1:=g15++[.lst [.int (-u),.int u]]) rfl rfl)) (by simp[SZ])) rfl
end L3
namespace V
open PySem PySem.Spec PyProof.Rows L2 L3
theorem Zh{N P:List Str}{sc:Scope}(h1:sc.kind=.function:=by rfl)(h2:sc.isCoroutine=false:=by rfl)(h3:sc.isGenerator=false:=by rfl)(h4:N.Nodup:=by decide +kernel)(h5:N.take P.length=P:=by rfl)(h6:∀x∈P,sc.names.lookup x=some .local\/sc.names.lookup x=some .cell:=by decide +kernel)(h7:∀y∈sc.names,y.2≠.free:=by decide +kernel):FnScope N P sc:=⟨h1,h2,h3,h4,h5,h6,h7⟩
noncomputable def top(i:Nat):Stmt:=PySem.Challenge.pw_tapeproof_k24_fast_after.main.body.getD i (.Pass ⟨0,0,0,0⟩)
noncomputable abbrev Yp:Stmt:=top 6
noncomputable abbrev QgQ:List Str:=["value"]
theorem Qfc:FnScope QgQ ["value"] (Qc Yp):=Zh
noncomputable abbrev Yq:Stmt:=top 7
noncomputable abbrev QgR:List Str:=["value", "many"]
theorem Qfd:FnScope QgR ["value", "many"] (Qc Yq):=Zh
noncomputable abbrev QV:Stmt:=top 8
noncomputable abbrev Qbc:List Str:=["value"]
theorem QaX:FnScope Qbc ["value"] (Qc QV):=Zh
noncomputable abbrev Yr:Stmt:=top 13
noncomputable abbrev QgS:List Str:=["thing", "states", "signs"]
theorem Qfe:FnScope QgS ["thing", "states", "signs"] (Qc Yr):=Zh
noncomputable abbrev Zo:Stmt:=top 14
noncomputable abbrev Qa6:List Str:=["rows", "states", "signs", "row"]
theorem sc_check_rows:FnScope Qa6 ["rows"] (Qc Zo):=Zh
noncomputable abbrev Q4:Stmt:=Qbz (top 15) 0
noncomputable abbrev Qag:List Str:=["self", "table", "rows"]
theorem sc_Machine_init:FnScope Qag ["self", "table"] (Qc Q4):=Zh
noncomputable abbrev Z1:Stmt:=top 16
noncomputable abbrev Qff:List Str:=["machine"]
theorem Qeu:FnScope Qff ["machine"] (Qc Z1):=Zh
noncomputable abbrev Ys:Stmt:=top 17
noncomputable abbrev QgT:List Str:=["machine"]
theorem Qfg:FnScope QgT ["machine"] (Qc Ys):=Zh
noncomputable abbrev Zs:Stmt:=top 19
noncomputable abbrev QdE:List Str:=["side", "sign", "count"]
theorem Qcu:FnScope QdE ["side", "sign", "count"] (Qc Zs):=Zh
noncomputable abbrev ZJ:Stmt:=top 20
noncomputable abbrev Qev:List Str:=["thing"]
theorem QdF:FnScope Qev ["thing"] (Qc ZJ):=Zh
noncomputable abbrev Zp:Stmt:=top 21
noncomputable abbrev Qa7:List Str:=["side", "stretch", "following"]
theorem sc_check_side:FnScope Qa7 ["side"] (Qc Zp):=Zh
noncomputable abbrev QL:Stmt:=top 22
noncomputable abbrev QaY:List Str:=["stretches"]
theorem QaK:FnScope QaY ["stretches"] (Qc QL):=Zh
noncomputable abbrev Z2:Stmt:=top 23
noncomputable abbrev QcU:List Str:=["side", "first", "pace", "marks", "place", "sign", "count"]
theorem sc_marks_of:FnScope QcU ["side", "first", "pace"] (Qc Z2):=Zh
noncomputable abbrev Jh:Stmt:=top 24
noncomputable abbrev QiJ:List Str:=["stretches", "place", "left", "right"]
theorem sc_shot_of:FnScope QiJ ["stretches", "place"] (Qc Jh):=Zh
noncomputable abbrev QgU:Stmt:=top 26
noncomputable abbrev QoN:List Str:=["side", "sign", "count"]
theorem QnS:FnScope QoN ["side", "sign", "count"] (Qc QgU):=Zh
noncomputable abbrev QcV:Stmt:=top 27
noncomputable abbrev QnT:List Str:=["side", "count", "nearest"]
theorem sc_drop:FnScope QnT ["side", "count"] (Qc QcV):=Zh
noncomputable abbrev Ze:Stmt:=top 28
noncomputable abbrev Qcv:List Str:=["side"]
theorem Qce:FnScope Qcv ["side"] (Qc Ze):=Zh
noncomputable abbrev QaZ:Stmt:=top 29
noncomputable abbrev QlU:List Str:=["side", "sign", "most"]
theorem QjV:FnScope QlU ["side", "sign", "most"] (Qc QaZ):=Zh
noncomputable abbrev Za:Stmt:=Qbz (top 30) 0
noncomputable abbrev Qcf:List Str:=["self", "machine", "stretches"]
theorem Qbd:FnScope Qcf ["self", "machine", "stretches"] (Qc Za):=Zh
noncomputable abbrev QW:Stmt:=Qbz (top 30) 1
noncomputable abbrev Qbe:List Str:=["self"]
theorem Qa0:FnScope Qbe ["self"] (Qc QW):=Zh
noncomputable abbrev Zb:Stmt:=Qbz (top 30) 2
noncomputable abbrev Qcg:List Str:=["self", "asked", "entry", "rightwards", "ahead", "behind", "steps"]
theorem sc_FastWalk_leap:FnScope Qcg ["self", "asked"] (Qc Zb):=Zh
noncomputable abbrev Zf:Stmt:=Qbz (top 30) 3
noncomputable abbrev Qcw:List Str:=["self", "right"]
theorem sc_FastWalk_row:FnScope Qcw ["self"] (Qc Zf):=Zh
noncomputable abbrev Qz:Stmt:=top 31
noncomputable abbrev Y2:List Str:=["machine", "stretches", "signs", "side"]
theorem sc_check_of_machine:FnScope Y2 ["machine", "stretches"] (Qc Qz):=Zh
noncomputable abbrev Z3:Stmt:=top 32
noncomputable abbrev Qfh:List Str:=["machine", "stretches", "steps", "most", "walk", "done", "leaps"]
theorem sc_fast_from:FnScope Qfh ["machine", "stretches", "steps", "most"] (Qc Z3):=Zh
noncomputable abbrev ZK:Stmt:=top 33
noncomputable abbrev Qew:List Str:=["machine", "steps", "most", "told"]
theorem sc_fast_after:FnScope Qew ["machine", "steps", "most"] (Qc ZK):=Zh
noncomputable abbrev J8:Stmt:=top 35
noncomputable abbrev QjW:List Str:=["_law_script", "_law_at", "_law_cell", "_law_m"]
theorem sc_L_next:FnScope QjW ["_law_script", "_law_at"] (Qc J8):=Zh
noncomputable abbrev Jv:Stmt:=top 36
noncomputable abbrev Qgd:List Str:=["_law_found", "_law_due"]
theorem QiK:FnScope Qgd ["_law_found", "_law_due"] (Qc Jv):=Zh
noncomputable abbrev Ji:Stmt:=top 37
noncomputable abbrev QiL:List Str:=["_law_script", "_law_at", "_law_states", "_law_signs", "_law_table_here", "_law_k", "_law_line", "_law_j", "_law_m", "_law_entry"]
theorem sc_L_table:FnScope QiL ["_law_script", "_law_at", "_law_states", "_law_signs"] (Qc Ji):=Zh
noncomputable abbrev J9:Stmt:=top 38
noncomputable abbrev QjX:List Str:=["_law_table_here", "_law_shot_here", "_law_state", "_law_place", "_law_cells", "_law_entry", "_law_made"]
theorem sc_L_step:FnScope QjX ["_law_table_here", "_law_shot_here"] (Qc J9):=Zh
noncomputable abbrev Jw:Stmt:=top 39
noncomputable abbrev Qge:List Str:=["_law_shot_here", "_law_state", "_law_place", "_law_cells"]
theorem sc_L_shot:FnScope Qge ["_law_shot_here"] (Qc Jw):=Zh
noncomputable abbrev Qa1:Stmt:=top 40
noncomputable abbrev QlV:List Str:=["_law_table_here", "_law_shot_here", "_law_steps", "_law_row"]
theorem sc_L_run:FnScope QlV ["_law_table_here", "_law_shot_here", "_law_steps"] (Qc Qa1):=Zh
noncomputable abbrev Zg:Stmt:=top 41
noncomputable abbrev Qcx:List Str:=["_law_script", "_law_at", "_law_m", "_law_states", "_law_signs", "_law_table_here", "_law_k", "_law_j"]
theorem sc_L_machine_by:FnScope Qcx ["_law_script", "_law_at"] (Qc Zg):=Zh
noncomputable abbrev Qa2:Stmt:=top 42
noncomputable abbrev QlW:List Str:=["_law_script", "_law_at", "_law_m", "_law_cell", "_law_size", "_law_k"]
theorem sc_L_far:FnScope QlW ["_law_script", "_law_at"] (Qc Qa2):=Zh
noncomputable abbrev Jj:Stmt:=top 43
noncomputable abbrev QiM:List Str:=["_law_machine", "_law_steps", "_law_most", "_law_told"]
theorem sc_L_after:FnScope QiM ["_law_machine", "_law_steps", "_law_most"] (Qc Jj):=Zh
noncomputable abbrev Qaa:Stmt:=top 44
noncomputable abbrev QjY:List Str:=["_law_shot_here"]
theorem QiN:FnScope QjY ["_law_shot_here"] (Qc Qaa):=Zh
noncomputable abbrev Zt:Stmt:=top 45
noncomputable abbrev QdG:List Str:=["_law_shots", "_law_leaps", "_law_k"]
theorem sc_L_cut_leaps:FnScope QdG ["_law_shots"] (Qc Zt):=Zh
noncomputable abbrev Qfi:Stmt:=top 46
noncomputable abbrev QoO:List Str:=["_law_script", "_law_at", "_law_table_here", "_law_machine", "_law_shots", "_law_k", "_law_steps", "_law_seen", "_law_leaps", "_law_due", "_law_many", "_law_restless", "_law_far_here", "_law_way"]
theorem sc_law:FnScope QoO ["_law_script"] (Qc Qfi):=Zh
structure Zk(K:PySem.W.Frag)(mg:Str->Option Value)(ca:Nat->Addr):Prop where
 z_all:mg "all" = none
 z_any:mg "any" = none
 z_bool:mg "bool" = none
 z_dict:mg "dict" = none
 z_int:mg "int" = none
 z_isinstance:mg "isinstance" = none
 z_len:mg "len" = none
 z_list:mg "list" = none
 z_max:mg "max" = none
 z_min:mg "min" = none
 z_range:mg "range" = none
 z_reversed:mg "reversed" = none
 z_sorted:mg "sorted" = none
 z_str:mg "str" = none
 z_tuple:mg "tuple" = none
 z_zip:mg "zip" = none
 g_BLANK:∃k,mg "BLANK" = some (.int 0 k)
 g_LEFT:∃k,mg "LEFT" = some (.str "l" k)
 g_RIGHT:∃k,mg "RIGHT" = some (.str "r" k)
 t_TooLong:mg "TooLong" = some (.ref (ca 6))/\CatX K ca (ca 6) [6] [0,1,5]
 e_TooLong:RaH K mg ca 6 "TooLong"
 a_left:FldOk K ca [13] "left"
 a_moved:FldOk K ca [13] "moved"
 a_own:FldOk K ca [13] "own"
 a_right:FldOk K ca [13] "right"
 a_state:FldOk K ca [13] "state"
 a_table:FldOk K ca [11,13] "table"
 u_is_whole:∃f fd,Fun K "is_whole" "is_whole" Yp f fd/\mg "is_whole" = some (.ref f)
 u_is_below:∃f fd,Fun K "is_below" "is_below" Yq f fd/\mg "is_below" = some (.ref f)
 u_is_from_nought:∃f fd,Fun K "is_from_nought" "is_from_nought" QV f fd/\mg "is_from_nought" = some (.ref f)
 u_is_entry:∃f fd,Fun K "is_entry" "is_entry" Yr f fd/\mg "is_entry" = some (.ref f)
 u_check_rows:∃f fd,Fun K "check_rows" "check_rows" Zo f fd/\mg "check_rows" = some (.ref f)
 u_Machine_init:∃f fd,Fun K "__init__" "Machine.__init__" Q4 f fd/\Mk K (ca 11) f/\mg "Machine" = some (.ref (ca 11))
 u_states_of:∃f fd,Fun K "states_of" "states_of" Z1 f fd/\mg "states_of" = some (.ref f)
 u_signs_of:∃f fd,Fun K "signs_of" "signs_of" Ys f fd/\mg "signs_of" = some (.ref f)
 u_add_stretch:∃f fd,Fun K "add_stretch" "add_stretch" Zs f fd/\mg "add_stretch" = some (.ref f)
 u_is_stretch:∃f fd,Fun K "is_stretch" "is_stretch" ZJ f fd/\mg "is_stretch" = some (.ref f)
 u_check_side:∃f fd,Fun K "check_side" "check_side" Zp f fd/\mg "check_side" = some (.ref f)
 u_check_stretches:∃f fd,Fun K "check_stretches" "check_stretches" QL f fd/\mg "check_stretches" = some (.ref f)
 u_marks_of:∃f fd,Fun K "marks_of" "marks_of" Z2 f fd/\mg "marks_of" = some (.ref f)
 u_shot_of:∃f fd,Fun K "shot_of" "shot_of" Jh f fd/\mg "shot_of" = some (.ref f)
 u_put:∃f fd,Fun K "put" "put" QgU f fd/\mg "put" = some (.ref f)
 u_drop:∃f fd,Fun K "drop" "drop" QcV f fd/\mg "drop" = some (.ref f)
 u_nearest_sign:∃f fd,Fun K "nearest_sign" "nearest_sign" Ze f fd/\mg "nearest_sign" = some (.ref f)
 u_alike:∃f fd,Fun K "alike" "alike" QaZ f fd/\mg "alike" = some (.ref f)
 u_FastWalk_init:∃f fd,Fun K "__init__" "FastWalk.__init__" Za f fd/\Mk K (ca 13) f/\mg "FastWalk" = some (.ref (ca 13))
 u_FastWalk_entry:∃f fd,Fun K "entry" "FastWalk.entry" QW f fd/\Meth K (ca 13) "entry" f/\Cls K (ca 13)
 u_FastWalk_leap:∃f fd,Fun K "leap" "FastWalk.leap" Zb f fd/\Meth K (ca 13) "leap" f/\Cls K (ca 13)
 u_FastWalk_row:∃f fd,Fun K "row" "FastWalk.row" Zf f fd/\Meth K (ca 13) "row" f/\Cls K (ca 13)
 u_check_of_machine:∃f fd,Fun K "check_of_machine" "check_of_machine" Qz f fd/\mg "check_of_machine" = some (.ref f)
 u_fast_from:∃f fd,Fun K "fast_from" "fast_from" Z3 f fd/\mg "fast_from" = some (.ref f)
 u_fast_after:∃f fd,FunD K "fast_after" "fast_after" ZK 5000 f fd/\mg "fast_after" = some (.ref f)
 u_L_next:∃f fd,Fun K "_law_next" "_law_next" J8 f fd/\mg "_law_next" = some (.ref f)
 u_L_same:∃f fd,Fun K "_law_same" "_law_same" Jv f fd/\mg "_law_same" = some (.ref f)
 u_L_table:∃f fd,Fun K "_law_table" "_law_table" Ji f fd/\mg "_law_table" = some (.ref f)
 u_L_step:∃f fd,Fun K "_law_step" "_law_step" J9 f fd/\mg "_law_step" = some (.ref f)
 u_L_shot:∃f fd,Fun K "_law_shot" "_law_shot" Jw f fd/\mg "_law_shot" = some (.ref f)
 u_L_run:∃f fd,Fun K "_law_run" "_law_run" Qa1 f fd/\mg "_law_run" = some (.ref f)
 u_L_machine_by:∃f fd,Fun K "_law_machine_by" "_law_machine_by" Zg f fd/\mg "_law_machine_by" = some (.ref f)
 u_L_far:∃f fd,Fun K "_law_far" "_law_far" Qa2 f fd/\mg "_law_far" = some (.ref f)
 u_L_after:∃f fd,Fun K "_law_after" "_law_after" Jj f fd/\mg "_law_after" = some (.ref f)
 u_L_read:∃f fd,Fun K "_law_read" "_law_read" Qaa f fd/\mg "_law_read" = some (.ref f)
 u_L_cut_leaps:∃f fd,Fun K "_law_cut_leaps" "_law_cut_leaps" Zt f fd/\mg "_law_cut_leaps" = some (.ref f)
 u_law:∃f fd,Fun K "law" "law" Qfi f fd/\mg "law" = some (.ref f)
section
seal PE3 PT3 PW3 PA3 PS3 PSs3 PG3 PI3
variable{P:Program}{w:World}{K:PySem.W.Frag}{mg:Str->Option Value}{base:Heap}{ca:Nat->Addr}
theorem Qch(Z:Zk K mg ca):FnH P w K mg base ca "is_whole" 1 1 Jc:=by
 obtain⟨f,fd,F,hm⟩:=Z.u_is_whole
 exact⟨⟨f,fd,["value"],Zi F Qfc rfl rfl (λcdv A outer s H E hr=>(Qh (Q0 (QbE (Yx .int Z.z_isinstance Z.z_int Qke (Qa 0)) (QdU (QmJ (Yx .bool Z.z_isinstance Z.z_bool QhP (Qa 0)))))))),hm,F.kp,F.binds (ps:=["value"]) (λ_ _ _ _ _ _ us hl=>by obtain⟨_,rfl⟩:=L3.len1 hl;rfl)⟩,Qr _ _ _⟩
theorem Qci(Z:Zk K mg ca):FnH P w K mg base ca "is_below" 2 2 ZE:=by
 obtain⟨f,fd,F,hm⟩:=Z.u_is_below
 exact⟨⟨f,fd,["value", "many"],Zi F Qfd rfl rfl (λcdv A outer s H E hr=>(Qh (Q0 (QbE (Qq (Qch Z) (hr.mono (by omega)) (Qe (Qa 0) Qj)) (QdU (Qm1 Qf (Qa 0) (Qa 1))))))),hm,F.kp,F.binds (ps:=["value", "many"]) (λ_ _ _ _ _ _ us hl=>by obtain⟨_,_,rfl⟩:=L3.len2 hl;rfl)⟩,Qr _ _ _⟩
theorem Z4(Z:Zk K mg ca):FnH P w K mg base ca "is_from_nought" 2 1 QU:=by
 obtain⟨f,fd,F,hm⟩:=Z.u_is_from_nought
 exact⟨⟨f,fd,["value"],Zi F QaX rfl rfl (λcdv A outer s H E hr=>(Qh (Q0 (QbE (Qq (Qch Z) (hr.mono (by omega)) (Qe (Qa 0) Qj)) (QdU (r_ge (Qa 0) Qf)))))),hm,F.kp,F.binds (ps:=["value"]) (λ_ _ _ _ _ _ us hl=>by obtain⟨_,rfl⟩:=L3.len1 hl;rfl)⟩,Qr _ _ _⟩
theorem Qfj(Z:Zk K mg ca):FnH P w K mg base ca "is_entry" 3 3 Yn:=by
 obtain⟨f,fd,F,hm⟩:=Z.u_is_entry
 exact⟨⟨f,fd,["thing", "states", "signs"],Zi F Qfe rfl rfl (λcdv A outer s H E hr=>(Qd (r_if (QhD (Qa 0) QbD) (Qh (Q0 r_bl)) QC)
 (Qd (r_if (r_w (Qc3 (Qac (Z7 (Yx .tuple Z.z_isinstance Z.z_tuple JX (Qa 0)))) (Qas (Qa9 hr (Yg Z.z_len (Qa 0)) Qf)))) (Qh (Q0 r_bl)) QC)
 (Qh (Q0 (QbE (Qq (Qci Z) (hr.mono (by omega)) (Qe (Qi (Qa 0) Qf) (Qe (Qa 2) Qj))) (QbE (r_in (Qi (Qa 0) Qf) (ZM (Qe (QhO Z.g_LEFT) (Qe (QhO Z.g_RIGHT) Qj)))) (QdU (Qq (Qci Z) (hr.mono (by omega)) (Qe (Qi (Qa 0) Qf) (Qe (Qa 1) Qj))))))))))),hm,F.kp,F.binds (ps:=["thing", "states", "signs"]) (λ_ _ _ _ _ _ us hl=>by obtain⟨_,_,_,rfl⟩:=L3.len3 hl;rfl)⟩,Qr _ _ _⟩
theorem QdH(Z:Zk K mg ca):FnH P w K mg base ca "check_rows" 4 1 ZG:=by
 obtain⟨f,fd,F,hm⟩:=Z.u_check_rows
 exact⟨⟨f,fd,["rows"],Zi F sc_check_rows rfl rfl (λcdv A outer s H E hr=>(Qd (r_if (Qa8 hr (Yg Z.z_len (Qa 0)) Qf) (Qh Yw) QC)
 (Qd (Qy 1 sc_check_rows.nd (Yg Z.z_len (Qa 0)))
 (Qd (Qy 2 sc_check_rows.nd (Yg Z.z_len (Qi (Qa 0) Qf)))
 (Qd (r_if (Qa8 hr (Qa 2) Qf) (Qh Yw) QC)
 (Qh (QbI rfl (JI (Qa 0)) (QR 3 sc_check_rows.nd) (Qd (r_if (Qa9 hr (Yg Z.z_len (Qa 3)) (Qa 2)) (Qh Yw) QC)
 (Qh (r_if (Qac (Z7 (Qlb rfl Z.z_all (QbL (Yy (Nb:=["thing", "states", "signs"]) (no:=1) (cap:=[1,2]) (N:=Qa6) (sc:=Qc Zo) rfl rfl (by decide +kernel)) rfl (JI (Qa 3)) (λcl C s3 H3 ex=>⟨(QR 0 (show List.Nodup (["thing", "states", "signs"]:List Str) by decide +kernel)),QeN,(Qq (Qfj Z) (hr.mono (by omega)) (Qe (Qa 0) (Qe (Qa 1) (Qe (Qa 2) Qj))))⟩))))) (Qh Yw) QC)))))))))),hm,F.kp,F.binds (ps:=["rows"]) (λ_ _ _ _ _ _ us hl=>by obtain⟨_,rfl⟩:=L3.len1 hl;rfl)⟩,Qr _ _ _⟩
theorem YJ(Z:Zk K mg ca):MkH P w K mg base ca 11 "Machine" 5 2 QJ:=by
 obtain⟨f,fd,F,hm⟩:=Z.u_Machine_init
 exact⟨⟨f,fd,["self", "table"],Zi F sc_Machine_init rfl rfl (λcdv A outer s H E hr=>(Qd (Qy 2 sc_Machine_init.nd (Qc6 Z.z_tuple (QbL (Yy (Nb:=["row"]) (no:=1) (cap:=[]) (N:=Qag) (sc:=Qc Q4) rfl rfl (by decide +kernel)) rfl (JI (Qa 1)) (λcl C s3 H3 ex=>⟨(QR 0 (show List.Nodup (["row"]:List Str) by decide +kernel)),QeN,(Qc6 Z.z_tuple (Qa 0))⟩))))
 (Qd (ZN (Qq (QdH Z) (hr.mono (by omega)) (Qe (Qa 2) Qj)))
 (Qh (ZA (Qa 0) (Qa 2) Z.a_table))))),hm.1,hm.2,F.binds (ps:=["self", "table"]) (λ_ _ _ _ _ _ us hl=>by obtain⟨_,_,rfl⟩:=L3.len2 hl;rfl)⟩,Qr _ _ _⟩
theorem Qex(Z:Zk K mg ca):FnH P w K mg base ca "states_of" 1 1 Qak:=by
 obtain⟨f,fd,F,hm⟩:=Z.u_states_of
 exact⟨⟨f,fd,["machine"],Zi F Qeu rfl rfl (λcdv A outer s H E hr=>(Qh (Q0 (Yg Z.z_len (Zz (Qa 0) Z.a_table))))),hm,F.kp,F.binds (ps:=["machine"]) (λ_ _ _ _ _ _ us hl=>by obtain⟨_,rfl⟩:=L3.len1 hl;rfl)⟩,Qr _ _ _⟩
theorem Qfk(Z:Zk K mg ca):FnH P w K mg base ca "signs_of" 1 1 QaU:=by
 obtain⟨f,fd,F,hm⟩:=Z.u_signs_of
 exact⟨⟨f,fd,["machine"],Zi F Qfg rfl rfl (λcdv A outer s H E hr=>(Qh (Q0 (Yg Z.z_len (Qi (Zz (Qa 0) Z.a_table) Qf))))),hm,F.kp,F.binds (ps:=["machine"]) (λ_ _ _ _ _ _ us hl=>by obtain⟨_,rfl⟩:=L3.len1 hl;rfl)⟩,Qr _ _ _⟩
theorem Qcy(Z:Zk K mg ca):FnH P w K mg base ca "add_stretch" 1 3 Jp:=by
 obtain⟨f,fd,F,hm⟩:=Z.u_add_stretch
 exact⟨⟨f,fd,["side", "sign", "count"],Zi F Qcu rfl rfl (λcdv A outer s H E hr=>(Qd (r_if (QmR (Qa 2) Qf) (Qh QmL) QC)
 (Qh (r_if (r_w (QcG (Qcr (Yg Z.z_len (Qa 0)) Qf) (QaO (Qa8 hr (Qi (Qi (Qa 0) (Qd2 Qf)) Qf) (Qa 1))))) (Qh (QbH (Qa 0) (Qd2 Qf) (ZM (Qe (Qa 1) (Qe (JK (Qi (Qi (Qa 0) (Qd2 Qf)) Qf) (Qa 2)) Qj))))) (Qh (ZN (Qbl (Qa 0) (ZM (Qe (Qa 1) (Qe (Qa 2) Qj)))))))))),hm,F.kp,F.binds (ps:=["side", "sign", "count"]) (λ_ _ _ _ _ _ us hl=>by obtain⟨_,_,_,rfl⟩:=L3.len3 hl;rfl)⟩,Qr _ _ _⟩
theorem QdI(Z:Zk K mg ca):FnH P w K mg base ca "is_stretch" 3 1 Z8:=by
 obtain⟨f,fd,F,hm⟩:=Z.u_is_stretch
 exact⟨⟨f,fd,["thing"],Zi F QdF rfl rfl (λcdv A outer s H E hr=>(Qd (r_if (r_w (Qc3 (Qac (Z7 (Yx .tuple Z.z_isinstance Z.z_tuple JX (Qa 0)))) (Qas (Qa9 hr (Yg Z.z_len (Qa 0)) Qf)))) (Qh (Q0 r_bl)) QC)
 (Qh (Q0 (QbE (Qq (Z4 Z) (hr.mono (by omega)) (Qe (Qi (Qa 0) Qf) Qj)) (QbE (Qq (Z4 Z) (hr.mono (by omega)) (Qe (Qi (Qa 0) Qf) Qj)) (QdU (r_gt (Qi (Qa 0) Qf) Qf)))))))),hm,F.kp,F.binds (ps:=["thing"]) (λ_ _ _ _ _ _ us hl=>by obtain⟨_,rfl⟩:=L3.len1 hl;rfl)⟩,Qr _ _ _⟩
theorem QaL(Z:Zk K mg ca):FnH P w K mg base ca "check_side" 4 1 YW:=by
 obtain⟨f,fd,F,hm⟩:=Z.u_check_side
 exact⟨⟨f,fd,["side"],Zi F sc_check_side rfl rfl (λcdv A outer s H E hr=>(Qd (r_if (r_w (Qc3 (Qac (Z7 (Qlu Z.z_isinstance Z.z_list Z.z_tuple (Qa 0)))) (Qas (Qac (Z7 (Qlb rfl Z.z_all (QbL (Yy (Nb:=["thing"]) (no:=1) (cap:=[]) (N:=Qa7) (sc:=Qc Zp) rfl rfl (by decide +kernel)) rfl (JI (Qa 0)) (λcl C s3 H3 ex=>⟨(QR 0 (show List.Nodup (["thing"]:List Str) by decide +kernel)),QeN,(Qq (QdI Z) (hr.mono (by omega)) (Qe (Qa 0) Qj))⟩)))))))) (Qh Yw) QC)
 (Qd (QbI rfl (Qm0 Z.z_zip (Qa 0) (QeP (Qa 0) (QhL Qf) Qda)) (QbG rfl (Zu (QR 1 sc_check_side.nd) (Zu (QR 2 sc_check_side.nd) QbF))) (Qh (r_if (Qa8 hr (Qi (Qa 1) Qf) (Qi (Qa 2) Qf)) (Qh Yw) QC)))
 (Qh (r_if (r_w (QcG (Qcr (Yg Z.z_len (Qa 0)) Qf) (QaO (Qa8 hr (Qi (Qi (Qa 0) (Qd2 Qf)) Qf) (QfK Z.g_BLANK))))) (Qh Yw) QC))))),hm,F.kp,F.binds (ps:=["side"]) (λ_ _ _ _ _ _ us hl=>by obtain⟨_,rfl⟩:=L3.len1 hl;rfl)⟩,Qr _ _ _⟩
theorem Y3(Z:Zk K mg ca):FnH P w K mg base ca "check_stretches" 5 1 Zq:=by
 obtain⟨f,fd,F,hm⟩:=Z.u_check_stretches
 exact⟨⟨f,fd,["stretches"],Zi F QaK rfl rfl (λcdv A outer s H E hr=>(Qd (r_if (r_w (Qc3 (Qac (Z7 (Yx .tuple Z.z_isinstance Z.z_tuple JX (Qa 0)))) (Qas (Qa9 hr (Yg Z.z_len (Qa 0)) Qf)))) (Qh Yw) QC)
 (Qd (r_if (Qac (Z7 (Qq (Z4 Z) (hr.mono (by omega)) (Qe (Qi (Qa 0) Qf) Qj)))) (Qh Yw) QC)
 (Qd (ZN (Qq (QaL Z) (hr.mono (by omega)) (Qe (Qi (Qa 0) Qf) Qj)))
 (Qh (ZN (Qq (QaL Z) (hr.mono (by omega)) (Qe (Qi (Qa 0) Qf) Qj)))))))),hm,F.kp,F.binds (ps:=["stretches"]) (λ_ _ _ _ _ _ us hl=>by obtain⟨_,rfl⟩:=L3.len1 hl;rfl)⟩,Qr _ _ _⟩
theorem Qcj(Z:Zk K mg ca):FnH P w K mg base ca "marks_of" 1 3 J0:=by
 obtain⟨f,fd,F,hm⟩:=Z.u_marks_of
 exact⟨⟨f,fd,["side", "first", "pace"],Zi F sc_marks_of rfl rfl (λcdv A outer s H E hr=>(Qd (Qy 3 sc_marks_of.nd (QaP Qj))
 (Qd (Qy 4 sc_marks_of.nd (Qa 1))
 (Qd (QbI rfl (JI (Qa 0)) (QbG rfl (Zu (QR 5 sc_marks_of.nd) (Zu (QR 6 sc_marks_of.nd) QbF))) (Qd (r_if (Qa9 hr (Qa 5) (QfK Z.g_BLANK)) (Qh (ZN (Qjz (Qa 3) (QbL (Yy (Nb:=["cell", "sign", "place", "pace"]) (no:=1) (cap:=[5,4,2]) (N:=QcU) (sc:=Qc Z2) rfl rfl (by decide +kernel)) rfl (YS Z.z_range (Qa 6)) (λcl C s3 H3 ex=>⟨(QR 0 (show List.Nodup (["cell", "sign", "place", "pace"]:List Str) by decide +kernel)),QeN,(ZM (Qe (JK (Qa 2) (Qd1 (Qa 3) (Qa 0))) (Qe (Qa 1) Qj)))⟩))))) QC)
 (Qh (Qy 4 sc_marks_of.nd (JK (Qa 4) (Qd1 (Qa 2) (Qa 6)))))))
 (Qh (Q0 (Qa 3))))))),hm,F.kp,F.binds (ps:=["side", "first", "pace"]) (λ_ _ _ _ _ _ us hl=>by obtain⟨_,_,_,rfl⟩:=L3.len3 hl;rfl)⟩,Qr _ _ _⟩
theorem QgV(Z:Zk K mg ca):FnH P w K mg base ca "shot_of" 6 2 QbU:=by
 obtain⟨f,fd,F,hm⟩:=Z.u_shot_of
 exact⟨⟨f,fd,["stretches", "place"],Zi F sc_shot_of rfl rfl (λcdv A outer s H E hr=>(Qd (ZN (Qq (Y3 Z) (hr.mono (by omega)) (Qe (Qa 0) Qj)))
 (Qd (Qy 2 sc_shot_of.nd (Qq (Qcj Z) (hr.mono (by omega)) (Qe (Qi (Qa 0) Qf) (Qe (Qau (Qa 1) Qf) (Qe (Qd2 Qf) Qj)))))
 (Qd (Qy 3 sc_shot_of.nd (Qq (Qcj Z) (hr.mono (by omega)) (Qe (Qi (Qa 0) Qf) (Qe (Qa 1) (Qe Qf Qj)))))
 (Qh (Q0 (ZM (Qe (Qi (Qa 0) Qf) (Qe (Qa 1) (Qe (JK (Qgy rfl Z.z_tuple Z.z_reversed (Qa 2)) (Qc6 Z.z_tuple (Qa 3))) Qj)))))))))),hm,F.kp,F.binds (ps:=["stretches", "place"]) (λ_ _ _ _ _ _ us hl=>by obtain⟨_,_,rfl⟩:=L3.len2 hl;rfl)⟩,Qr _ _ _⟩
theorem QiO(Z:Zk K mg ca):FnH P w K mg base ca "put" 2 3 QgH:=by
 obtain⟨f,fd,F,hm⟩:=Z.u_put
 exact⟨⟨f,fd,["side", "sign", "count"],Zi F QnS rfl rfl (λcdv A outer s H E hr=>(Qh (r_if (r_w (Qc3 (Qcr (Yg Z.z_len (Qa 0)) Qf) (Qas (Qa9 hr (Qa 1) (QfK Z.g_BLANK))))) (Qh (ZN (Qq (Qcy Z) (hr.mono (by omega)) (Qe (Qa 0) (Qe (Qa 1) (Qe (Qa 2) Qj)))))) QC))),hm,F.kp,F.binds (ps:=["side", "sign", "count"]) (λ_ _ _ _ _ _ us hl=>by obtain⟨_,_,_,rfl⟩:=L3.len3 hl;rfl)⟩,Qr _ _ _⟩
theorem Qfl(Z:Zk K mg ca):FnH P w K mg base ca "drop" 3 2 QbV:=by
 obtain⟨f,fd,F,hm⟩:=Z.u_drop
 exact⟨⟨f,fd,["side", "count"],Zi F sc_drop rfl rfl (λcdv A outer s H E hr=>(Qh (r_if (Qcr (Yg Z.z_len (Qa 0)) Qf) (Qd (Qy 2 sc_drop.nd (Qon (Qa 0)))
 (Qh (ZN (Qq (QiO Z) (hr.mono (by omega)) (Qe (Qa 0) (Qe (Qi (Qa 2) Qf) (Qe (Qau (Qi (Qa 2) Qf) (Qa 1)) Qj))))))) QC))),hm,F.kp,F.binds (ps:=["side", "count"]) (λ_ _ _ _ _ _ us hl=>by obtain⟨_,_,rfl⟩:=L3.len2 hl;rfl)⟩,Qr _ _ _⟩
theorem YK(Z:Zk K mg ca):FnH P w K mg base ca "nearest_sign" 1 1 Q2:=by
 obtain⟨f,fd,F,hm⟩:=Z.u_nearest_sign
 exact⟨⟨f,fd,["side"],Zi F Qce rfl rfl (λcdv A outer s H E hr=>(Qh (Q0 (QdV (Qcr (Yg Z.z_len (Qa 0)) Qf) (Qi (Qi (Qa 0) (Qd2 Qf)) Qf) (QfK Z.g_BLANK))))),hm,F.kp,F.binds (ps:=["side"]) (λ_ _ _ _ _ _ us hl=>by obtain⟨_,rfl⟩:=L3.len1 hl;rfl)⟩,Qr _ _ _⟩
theorem QjZ(Z:Zk K mg ca):FnH P w K mg base ca "alike" 2 3 QbW:=by
 obtain⟨f,fd,F,hm⟩:=Z.u_alike
 exact⟨⟨f,fd,["side", "sign", "most"],Zi F QjV rfl rfl (λcdv A outer s H E hr=>(Qd (r_if (Qa9 hr (Qq (YK Z) (hr.mono (by omega)) (Qe (Qa 0) Qj)) (Qa 1)) (Qh (Q0 Qf)) QC)
 (Qh (Q0 (QdV (Qcr (Yg Z.z_len (Qa 0)) Qf) (Qnv rfl Z.z_min (Qi (Qi (Qa 0) (Qd2 Qf)) Qf) (Qa 2)) (Qa 2)))))),hm,F.kp,F.binds (ps:=["side", "sign", "most"]) (λ_ _ _ _ _ _ us hl=>by obtain⟨_,_,_,rfl⟩:=L3.len3 hl;rfl)⟩,Qr _ _ _⟩
theorem Qbf(Z:Zk K mg ca):MkH P w K mg base ca 13 "FastWalk" 4 3 ZP:=by
 obtain⟨f,fd,F,hm⟩:=Z.u_FastWalk_init
 exact⟨⟨f,fd,["self", "machine", "stretches"],Zi F Qbd rfl rfl (λcdv A outer s H E hr=>(Qd (ZA (Qa 0) (Zz (Qa 1) Z.a_table) Z.a_table)
 (Qd (ZA (Qa 0) (Qi (Qa 2) Qf) Z.a_state)
 (Qd (ZA (Qa 0) (Qay rfl Z.z_list Z.z_reversed (Qi (Qa 2) Qf)) Z.a_left)
 (Qd (ZA (Qa 0) (Qay rfl Z.z_list Z.z_reversed (Qi (Qa 2) Qf)) Z.a_right)
 (Qd (ZA (Qa 0) (Qq (YK Z) (hr.mono (by omega)) (Qe (Zz (Qa 0) Z.a_right) Qj)) Z.a_own)
 (Qd (ZN (Qq (Qfl Z) (hr.mono (by omega)) (Qe (Zz (Qa 0) Z.a_right) (Qe Qf Qj))))
 (Qh (ZA (Qa 0) Qf Z.a_moved))))))))),hm.1,hm.2,F.binds (ps:=["self", "machine", "stretches"]) (λ_ _ _ _ _ _ us hl=>by obtain⟨_,_,_,rfl⟩:=L3.len3 hl;rfl)⟩,Qr _ _ _⟩
theorem Jk(Z:Zk K mg ca):MtH P w K mg base ca 13 "entry" 1 1 Zd:=by
 obtain⟨f,fd,F,hm⟩:=Z.u_FastWalk_entry
 exact⟨⟨f,fd,["self"],Zi F Qa0 rfl rfl (λcdv A outer s H E hr=>(Qh (Q0 (Qi (Qi (Zz (Qa 0) Z.a_table) (Zz (Qa 0) Z.a_state)) (Zz (Qa 0) Z.a_own))))),hm.1,hm.2,F.binds (ps:=["self"]) (λ_ _ _ _ _ _ us hl=>by obtain⟨_,rfl⟩:=L3.len1 hl;rfl)⟩,Qr _ _ _⟩
theorem Qbg(Z:Zk K mg ca):MtH P w K mg base ca 13 "leap" 4 2 YC:=by
 obtain⟨f,fd,F,hm⟩:=Z.u_FastWalk_leap
 exact⟨⟨f,fd,["self", "asked"],Zi F sc_FastWalk_leap rfl rfl (λcdv A outer s H E hr=>(Qd (Qy 2 sc_FastWalk_leap.nd (QeL (Jk Z) (hr.mono (by omega)) (Qa 0)))
 (Qd (Qy 3 sc_FastWalk_leap.nd (r_eq hr (Qi (Qa 2) Qf) (QhO Z.g_RIGHT)))
 (Qd (Qy 4 sc_FastWalk_leap.nd (QdV (Z7 (Qa 3)) (Zz (Qa 0) Z.a_right) (Zz (Qa 0) Z.a_left)))
 (Qd (Qy 5 sc_FastWalk_leap.nd (QdV (Z7 (Qa 3)) (Zz (Qa 0) Z.a_left) (Zz (Qa 0) Z.a_right)))
 (Qd (Qy 6 sc_FastWalk_leap.nd (QdV (Qa8 hr (Qi (Qa 2) Qf) (Zz (Qa 0) Z.a_state)) (JK Qf (Qq (QjZ Z) (hr.mono (by omega)) (Qe (Qa 4) (Qe (Zz (Qa 0) Z.a_own) (Qe (Qau (Qa 1) Qf) Qj))))) Qf))
 (Qd (ZN (Qq (QiO Z) (hr.mono (by omega)) (Qe (Qa 5) (Qe (Qi (Qa 2) Qf) (Qe (Qa 6) Qj)))))
 (Qd (ZN (Qq (Qfl Z) (hr.mono (by omega)) (Qe (Qa 4) (Qe (Qau (Qa 6) Qf) Qj))))
 (Qd (ZA (Qa 0) (Qq (YK Z) (hr.mono (by omega)) (Qe (Qa 4) Qj)) Z.a_own)
 (Qd (ZN (Qq (Qfl Z) (hr.mono (by omega)) (Qe (Qa 4) (Qe Qf Qj))))
 (Qd (ZA (Qa 0) (Qi (Qa 2) Qf) Z.a_state)
 (Qd (ZA (Qa 0) (QdV (Z7 (Qa 3)) (JK (Zz (Qa 0) Z.a_moved) (Qa 6)) (Qau (Zz (Qa 0) Z.a_moved) (Qa 6))) Z.a_moved)
 (Qh (Q0 (Qa 6))))))))))))))),hm.1,hm.2,F.binds (ps:=["self", "asked"]) (λ_ _ _ _ _ _ us hl=>by obtain⟨_,_,rfl⟩:=L3.len2 hl;rfl)⟩,Qr _ _ _⟩
theorem Qck(Z:Zk K mg ca):MtH P w K mg base ca 13 "row" 3 1 Z5:=by
 obtain⟨f,fd,F,hm⟩:=Z.u_FastWalk_row
 exact⟨⟨f,fd,["self"],Zi F sc_FastWalk_row rfl rfl (λcdv A outer s H E hr=>(Qd (Qy 1 sc_FastWalk_row.nd (QmW Z.z_list (Zz (Qa 0) Z.a_right)))
 (Qd (ZN (Qq (QiO Z) (hr.mono (by omega)) (Qe (Qa 1) (Qe (Zz (Qa 0) Z.a_own) (Qe Qf Qj)))))
 (Qh (Q0 (ZM (Qe (Zz (Qa 0) Z.a_state) (Qe (Qay rfl Z.z_list Z.z_reversed (Zz (Qa 0) Z.a_left)) (Qe (Qay rfl Z.z_list Z.z_reversed (Qa 1)) Qj))))))))),hm.1,hm.2,F.binds (ps:=["self"]) (λ_ _ _ _ _ _ us hl=>by obtain⟨_,rfl⟩:=L3.len1 hl;rfl)⟩,Qr _ _ _⟩
theorem Qao(Z:Zk K mg ca):FnH P w K mg base ca "check_of_machine" 6 2 ZQ:=by
 obtain⟨f,fd,F,hm⟩:=Z.u_check_of_machine
 exact⟨⟨f,fd,["machine", "stretches"],Zi F sc_check_of_machine rfl rfl (λcdv A outer s H E hr=>(Qd (ZN (Qq (Y3 Z) (hr.mono (by omega)) (Qe (Qa 1) Qj)))
 (Qd (r_if (QmS (Qi (Qa 1) Qf) (Qq (Qex Z) (hr.mono (by omega)) (Qe (Qa 0) Qj))) (Qh Yw) QC)
 (Qd (Qy 2 sc_check_of_machine.nd (Qq (Qfk Z) (hr.mono (by omega)) (Qe (Qa 0) Qj)))
 (Qh (QbI rfl (JI (QeP (Qa 1) (QhL Qf) Qda)) (QR 3 sc_check_of_machine.nd) (Qh (r_if (Z7 (Qoz rfl Z.z_any (QbL (Yy (Nb:=["sign", "count", "signs"]) (no:=2) (cap:=[2]) (N:=Y2) (sc:=Qc Qz) rfl rfl (by decide +kernel)) rfl (JI (Qa 3)) (λcl C s3 H3 ex=>⟨(QbG rfl (Zu (QR 0 (show List.Nodup (["sign", "count", "signs"]:List Str) by decide +kernel)) (Zu (QR 1 (show List.Nodup (["sign", "count", "signs"]:List Str) by decide +kernel)) QbF))),QeN,(r_ge (Qa 0) (Qa 2))⟩)))) (Qh Yw) QC)))))))),hm,F.kp,F.binds (ps:=["machine", "stretches"]) (λ_ _ _ _ _ _ us hl=>by obtain⟨_,_,rfl⟩:=L3.len2 hl;rfl)⟩,Qr _ _ _⟩
theorem Qey(Z:Zk K mg ca):FnH P w K mg base ca "fast_from" 7 4 Jq:=by
 obtain⟨f,fd,F,hm⟩:=Z.u_fast_from
 exact⟨⟨f,fd,["machine", "stretches", "steps", "most"],Zi F sc_fast_from rfl rfl (λcdv A outer s H E hr=>(Qd (ZN (Qq (Qao Z) (hr.mono (by omega)) (Qe (Qa 0) (Qe (Qa 1) Qj))))
 (Qd (Qy 4 sc_fast_from.nd (QfB (Qbf Z) (hr.mono (by omega)) (Qe (Qa 0) (Qe (Qa 1) Qj))))
 (Qd (Qy 5 sc_fast_from.nd Qf)
 (Qd (Qy 6 sc_fast_from.nd Qf)
 (Qd (Qhs (r_w (QcG (QmR (Qa 5) (Qa 2)) (QaO (QfG (QeL (Jk Z) (hr.mono (by omega)) (Qa 4)) QbD)))) (Qd (r_if (QmS (Qa 6) (Qa 3)) (Qh (Qlf Z.e_TooLong hr.hd (Qe Qcq Qj))) QC)
 (Qd (Qy 5 sc_fast_from.nd (JK (Qa 5) (QmN (Qbg Z) (hr.mono (by omega)) (Qa 4) (Qe (Qau (Qa 2) (Qa 5)) Qj))))
 (Qh (Qy 6 sc_fast_from.nd (JK (Qa 6) Qf))))))
 (Qh (Q0 (ZM (Qe (QeL (Qck Z) (hr.mono (by omega)) (Qa 4)) (Qe (Zz (Qa 4) Z.a_moved) (Qe (Qa 5) (Qe (Qa 6) Qj))))))))))))),hm,F.kp,F.binds (ps:=["machine", "stretches", "steps", "most"]) (λ_ _ _ _ _ _ us hl=>by obtain⟨_,_,_,_,rfl⟩:=L3.len4 hl;rfl)⟩,Qr _ _ _⟩
theorem Jx(Z:Zk K mg ca):FnD P w K mg base ca "fast_after" 8 3 5000 ZH:=by
 obtain⟨f,fd,F,hm⟩:=Z.u_fast_after
 obtain⟨t,hb⟩:=F.bindsD (ps:=["machine", "steps", "most"]) (λ_ _ _ _ _ _ _ _ us hl=>by obtain⟨_,_,rfl⟩:=L3.len2 (Nat.succ.inj hl);exact⟨_,rfl,rfl⟩)
 exact⟨⟨f,fd,["machine", "steps", "most"],t,Qny F sc_fast_after rfl rfl (λcdv A outer s H E hr=>(Qd (Qy 3 sc_fast_after.nd (Qq (Qey Z) (hr.mono (by omega)) (Qe (Qa 0) (Qe (ZM (Qe Qf (Qe (QaP Qj) (Qe (QaP Qj) Qj)))) (Qe (Qa 1) (Qe (Qa 2) Qj))))))
 (Qh (Q0 (ZM (Qe (Qq (QgV Z) (hr.mono (by omega)) (Qe (Qi (Qa 3) Qf) (Qe (Qi (Qa 3) Qf) Qj))) (Qe (Qi (Qa 3) Qf) Qj))))))),hm,F.kp,F.binds (ps:=["machine", "steps", "most"]) (λ_ _ _ _ _ _ _ _ us hl=>by obtain⟨_,_,_,rfl⟩:=L3.len3 hl;exact⟨_,rfl,rfl⟩),hb⟩,Qr _ _ _⟩
theorem YL(Z:Zk K mg ca):FnH P w K mg base ca "_law_next" 1 2 ZR:=by
 obtain⟨f,fd,F,hm⟩:=Z.u_L_next
 exact⟨⟨f,fd,["_law_script", "_law_at"],Zi F sc_L_next rfl rfl (λcdv A outer s H E hr=>(Qd (QbH (Qa 1) Qf (JK (Qi (Qa 1) Qf) Qf))
 (Qd (Qy 2 sc_L_next.nd (QdV (Qcr (Yg Z.z_len (Qa 0)) Qf) (Qi (Qa 0) (Yf (Qi (Qa 1) Qf) (Yg Z.z_len (Qa 0)))) Qf))
 (Qd (Qy 3 sc_L_next.nd (Yf (Qd1 (JK (JK (Yf (Qa 2) Qf) (Qd1 (Qd1 (Qi (Qa 1) Qf) (Qi (Qa 1) Qf)) Qf)) Qf) Qf) Qf))
 (Qh (Q0 (Yf (Qd1 (Qa 3) (Qa 3)) Qf))))))),hm,F.kp,F.binds (ps:=["_law_script", "_law_at"]) (λ_ _ _ _ _ _ us hl=>by obtain⟨_,_,rfl⟩:=L3.len2 hl;rfl)⟩,Qr _ _ _⟩
theorem JV(Z:Zk K mg ca):∀n:Nat,FnH P w K mg base ca "_law_same" (1+n) 2 (ZD n)
 |0=>by
  obtain⟨f,fd,F,hm⟩:=Z.u_L_same
  exact⟨⟨f,fd,["_law_found", "_law_due"],Qlh rfl,hm,F.kp,F.binds (ps:=["_law_found", "_law_due"]) (λ_ _ _ _ _ _ us hl=>by obtain⟨_,_,rfl⟩:=L3.len2 hl;rfl)⟩,λ_ _ _=>rfl⟩
 |n+1=>by
  have ih:=JV Z n
  obtain⟨f,fd,F,hm⟩:=Z.u_L_same
  exact⟨⟨f,fd,["_law_found", "_law_due"],Zi F QiK rfl rfl (λcdv A outer s H E hr=>(Qd (r_if (r_w (Qc3 (Z7 (Yx .list Z.z_isinstance Z.z_list QeQ (Qa 1))) (Qas (Z7 (Yx .tuple Z.z_isinstance Z.z_tuple JX (Qa 1)))))) (Qd (r_if (r_w (Qc3 (Qa9 hr (Yx .list Z.z_isinstance Z.z_list QeQ (Qa 0)) (Yx .list Z.z_isinstance Z.z_list QeQ (Qa 1))) (Qas (Qa9 hr (Yx .tuple Z.z_isinstance Z.z_tuple JX (Qa 0)) (Yx .tuple Z.z_isinstance Z.z_tuple JX (Qa 1)))))) (Qh (Q0 r_bl)) QC)
 (Qh (Q0 (QbE (r_eq hr (Yg Z.z_len (Qa 0)) (Yg Z.z_len (Qa 1))) (QdU (Qlb rfl Z.z_all (QbL (Yy (Nb:=["_law_a", "_law_b"]) (no:=2) (cap:=[]) (N:=Qgd) (sc:=Qc Jv) rfl rfl (by decide +kernel)) rfl (Qm0 Z.z_zip (Qa 0) (Qa 1)) (λcl C s3 H3 ex=>⟨(QbG rfl (Zu (QR 0 (show List.Nodup (["_law_a", "_law_b"]:List Str) by decide +kernel)) (Zu (QR 1 (show List.Nodup (["_law_a", "_law_b"]:List Str) by decide +kernel)) QbF))),QeN,(Qq ih hr (Qe (Qa 0) (Qe (Qa 1) Qj)))⟩)))))))) QC)
 (Qd (r_if (QhD (Qa 1) QbD) (Qh (Q0 (r_is (Qa 0) QbD))) QC)
 (Qd (r_if (Z7 (Yx .str Z.z_isinstance Z.z_str Qkf (Qa 1))) (Qh (Q0 (QbE (Yx .str Z.z_isinstance Z.z_str Qkf (Qa 0)) (QdU (r_eq hr (Qa 0) (Qa 1)))))) QC)
 (Qh (Q0 (QbE (Yx .int Z.z_isinstance Z.z_int Qke (Qa 0)) (QbE (QmJ (Yx .bool Z.z_isinstance Z.z_bool QhP (Qa 0))) (QdU (r_eq hr (Qa 0) (Qa 1))))))))))),hm,F.kp,F.binds (ps:=["_law_found", "_law_due"]) (λ_ _ _ _ _ _ us hl=>by obtain⟨_,_,rfl⟩:=L3.len2 hl;rfl)⟩,Qr _ _ _⟩
theorem QgW(Z:Zk K mg ca):FnH P w K mg base ca "_law_table" 2 4 QbY:=by
 obtain⟨f,fd,F,hm⟩:=Z.u_L_table
 exact⟨⟨f,fd,["_law_script", "_law_at", "_law_states", "_law_signs"],Zi F sc_L_table rfl rfl (λcdv A outer s H E hr=>(Qd (Qy 4 sc_L_table.nd (QaP Qj))
 (Qd (QbI rfl (YS Z.z_range (Qa 2)) (QR 5 sc_L_table.nd) (Qd (Qy 6 sc_L_table.nd (QaP Qj))
 (Qd (QbI rfl (YS Z.z_range (Qa 3)) (QR 7 sc_L_table.nd) (Qd (Qy 8 sc_L_table.nd (Qq (YL Z) (hr.mono (by omega)) (Qe (Qa 0) (Qe (Qa 1) Qj))))
 (Qd (Qy 9 sc_L_table.nd (ZM (Qe (Yf (Qad (Qa 8) Qf) (Qa 3)) (Qe (Qi Qcq (Yf (Qad (Qa 8) Qf) Qf)) (Qe (Yf (Qad (Qa 8) Qf) (Qa 2)) Qj)))))
 (Qd (r_if (Qa8 hr (Yf (Qa 8) Qf) Qf) (Qh (Qy 9 sc_L_table.nd QbD)) QC)
 (Qh (ZN (Qbl (Qa 6) (Qa 9))))))))
 (Qh (ZN (Qbl (Qa 4) (Qa 6)))))))
 (Qh (Q0 (Qa 4)))))),hm,F.kp,F.binds (ps:=["_law_script", "_law_at", "_law_states", "_law_signs"]) (λ_ _ _ _ _ _ us hl=>by obtain⟨_,_,_,_,rfl⟩:=L3.len4 hl;rfl)⟩,Qr _ _ _⟩
theorem QiP(Z:Zk K mg ca):FnH P w K mg base ca "_law_step" 1 2 Qbp:=by
 obtain⟨f,fd,F,hm⟩:=Z.u_L_step
 exact⟨⟨f,fd,["_law_table_here", "_law_shot_here"],Zi F sc_L_step rfl rfl (λcdv A outer s H E hr=>(Qd (Qk2 (Qa 1) (QbG rfl (Zu (QR 2 sc_L_step.nd) (Zu (QR 3 sc_L_step.nd) (Zu (QR 4 sc_L_step.nd) QbF)))))
 (Qd (Qy 5 sc_L_step.nd (Qi (Qi (Qa 0) (Qa 2)) (Qh5 (Qa 4) (Qa 3) Qf)))
 (Qd (r_if (QhD (Qa 5) QbD) (Qh (Q0 QbD)) QC)
 (Qd (Qy 6 sc_L_step.nd (Qnr Z.z_dict (Qa 4)))
 (Qd (Qnt (Qa 6) (Qa 3) (Qi (Qa 5) Qf))
 (Qd (r_if (Qa8 hr (Qi (Qa 5) Qf) Qf) (Qh (ZN (Qns (Qa 6) (Qa 3)))) QC)
 (Qd (r_if (Qa8 hr (Qi (Qa 5) Qf) Qcq) (Qh (Q0 (ZM (Qe (Qi (Qa 5) Qf) (Qe (JK (Qa 3) Qf) (Qe (Qa 6) Qj)))))) QC)
 (Qh (Q0 (ZM (Qe (Qi (Qa 5) Qf) (Qe (Qau (Qa 3) Qf) (Qe (Qa 6) Qj)))))))))))))),hm,F.kp,F.binds (ps:=["_law_table_here", "_law_shot_here"]) (λ_ _ _ _ _ _ us hl=>by obtain⟨_,_,rfl⟩:=L3.len2 hl;rfl)⟩,Qr _ _ _⟩
theorem QiQ(Z:Zk K mg ca):FnH P w K mg base ca "_law_shot" 1 1 Qdp:=by
 obtain⟨f,fd,F,hm⟩:=Z.u_L_shot
 exact⟨⟨f,fd,["_law_shot_here"],Zi F sc_L_shot rfl rfl (λcdv A outer s H E hr=>(Qd (Qk2 (Qa 0) (QbG rfl (Zu (QR 1 sc_L_shot.nd) (Zu (QR 2 sc_L_shot.nd) (Zu (QR 3 sc_L_shot.nd) QbF)))))
 (Qh (Q0 (ZM (Qe (Qa 1) (Qe (Qa 2) (Qe (Qc6 Z.z_tuple (QbL (Yy (Nb:=["_law_spot", "_law_cells"]) (no:=1) (cap:=[3]) (N:=Qge) (sc:=Qc Jw) rfl rfl (by decide +kernel)) rfl (JI (Qjm Z.z_sorted (Qnu rfl Z.z_list (Qa 3)))) (λcl C s3 H3 ex=>⟨(QR 0 (show List.Nodup (["_law_spot", "_law_cells"]:List Str) by decide +kernel)),QeN,(ZM (Qe (Qa 0) (Qe (Qoy (Qa 1) (Qa 0)) Qj)))⟩))) Qj)))))))),hm,F.kp,F.binds (ps:=["_law_shot_here"]) (λ_ _ _ _ _ _ us hl=>by obtain⟨_,rfl⟩:=L3.len1 hl;rfl)⟩,Qr _ _ _⟩
theorem Qj0(Z:Zk K mg ca):FnH P w K mg base ca "_law_run" 2 3 Qe2:=by
 obtain⟨f,fd,F,hm⟩:=Z.u_L_run
 exact⟨⟨f,fd,["_law_table_here", "_law_shot_here", "_law_steps"],Zi F sc_L_run rfl rfl (λcdv A outer s H E hr=>(Qd (Qy 3 sc_L_run.nd (QaP (Qe (Qa 1) Qj)))
 (Qd (Qhs (Qom (Yg Z.z_len (Qa 3)) (Qa 2)) (Qd (Qy 1 sc_L_run.nd (Qq (QiP Z) (hr.mono (by omega)) (Qe (Qa 0) (Qe (Qa 1) Qj))))
 (Qd (r_if (QhD (Qa 1) QbD) (Qh (Q0 (Qa 3))) QC)
 (Qh (ZN (Qbl (Qa 3) (Qa 1)))))))
 (Qh (Q0 (Qa 3)))))),hm,F.kp,F.binds (ps:=["_law_table_here", "_law_shot_here", "_law_steps"]) (λ_ _ _ _ _ _ us hl=>by obtain⟨_,_,_,rfl⟩:=L3.len3 hl;rfl)⟩,Qr _ _ _⟩
theorem Qcl(Z:Zk K mg ca):FnH P w K mg base ca "_law_machine_by" 3 2 Y9:=by
 obtain⟨f,fd,F,hm⟩:=Z.u_L_machine_by
 exact⟨⟨f,fd,["_law_script", "_law_at"],Zi F sc_L_machine_by rfl rfl (λcdv A outer s H E hr=>(Qd (Qy 2 sc_L_machine_by.nd (Qq (YL Z) (hr.mono (by omega)) (Qe (Qa 0) (Qe (Qa 1) Qj))))
 (Qd (Qy 3 sc_L_machine_by.nd (Qi (QaP (Qe Qf (Qe Qf (Qe Qf (Qe Qf (Qe Qf (Qe Qf Qj))))))) (Yf (Qa 2) Qf)))
 (Qd (Qy 4 sc_L_machine_by.nd (Qi (QaP (Qe Qf (Qe Qf (Qe Qf (Qe Qf (Qe Qf (Qe Qf Qj))))))) (Yf (Qad (Qa 2) Qf) Qf)))
 (Qd (r_if (Qa8 hr (Yf (Qad (Qa 2) Qf) Qf) Qf) (Qh (Qk2 (ZM (Qe Qf (Qe Qf Qj))) (QbG rfl (Zu (QR 3 sc_L_machine_by.nd) (Zu (QR 4 sc_L_machine_by.nd) QbF))))) QC)
 (Qd (Qy 5 sc_L_machine_by.nd (Qq (QgW Z) (hr.mono (by omega)) (Qe (Qa 0) (Qe (Qa 1) (Qe (Qa 3) (Qe (Qa 4) Qj))))))
 (Qd (QbI rfl (YS Z.z_range (Qa 3)) (QR 6 sc_L_machine_by.nd) (Qh (QbI rfl (YS Z.z_range (Qa 4)) (QR 7 sc_L_machine_by.nd) (Qd (Qy 2 sc_L_machine_by.nd (Qq (YL Z) (hr.mono (by omega)) (Qe (Qa 0) (Qe (Qa 1) Qj))))
 (Qd (r_if (r_w (QcG (Qa8 hr (Yf (Qa 2) Qf) Qf) (QaO (QfG (Qi (Qi (Qa 5) (Qa 6)) (Qa 7)) QbD)))) (Qh (QbH (Qi (Qa 5) (Qa 6)) (Qa 7) (ZM (Qe (Qi (Qi (Qi (Qa 5) (Qa 6)) (Qa 7)) Qf) (Qe (Qi (Qi (Qi (Qa 5) (Qa 6)) (Qa 7)) Qf) (Qe (Qa 6) Qj)))))) QC)
 (Qh (r_if (r_w (QcG (Qcr (Yf (Qad (Qa 2) Qf) Qf) Qf) (QaO (QhD (Qi (Qi (Qa 5) (Qa 6)) (Qa 7)) QbD)))) (Qh (QbH (Qi (Qa 5) (Qa 6)) (Qa 7) (ZM (Qe (Yf (Qad (Qa 2) Qf) (Qa 4)) (Qe (Qi Qcq (Yf (Qad (Qa 2) Qf) Qf)) (Qe (Yf (Qad (Qa 2) Qf) (Qa 3)) Qj)))))) QC)))))))
 (Qh (Q0 (Qa 5)))))))))),hm,F.kp,F.binds (ps:=["_law_script", "_law_at"]) (λ_ _ _ _ _ _ us hl=>by obtain⟨_,_,rfl⟩:=L3.len2 hl;rfl)⟩,Qr _ _ _⟩
theorem Qj1(Z:Zk K mg ca):FnH P w K mg base ca "_law_far" 2 2 Qe4:=by
 obtain⟨f,fd,F,hm⟩:=Z.u_L_far
 exact⟨⟨f,fd,["_law_script", "_law_at"],Zi F sc_L_far rfl rfl (λcdv A outer s H E hr=>(Qd (Qy 2 sc_L_far.nd (Qq (YL Z) (hr.mono (by omega)) (Qe (Qa 0) (Qe (Qa 1) Qj))))
 (Qd (Qy 3 sc_L_far.nd (QdV (Qcr (Yg Z.z_len (Qa 0)) Qf) (Qi (Qa 0) (Yf (Qi (Qa 1) Qf) (Yg Z.z_len (Qa 0)))) Qf))
 (Qd (Qy 4 sc_L_far.nd Qf)
 (Qd (QbI rfl (YS Z.z_range (Yf (Qad (Qa 2) Qf) Qf)) (QR 5 sc_L_far.nd) (Qh (Qy 4 sc_L_far.nd (Qd1 (Qa 4) Qf))))
 (Qh (Q0 (JK Qf (Yf (JK (Yf (Qa 3) (Qnx Qf Qf)) (Qd1 (Qa 2) (Qnx Qf Qf))) (Qa 4)))))))))),hm,F.kp,F.binds (ps:=["_law_script", "_law_at"]) (λ_ _ _ _ _ _ us hl=>by obtain⟨_,_,rfl⟩:=L3.len2 hl;rfl)⟩,Qr _ _ _⟩
theorem Qab(Z:Zk K mg ca):FnH P w K mg base ca "_law_after" 9 3 Ya:=by
 obtain⟨f,fd,F,hm⟩:=Z.u_L_after
 exact⟨⟨f,fd,["_law_machine", "_law_steps", "_law_most"],Zi F sc_L_after rfl rfl (λcdv A outer s H E hr=>(Qd (Qy 3 sc_L_after.nd QbD)
 (Qd (Qm4 Z.t_TooLong (Qh (Qy 3 sc_L_after.nd (Qq (Jx Z).full (hr.mono (by omega)) (Qe (Qa 0) (Qe (Qa 1) (Qe (Qa 2) Qj)))))) (λa=>(Qh (Qy 3 sc_L_after.nd Qcq))))
 (Qh (Q0 (Qa 3)))))),hm,F.kp,F.binds (ps:=["_law_machine", "_law_steps", "_law_most"]) (λ_ _ _ _ _ _ us hl=>by obtain⟨_,_,_,rfl⟩:=L3.len3 hl;rfl)⟩,Qr _ _ _⟩
theorem Qez(Z:Zk K mg ca):FnH P w K mg base ca "_law_read" 1 1 Jr:=by
 obtain⟨f,fd,F,hm⟩:=Z.u_L_read
 exact⟨⟨f,fd,["_law_shot_here"],Zi F QiN rfl rfl (λcdv A outer s H E hr=>(Qh (Q0 (ZM (Qe (Qi (Qa 0) Qf) (Qe (Qh5 (Qi (Qa 0) Qf) (Qi (Qa 0) Qf) Qf) Qj)))))),hm,F.kp,F.binds (ps:=["_law_shot_here"]) (λ_ _ _ _ _ _ us hl=>by obtain⟨_,rfl⟩:=L3.len1 hl;rfl)⟩,Qr _ _ _⟩
theorem Qcz(Z:Zk K mg ca):FnH P w K mg base ca "_law_cut_leaps" 2 1 Jt:=by
 obtain⟨f,fd,F,hm⟩:=Z.u_L_cut_leaps
 exact⟨⟨f,fd,["_law_shots"],Zi F sc_L_cut_leaps rfl rfl (λcdv A outer s H E hr=>(Qd (Qy 1 sc_L_cut_leaps.nd Qf)
 (Qd (QbI rfl (YS Z.z_range (Qau (Yg Z.z_len (Qa 0)) Qf)) (QR 2 sc_L_cut_leaps.nd) (Qh (r_if (r_w (Qc3 (Qa8 hr (Qa 2) Qf) (Qas (Qa9 hr (Qq (Qez Z) (hr.mono (by omega)) (Qe (Qi (Qa 0) (Qa 2)) Qj)) (Qq (Qez Z) (hr.mono (by omega)) (Qe (Qi (Qa 0) (Qau (Qa 2) Qf)) Qj)))))) (Qh (Qy 1 sc_L_cut_leaps.nd (JK (Qa 1) Qf))) QC)))
 (Qh (Q0 (Qa 1)))))),hm,F.kp,F.binds (ps:=["_law_shots"]) (λ_ _ _ _ _ _ us hl=>by obtain⟨_,rfl⟩:=L3.len1 hl;rfl)⟩,Qr _ _ _⟩
theorem QnU(Z:Zk K mg ca){f:Addr}{fd:FuncData}(F:Fun K "law" "law" Qfi f fd):FnOk P w K mg base (CXW P w ca) 10 f fd ["_law_script"] (spM K ca 1 QjB) :=
 Zi F sc_law rfl rfl (λcdv A outer s H E hr=>(Qd (Qy 1 sc_law.nd (QaP (Qe Qf Qj)))
 (Qd (Qy 2 sc_law.nd (Qq (Qcl Z) (hr.mono (by omega)) (Qe (Qa 0) (Qe (Qa 1) Qj))))
 (Qd (Qy 3 sc_law.nd (QfB (YJ Z) (hr.mono (by omega)) (Qe (Qa 2) Qj)))
 (Qd (Qy 4 sc_law.nd (Qq (Qj0 Z) (hr.mono (by omega)) (Qe (Qa 2) (Qe (ZM (Qe Qf (Qe Qf (Qe Qnq Qj)))) (Qe Qf Qj)))))
 (Qd (QbI rfl (YS Z.z_range Qf) (QR 5 sc_law.nd) (Qd (Qy 6 sc_law.nd (Qau (Yf (Qq (YL Z) (hr.mono (by omega)) (Qe (Qa 0) (Qe (Qa 1) Qj))) Qf) (Qa 5)))
 (Qd (Qy 7 sc_law.nd (QeP (Qa 4) Qda (QhL (JK Qf (Qnw rfl Z.z_max Qf (Qa 6))))))
 (Qd (Qy 8 sc_law.nd (Qq (Qcz Z) (hr.mono (by omega)) (Qe (Qa 7) Qj)))
 (Qd (Qy 9 sc_law.nd (ZM (Qe (Qq (QiQ Z) (hr.mono (by omega)) (Qe (Qi (Qa 7) (Qau (Yg Z.z_len (Qa 7)) Qf)) Qj)) (Qe (Qau (Yg Z.z_len (Qa 7)) Qf) Qj))))
 (Qd (r_if (r_w (Qc3 (Qac (Z7 (Qq (JV Z 6) (hr.mono (by omega)) (Qe (Qia (Jx Z) (hr.mono (by omega)) (Qe (Qa 3) (Qe (Qa 6) Qj))) (Qe (Qa 9) Qj))))) (Qas (Qac (Z7 (Qq (JV Z 6) (hr.mono (by omega)) (Qe (Qq (Qab Z) (hr.mono (by omega)) (Qe (Qa 3) (Qe (Qa 6) (Qe (Qa 8) Qj)))) (Qe (Qa 9) Qj)))))))) (Qh (Q0 r_bl)) QC)
 (Qh (r_if (r_w (QcG (Qcr (Qa 8) Qf) (QaO (Qa9 hr (Qq (Qab Z) (hr.mono (by omega)) (Qe (Qa 3) (Qe (Qa 6) (Qe (Qau (Qa 8) Qf) Qj)))) Qcq)))) (Qh (Q0 r_bl)) QC))))))))
 (Qd (Qy 10 sc_law.nd (JK Qf (Yf (Qq (YL Z) (hr.mono (by omega)) (Qe (Qa 0) (Qe (Qa 1) Qj))) Qf)))
 (Qd (Qy 11 sc_law.nd (QfB (YJ Z) (hr.mono (by omega)) (Qe (QaP (Qe (QaP (Qe (ZM (Qe Qf (Qe Qcq (Qe Qf Qj)))) Qj)) (Qe (QaP (Qe (ZM (Qe Qf (Qe Qcq (Qe Qf Qj)))) Qj)) Qj))) Qj)))
 (Qd (r_if (Qac (Z7 (Qq (JV Z 6) (hr.mono (by omega)) (Qe (Qia (Jx Z) (hr.mono (by omega)) (Qe (Qa 11) (Qe (Qa 10) Qj))) (Qe (ZM (Qe (ZM (Qe (Yf (Qa 10) Qf) (Qe (Yf (Qa 10) Qf) (Qe (ZM Qj) Qj)))) (Qe (Qa 10) Qj))) Qj))))) (Qh (Q0 r_bl)) QC)
 (Qd (r_if (Qa9 hr (Qq (Qab Z) (hr.mono (by omega)) (Qe (Qa 11) (Qe (Qa 10) (Qe (Qau (Qa 10) Qf) Qj)))) Qcq) (Qh (Q0 r_bl)) QC)
 (Qd (Qy 12 sc_law.nd (Qq (Qj1 Z) (hr.mono (by omega)) (Qe (Qa 0) (Qe (Qa 1) Qj))))
 (Qd (Qy 13 sc_law.nd (Yf (Qq (YL Z) (hr.mono (by omega)) (Qe (Qa 0) (Qe (Qa 1) Qj))) Qf))
 (Qd (QbH (Qi (Qa 2) Qf) Qf (ZM (Qe Qf (Qe (Qi Qcq (Qa 13)) (Qe Qf Qj)))))
 (Qh (Q0 (Qq (JV Z 6) (hr.mono (by omega)) (Qe (Qq (Qab Z) (hr.mono (by omega)) (Qe (QfB (YJ Z) (hr.mono (by omega)) (Qe (Qa 2) Qj)) (Qe (Qa 12) (Qe Qf Qj)))) (Qe (ZM (Qe (ZM (Qe Qf (Qe (Qi (QaP (Qe (Qd2 (Qa 12)) (Qe (Qa 12) Qj))) (Qa 13)) (Qe (ZM Qj) Qj)))) (Qe (Qa 12) Qj))) Qj))))))))))))))))))
end
noncomputable def caOf(l:List Nat)(n:Nat):Addr:=l.getD n 0
theorem z_mk{K:PySem.W.Frag}{h:Heap}{mg:Str->Option Value}(X:K.In h)(G:h.Ns mainGlobals mg){C0 C1 C5 C6 C11 C13:Addr}{oc1 kV1 dc1 pm1 cd1 ct1:Value}{od1 an1:Option Addr}{sl1:Array (Option Value)}{f1:Addr}{oc2 kV2 dc2 pm2 cd2 ct2:Value}{od2 an2:Option Addr}{sl2:Array (Option Value)}{f2:Addr}{oc3 kV3 dc3 pm3 cd3 ct3:Value}{od3 an3:Option Addr}{sl3:Array (Option Value)}{f3:Addr}{oc4 kV4 dc4 pm4 cd4 ct4:Value}{od4 an4:Option Addr}{sl4:Array (Option Value)}{f4:Addr}{oc5 kV5 dc5 pm5 cd5 ct5:Value}{od5 an5:Option Addr}{sl5:Array (Option Value)}{f5:Addr}{oc6 kV6 dc6 pm6 cd6 ct6:Value}{od6 an6:Option Addr}{sl6:Array (Option Value)}{f6:Addr}{oc7 kV7 dc7 pm7 cd7 ct7:Value}{od7 an7:Option Addr}{sl7:Array (Option Value)}{f7:Addr}{oc8 kV8 dc8 pm8 cd8 ct8:Value}{od8 an8:Option Addr}{sl8:Array (Option Value)}{f8:Addr}{oc9 kV9 dc9 pm9 cd9 ct9:Value}{od9 an9:Option Addr}{sl9:Array (Option Value)}{f9:Addr}{oc10 kV10 dc10 pm10 cd10 ct10:Value}{od10 an10:Option Addr}{sl10:Array (Option Value)}{f10:Addr}{oc11 kV11 dc11 pm11 cd11 ct11:Value}{od11 an11:Option Addr}{sl11:Array (Option Value)}{f11:Addr}{oc12 kV12 dc12 pm12 cd12 ct12:Value}{od12 an12:Option Addr}{sl12:Array (Option Value)}{f12:Addr}{oc13 kV13 dc13 pm13 cd13 ct13:Value}{od13 an13:Option Addr}{sl13:Array (Option Value)}{f13:Addr}{oc14 kV14 dc14 pm14 cd14 ct14:Value}{od14 an14:Option Addr}{sl14:Array (Option Value)}{f14:Addr}{oc15 kV15 dc15 pm15 cd15 ct15:Value}{od15 an15:Option Addr}{sl15:Array (Option Value)}{f15:Addr}{oc16 kV16 dc16 pm16 cd16 ct16:Value}{od16 an16:Option Addr}{sl16:Array (Option Value)}{f16:Addr}{oc17 kV17 dc17 pm17 cd17 ct17:Value}{od17 an17:Option Addr}{sl17:Array (Option Value)}{f17:Addr}{oc18 kV18 dc18 pm18 cd18 ct18:Value}{od18 an18:Option Addr}{sl18:Array (Option Value)}{f18:Addr}{oc19 kV19 dc19 pm19 cd19 ct19:Value}{od19 an19:Option Addr}{sl19:Array (Option Value)}{f19:Addr}{oc20 kV20 dc20 pm20 cd20 ct20:Value}{od20 an20:Option Addr}{sl20:Array (Option Value)}{f20:Addr}{oc21 kV21 dc21 pm21 cd21 ct21:Value}{od21 an21:Option Addr}{sl21:Array (Option Value)}{f21:Addr}{oc22 kV22 dc22 pm22 cd22 ct22:Value}{od22 an22:Option Addr}{sl22:Array (Option Value)}{f22:Addr}{oc23 kV23 dc23 pm23 cd23 ct23:Value}{od23 an23:Option Addr}{sl23:Array (Option Value)}{f23:Addr}{oc24 kV24 dc24 pm24 cd24 ct24:Value}{od24 an24:Option Addr}{sl24:Array (Option Value)}{f24:Addr}{oc25 kV25 dc25 pm25 cd25 ct25:Value}{od25 an25:Option Addr}{sl25:Array (Option Value)}{f25:Addr}{dt25:Addr}{dk25:Tok}{de25:Value}{dd25:Option Addr}{dn25:Nat}{ds25:Array (Option Value)}{oc26 kV26 dc26 pm26 cd26 ct26:Value}{od26 an26:Option Addr}{sl26:Array (Option Value)}{f26:Addr}{oc27 kV27 dc27 pm27 cd27 ct27:Value}{od27 an27:Option Addr}{sl27:Array (Option Value)}{f27:Addr}{oc28 kV28 dc28 pm28 cd28 ct28:Value}{od28 an28:Option Addr}{sl28:Array (Option Value)}{f28:Addr}{oc29 kV29 dc29 pm29 cd29 ct29:Value}{od29 an29:Option Addr}{sl29:Array (Option Value)}{f29:Addr}{oc30 kV30 dc30 pm30 cd30 ct30:Value}{od30 an30:Option Addr}{sl30:Array (Option Value)}{f30:Addr}{oc31 kV31 dc31 pm31 cd31 ct31:Value}{od31 an31:Option Addr}{sl31:Array (Option Value)}{f31:Addr}{oc32 kV32 dc32 pm32 cd32 ct32:Value}{od32 an32:Option Addr}{sl32:Array (Option Value)}{f32:Addr}{oc33 kV33 dc33 pm33 cd33 ct33:Value}{od33 an33:Option Addr}{sl33:Array (Option Value)}{f33:Addr}{oc34 kV34 dc34 pm34 cd34 ct34:Value}{od34 an34:Option Addr}{sl34:Array (Option Value)}{f34:Addr}{oc35 kV35 dc35 pm35 cd35 ct35:Value}{od35 an35:Option Addr}{sl35:Array (Option Value)}{f35:Addr}{oc36 kV36 dc36 pm36 cd36 ct36:Value}{od36 an36:Option Addr}{sl36:Array (Option Value)}{f36:Addr}{oc37 kV37 dc37 pm37 cd37 ct37:Value}{od37 an37:Option Addr}{sl37:Array (Option Value)}{f37:Addr}{og_BLANK:_}{og_LEFT:_}{og_RIGHT:_}(c0:nsIn K mainGlobals "TapeError" = some (some (.ref C0)))(c1:nsIn K mainGlobals "NoMachine" = some (some (.ref C1)))(c5:nsIn K mainGlobals "NoStretches" = some (some (.ref C5)))(c6:nsIn K mainGlobals "TooLong" = some (some (.ref C6)))(c11:nsIn K mainGlobals "Machine" = some (some (.ref C11)))(c13:nsIn K mainGlobals "FastWalk" = some (some (.ref C13)))(a1:nsIn K mainGlobals "is_whole" = some (some (.ref f1)))(l1:K.lookup f1=some ⟨oc1,od1,.func (fnOf "is_whole" "is_whole" (Qn Yp) (Qm Yp) (Qc Yp) .none kV1 dc1 pm1 an1 cd1 ct1),sl1⟩)(d1:codeIn K cd1 "is_whole" = true)(k1:keepIn K (.ref f1)=true)(a2:nsIn K mainGlobals "is_below" = some (some (.ref f2)))(l2:K.lookup f2=some ⟨oc2,od2,.func (fnOf "is_below" "is_below" (Qn Yq) (Qm Yq) (Qc Yq) .none kV2 dc2 pm2 an2 cd2 ct2),sl2⟩)(d2:codeIn K cd2 "is_below" = true)(k2:keepIn K (.ref f2)=true)(a3:nsIn K mainGlobals "is_from_nought" = some (some (.ref f3)))(l3:K.lookup f3=some ⟨oc3,od3,.func (fnOf "is_from_nought" "is_from_nought" (Qn QV) (Qm QV) (Qc QV) .none kV3 dc3 pm3 an3 cd3 ct3),sl3⟩)(d3:codeIn K cd3 "is_from_nought" = true)(k3:keepIn K (.ref f3)=true)(a4:nsIn K mainGlobals "is_entry" = some (some (.ref f4)))(l4:K.lookup f4=some ⟨oc4,od4,.func (fnOf "is_entry" "is_entry" (Qn Yr) (Qm Yr) (Qc Yr) .none kV4 dc4 pm4 an4 cd4 ct4),sl4⟩)(d4:codeIn K cd4 "is_entry" = true)(k4:keepIn K (.ref f4)=true)(a5:nsIn K mainGlobals "check_rows" = some (some (.ref f5)))(l5:K.lookup f5=some ⟨oc5,od5,.func (fnOf "check_rows" "check_rows" (Qn Zo) (Qm Zo) (Qc Zo) .none kV5 dc5 pm5 an5 cd5 ct5),sl5⟩)(d5:codeIn K cd5 "check_rows" = true)(k5:keepIn K (.ref f5)=true)(a6:findIn K (.ref C11) "__init__" = some (some (.ref f6)))(l6:K.lookup f6=some ⟨oc6,od6,.func (fnOf "__init__" "Machine.__init__" (Qn Q4) (Qm Q4) (Qc Q4) .none kV6 dc6 pm6 an6 cd6 ct6),sl6⟩)(d6:codeIn K cd6 "Machine.__init__" = true)(k6:keepIn K (.ref f6)=true)(i6:isFn K (.ref f6)=true)(m6:makesIn K C11=true)(q6:keepIn K (.ref C11)=true)(a7:nsIn K mainGlobals "states_of" = some (some (.ref f7)))(l7:K.lookup f7=some ⟨oc7,od7,.func (fnOf "states_of" "states_of" (Qn Z1) (Qm Z1) (Qc Z1) .none kV7 dc7 pm7 an7 cd7 ct7),sl7⟩)(d7:codeIn K cd7 "states_of" = true)(k7:keepIn K (.ref f7)=true)(a8:nsIn K mainGlobals "signs_of" = some (some (.ref f8)))(l8:K.lookup f8=some ⟨oc8,od8,.func (fnOf "signs_of" "signs_of" (Qn Ys) (Qm Ys) (Qc Ys) .none kV8 dc8 pm8 an8 cd8 ct8),sl8⟩)(d8:codeIn K cd8 "signs_of" = true)(k8:keepIn K (.ref f8)=true)(a9:nsIn K mainGlobals "add_stretch" = some (some (.ref f9)))(l9:K.lookup f9=some ⟨oc9,od9,.func (fnOf "add_stretch" "add_stretch" (Qn Zs) (Qm Zs) (Qc Zs) .none kV9 dc9 pm9 an9 cd9 ct9),sl9⟩)(d9:codeIn K cd9 "add_stretch" = true)(k9:keepIn K (.ref f9)=true)(a10:nsIn K mainGlobals "is_stretch" = some (some (.ref f10)))(l10:K.lookup f10=some ⟨oc10,od10,.func (fnOf "is_stretch" "is_stretch" (Qn ZJ) (Qm ZJ) (Qc ZJ) .none kV10 dc10 pm10 an10 cd10 ct10),sl10⟩)(d10:codeIn K cd10 "is_stretch" = true)(k10:keepIn K (.ref f10)=true)(a11:nsIn K mainGlobals "check_side" = some (some (.ref f11)))(l11:K.lookup f11=some ⟨oc11,od11,.func (fnOf "check_side" "check_side" (Qn Zp) (Qm Zp) (Qc Zp) .none kV11 dc11 pm11 an11 cd11 ct11),sl11⟩)(d11:codeIn K cd11 "check_side" = true)(k11:keepIn K (.ref f11)=true)(a12:nsIn K mainGlobals "check_stretches" = some (some (.ref f12)))(l12:K.lookup f12=some ⟨oc12,od12,.func (fnOf "check_stretches" "check_stretches" (Qn QL) (Qm QL) (Qc QL) .none kV12 dc12 pm12 an12 cd12 ct12),sl12⟩)(d12:codeIn K cd12 "check_stretches" = true)(k12:keepIn K (.ref f12)=true)(a13:nsIn K mainGlobals "marks_of" = some (some (.ref f13)))(l13:K.lookup f13=some ⟨oc13,od13,.func (fnOf "marks_of" "marks_of" (Qn Z2) (Qm Z2) (Qc Z2) .none kV13 dc13 pm13 an13 cd13 ct13),sl13⟩)(d13:codeIn K cd13 "marks_of" = true)(k13:keepIn K (.ref f13)=true)(a14:nsIn K mainGlobals "shot_of" = some (some (.ref f14)))(l14:K.lookup f14=some ⟨oc14,od14,.func (fnOf "shot_of" "shot_of" (Qn Jh) (Qm Jh) (Qc Jh) .none kV14 dc14 pm14 an14 cd14 ct14),sl14⟩)(d14:codeIn K cd14 "shot_of" = true)(k14:keepIn K (.ref f14)=true)(a15:nsIn K mainGlobals "put" = some (some (.ref f15)))(l15:K.lookup f15=some ⟨oc15,od15,.func (fnOf "put" "put" (Qn QgU) (Qm QgU) (Qc QgU) .none kV15 dc15 pm15 an15 cd15 ct15),sl15⟩)(d15:codeIn K cd15 "put" = true)(k15:keepIn K (.ref f15)=true)(a16:nsIn K mainGlobals "drop" = some (some (.ref f16)))(l16:K.lookup f16=some ⟨oc16,od16,.func (fnOf "drop" "drop" (Qn QcV) (Qm QcV) (Qc QcV) .none kV16 dc16 pm16 an16 cd16 ct16),sl16⟩)(d16:codeIn K cd16 "drop" = true)(k16:keepIn K (.ref f16)=true)(a17:nsIn K mainGlobals "nearest_sign" = some (some (.ref f17)))(l17:K.lookup f17=some ⟨oc17,od17,.func (fnOf "nearest_sign" "nearest_sign" (Qn Ze) (Qm Ze) (Qc Ze) .none kV17 dc17 pm17 an17 cd17 ct17),sl17⟩)(d17:codeIn K cd17 "nearest_sign" = true)(k17:keepIn K (.ref f17)=true)(a18:nsIn K mainGlobals "alike" = some (some (.ref f18)))(l18:K.lookup f18=some ⟨oc18,od18,.func (fnOf "alike" "alike" (Qn QaZ) (Qm QaZ) (Qc QaZ) .none kV18 dc18 pm18 an18 cd18 ct18),sl18⟩)(d18:codeIn K cd18 "alike" = true)(k18:keepIn K (.ref f18)=true)(a19:findIn K (.ref C13) "__init__" = some (some (.ref f19)))(l19:K.lookup f19=some ⟨oc19,od19,.func (fnOf "__init__" "FastWalk.__init__" (Qn Za) (Qm Za) (Qc Za) .none kV19 dc19 pm19 an19 cd19 ct19),sl19⟩)(d19:codeIn K cd19 "FastWalk.__init__" = true)(k19:keepIn K (.ref f19)=true)(i19:isFn K (.ref f19)=true)(m19:makesIn K C13=true)(q19:keepIn K (.ref C13)=true)(a20:findIn K (.ref C13) "entry" = some (some (.ref f20)))(l20:K.lookup f20=some ⟨oc20,od20,.func (fnOf "entry" "FastWalk.entry" (Qn QW) (Qm QW) (Qc QW) .none kV20 dc20 pm20 an20 cd20 ct20),sl20⟩)(d20:codeIn K cd20 "FastWalk.entry" = true)(k20:keepIn K (.ref f20)=true)(i20:isFn K (.ref f20)=true)(w20:clsB K C13=true)(a21:findIn K (.ref C13) "leap" = some (some (.ref f21)))(l21:K.lookup f21=some ⟨oc21,od21,.func (fnOf "leap" "FastWalk.leap" (Qn Zb) (Qm Zb) (Qc Zb) .none kV21 dc21 pm21 an21 cd21 ct21),sl21⟩)(d21:codeIn K cd21 "FastWalk.leap" = true)(k21:keepIn K (.ref f21)=true)(i21:isFn K (.ref f21)=true)(w21:clsB K C13=true)(a22:findIn K (.ref C13) "row" = some (some (.ref f22)))(l22:K.lookup f22=some ⟨oc22,od22,.func (fnOf "row" "FastWalk.row" (Qn Zf) (Qm Zf) (Qc Zf) .none kV22 dc22 pm22 an22 cd22 ct22),sl22⟩)(d22:codeIn K cd22 "FastWalk.row" = true)(k22:keepIn K (.ref f22)=true)(i22:isFn K (.ref f22)=true)(w22:clsB K C13=true)(a23:nsIn K mainGlobals "check_of_machine" = some (some (.ref f23)))(l23:K.lookup f23=some ⟨oc23,od23,.func (fnOf "check_of_machine" "check_of_machine" (Qn Qz) (Qm Qz) (Qc Qz) .none kV23 dc23 pm23 an23 cd23 ct23),sl23⟩)(d23:codeIn K cd23 "check_of_machine" = true)(k23:keepIn K (.ref f23)=true)(a24:nsIn K mainGlobals "fast_from" = some (some (.ref f24)))(l24:K.lookup f24=some ⟨oc24,od24,.func (fnOf "fast_from" "fast_from" (Qn Z3) (Qm Z3) (Qc Z3) .none kV24 dc24 pm24 an24 cd24 ct24),sl24⟩)(d24:codeIn K cd24 "fast_from" = true)(k24:keepIn K (.ref f24)=true)(a25:nsIn K mainGlobals "fast_after" = some (some (.ref f25)))(l25:K.lookup f25=some ⟨oc25,od25,.func (fnOf "fast_after" "fast_after" (Qn ZK) (Qm ZK) (Qc ZK) (.ref dt25) kV25 dc25 pm25 an25 cd25 ct25),sl25⟩)(y25:K.lookup dt25=some ⟨de25,dd25,.seq #[.int 5000 dk25] dn25,ds25⟩)(d25:codeIn K cd25 "fast_after" = true)(k25:keepIn K (.ref f25)=true)(a26:nsIn K mainGlobals "_law_next" = some (some (.ref f26)))(l26:K.lookup f26=some ⟨oc26,od26,.func (fnOf "_law_next" "_law_next" (Qn J8) (Qm J8) (Qc J8) .none kV26 dc26 pm26 an26 cd26 ct26),sl26⟩)(d26:codeIn K cd26 "_law_next" = true)(k26:keepIn K (.ref f26)=true)(a27:nsIn K mainGlobals "_law_same" = some (some (.ref f27)))(l27:K.lookup f27=some ⟨oc27,od27,.func (fnOf "_law_same" "_law_same" (Qn Jv) (Qm Jv) (Qc Jv) .none kV27 dc27 pm27 an27 cd27 ct27),sl27⟩)(d27:codeIn K cd27 "_law_same" = true)(k27:keepIn K (.ref f27)=true)(a28:nsIn K mainGlobals "_law_table" = some (some (.ref f28)))(l28:K.lookup f28=some ⟨oc28,od28,.func (fnOf "_law_table" "_law_table" (Qn Ji) (Qm Ji) (Qc Ji) .none kV28 dc28 pm28 an28 cd28 ct28),sl28⟩)(d28:codeIn K cd28 "_law_table" = true)(k28:keepIn K (.ref f28)=true)(a29:nsIn K mainGlobals "_law_step" = some (some (.ref f29)))(l29:K.lookup f29=some ⟨oc29,od29,.func (fnOf "_law_step" "_law_step" (Qn J9) (Qm J9) (Qc J9) .none kV29 dc29 pm29 an29 cd29 ct29),sl29⟩)(d29:codeIn K cd29 "_law_step" = true)(k29:keepIn K (.ref f29)=true)(a30:nsIn K mainGlobals "_law_shot" = some (some (.ref f30)))(l30:K.lookup f30=some ⟨oc30,od30,.func (fnOf "_law_shot" "_law_shot" (Qn Jw) (Qm Jw) (Qc Jw) .none kV30 dc30 pm30 an30 cd30 ct30),sl30⟩)(d30:codeIn K cd30 "_law_shot" = true)(k30:keepIn K (.ref f30)=true)(a31:nsIn K mainGlobals "_law_run" = some (some (.ref f31)))(l31:K.lookup f31=some ⟨oc31,od31,.func (fnOf "_law_run" "_law_run" (Qn Qa1) (Qm Qa1) (Qc Qa1) .none kV31 dc31 pm31 an31 cd31 ct31),sl31⟩)(d31:codeIn K cd31 "_law_run" = true)(k31:keepIn K (.ref f31)=true)(a32:nsIn K mainGlobals "_law_machine_by" = some (some (.ref f32)))(l32:K.lookup f32=some ⟨oc32,od32,.func (fnOf "_law_machine_by" "_law_machine_by" (Qn Zg) (Qm Zg) (Qc Zg) .none kV32 dc32 pm32 an32 cd32 ct32),sl32⟩)(d32:codeIn K cd32 "_law_machine_by" = true)(k32:keepIn K (.ref f32)=true)(a33:nsIn K mainGlobals "_law_far" = some (some (.ref f33)))(l33:K.lookup f33=some ⟨oc33,od33,.func (fnOf "_law_far" "_law_far" (Qn Qa2) (Qm Qa2) (Qc Qa2) .none kV33 dc33 pm33 an33 cd33 ct33),sl33⟩)(d33:codeIn K cd33 "_law_far" = true)(k33:keepIn K (.ref f33)=true)(a34:nsIn K mainGlobals "_law_after" = some (some (.ref f34)))(l34:K.lookup f34=some ⟨oc34,od34,.func (fnOf "_law_after" "_law_after" (Qn Jj) (Qm Jj) (Qc Jj) .none kV34 dc34 pm34 an34 cd34 ct34),sl34⟩)(d34:codeIn K cd34 "_law_after" = true)(k34:keepIn K (.ref f34)=true)(a35:nsIn K mainGlobals "_law_read" = some (some (.ref f35)))(l35:K.lookup f35=some ⟨oc35,od35,.func (fnOf "_law_read" "_law_read" (Qn Qaa) (Qm Qaa) (Qc Qaa) .none kV35 dc35 pm35 an35 cd35 ct35),sl35⟩)(d35:codeIn K cd35 "_law_read" = true)(k35:keepIn K (.ref f35)=true)(a36:nsIn K mainGlobals "_law_cut_leaps" = some (some (.ref f36)))(l36:K.lookup f36=some ⟨oc36,od36,.func (fnOf "_law_cut_leaps" "_law_cut_leaps" (Qn Zt) (Qm Zt) (Qc Zt) .none kV36 dc36 pm36 an36 cd36 ct36),sl36⟩)(d36:codeIn K cd36 "_law_cut_leaps" = true)(k36:keepIn K (.ref f36)=true)(a37:nsIn K mainGlobals "law" = some (some (.ref f37)))(l37:K.lookup f37=some ⟨oc37,od37,.func (fnOf "law" "law" (Qn Qfi) (Qm Qfi) (Qc Qfi) .none kV37 dc37 pm37 an37 cd37 ct37),sl37⟩)(d37:codeIn K cd37 "law" = true)(k37:keepIn K (.ref f37)=true)(nz_all:nsIn K mainGlobals "all" = some none)(nz_any:nsIn K mainGlobals "any" = some none)(nz_bool:nsIn K mainGlobals "bool" = some none)(nz_dict:nsIn K mainGlobals "dict" = some none)(nz_int:nsIn K mainGlobals "int" = some none)(nz_isinstance:nsIn K mainGlobals "isinstance" = some none)(nz_len:nsIn K mainGlobals "len" = some none)(nz_list:nsIn K mainGlobals "list" = some none)(nz_max:nsIn K mainGlobals "max" = some none)(nz_min:nsIn K mainGlobals "min" = some none)(nz_range:nsIn K mainGlobals "range" = some none)(nz_reversed:nsIn K mainGlobals "reversed" = some none)(nz_sorted:nsIn K mainGlobals "sorted" = some none)(nz_str:nsIn K mainGlobals "str" = some none)(nz_tuple:nsIn K mainGlobals "tuple" = some none)(nz_zip:nsIn K mainGlobals "zip" = some none)(ng_BLANK:nsIn K mainGlobals "BLANK" = some (some (.int 0 og_BLANK)))(ng_LEFT:nsIn K mainGlobals "LEFT" = some (some (.str "l" og_LEFT)))(ng_RIGHT:nsIn K mainGlobals "RIGHT" = some (some (.str "r" og_RIGHT)))(nt_TooLong:catB K (caOf [C0,C1,0,0,0,C5,C6,0,0,0,0,C11,0,C13]) C6 [6] [0,1,5]=true)(ne_TooLong:excIn K C6 bmV "ValueError.__new__" = true)(na_left:fldB K (caOf [C0,C1,0,0,0,C5,C6,0,0,0,0,C11,0,C13]) [13] "left" = true)(na_moved:fldB K (caOf [C0,C1,0,0,0,C5,C6,0,0,0,0,C11,0,C13]) [13] "moved" = true)(na_own:fldB K (caOf [C0,C1,0,0,0,C5,C6,0,0,0,0,C11,0,C13]) [13] "own" = true)(na_right:fldB K (caOf [C0,C1,0,0,0,C5,C6,0,0,0,0,C11,0,C13]) [13] "right" = true)(na_state:fldB K (caOf [C0,C1,0,0,0,C5,C6,0,0,0,0,C11,0,C13]) [13] "state" = true)(na_table:fldB K (caOf [C0,C1,0,0,0,C5,C6,0,0,0,0,C11,0,C13]) [11,13] "table" = true):Zk K mg (caOf [C0,C1,0,0,0,C5,C6,0,0,0,0,C11,0,C13]) :=
  ⟨UE X G nz_all,
   UE X G nz_any,
   UE X G nz_bool,
   UE X G nz_dict,
   UE X G nz_int,
   UE X G nz_isinstance,
   UE X G nz_len,
   UE X G nz_list,
   UE X G nz_max,
   UE X G nz_min,
   UE X G nz_range,
   UE X G nz_reversed,
   UE X G nz_sorted,
   UE X G nz_str,
   UE X G nz_tuple,
   UE X G nz_zip,
   ⟨_,Uq X G ng_BLANK⟩,
   ⟨_,Uq X G ng_LEFT⟩,
   ⟨_,Uq X G ng_RIGHT⟩,
   ⟨Uq X G c6,Qm5 nt_TooLong⟩,
   ⟨Uq X G c6,ne_TooLong⟩,
   QcJ na_left,
   QcJ na_moved,
   QcJ na_own,
   QcJ na_right,
   QcJ na_state,
   QcJ na_table,
   ⟨f1,_,QE (st:=Yp) l1 d1 k1,Uq X G a1⟩,
   ⟨f2,_,QE (st:=Yq) l2 d2 k2,Uq X G a2⟩,
   ⟨f3,_,QE (st:=QV) l3 d3 k3,Uq X G a3⟩,
   ⟨f4,_,QE (st:=Yr) l4 d4 k4,Uq X G a4⟩,
   ⟨f5,_,QE (st:=Zo) l5 d5 k5,Uq X G a5⟩,
   ⟨f6,_,QE (st:=Q4) l6 d6 k6,⟨m6,a6,i6,q6⟩,Uq X G c11⟩,
   ⟨f7,_,QE (st:=Z1) l7 d7 k7,Uq X G a7⟩,
   ⟨f8,_,QE (st:=Ys) l8 d8 k8,Uq X G a8⟩,
   ⟨f9,_,QE (st:=Zs) l9 d9 k9,Uq X G a9⟩,
   ⟨f10,_,QE (st:=ZJ) l10 d10 k10,Uq X G a10⟩,
   ⟨f11,_,QE (st:=Zp) l11 d11 k11,Uq X G a11⟩,
   ⟨f12,_,QE (st:=QL) l12 d12 k12,Uq X G a12⟩,
   ⟨f13,_,QE (st:=Z2) l13 d13 k13,Uq X G a13⟩,
   ⟨f14,_,QE (st:=Jh) l14 d14 k14,Uq X G a14⟩,
   ⟨f15,_,QE (st:=QgU) l15 d15 k15,Uq X G a15⟩,
   ⟨f16,_,QE (st:=QcV) l16 d16 k16,Uq X G a16⟩,
   ⟨f17,_,QE (st:=Ze) l17 d17 k17,Uq X G a17⟩,
   ⟨f18,_,QE (st:=QaZ) l18 d18 k18,Uq X G a18⟩,
   ⟨f19,_,QE (st:=Za) l19 d19 k19,⟨m19,a19,i19,q19⟩,Uq X G c13⟩,
   ⟨f20,_,QE (st:=QW) l20 d20 k20,⟨a20,i20,k20⟩,QfJ w20⟩,
   ⟨f21,_,QE (st:=Zb) l21 d21 k21,⟨a21,i21,k21⟩,QfJ w21⟩,
   ⟨f22,_,QE (st:=Zf) l22 d22 k22,⟨a22,i22,k22⟩,QfJ w22⟩,
   ⟨f23,_,QE (st:=Qz) l23 d23 k23,Uq X G a23⟩,
   ⟨f24,_,QE (st:=Z3) l24 d24 k24,Uq X G a24⟩,
   ⟨f25,_,Qlv (st:=ZK) l25 d25 k25 y25,Uq X G a25⟩,
   ⟨f26,_,QE (st:=J8) l26 d26 k26,Uq X G a26⟩,
   ⟨f27,_,QE (st:=Jv) l27 d27 k27,Uq X G a27⟩,
   ⟨f28,_,QE (st:=Ji) l28 d28 k28,Uq X G a28⟩,
   ⟨f29,_,QE (st:=J9) l29 d29 k29,Uq X G a29⟩,
   ⟨f30,_,QE (st:=Jw) l30 d30 k30,Uq X G a30⟩,
   ⟨f31,_,QE (st:=Qa1) l31 d31 k31,Uq X G a31⟩,
   ⟨f32,_,QE (st:=Zg) l32 d32 k32,Uq X G a32⟩,
   ⟨f33,_,QE (st:=Qa2) l33 d33 k33,Uq X G a33⟩,
   ⟨f34,_,QE (st:=Jj) l34 d34 k34,Uq X G a34⟩,
   ⟨f35,_,QE (st:=Qaa) l35 d35 k35,Uq X G a35⟩,
   ⟨f36,_,QE (st:=Zt) l36 d36 k36,Uq X G a36⟩,
   ⟨f37,_,QE (st:=Qfi) l37 d37 k37,Uq X G a37⟩⟩
theorem walk{l:PySem.W.OpenLaw}{p:Program}{loose:List Str}{XP:(Str->Option Value)->Heap->Prop}{YP:World->Heap->Prop}{d:DefRec}{K:Params->PySem.W.Frag}(C:List Nat)(hn:l.most=some 63)(hdf:d.params.defaults=[])(hd:d.name = "law")(hY:∀(w:World) (h:Heap),YP w h->(K w.params).In h)(F:∀(w:World) (mg:Str->Option Value) (h:Heap),(K w.params).In h->h.Ns mainGlobals mg->Zk (K w.params) mg (caOf C))(M:∀ns:List Int,ns.length<=63->∃g',QjB [.fl (ns.map D.int)] []=.ok (.bl true) g'):PySem.W.WalkO p loose XP YP l.row.toRowW d [] (λf vs=>PySem.call f vs):=by
 refine L2.walk_of (n:=63) (k:=10) (x:="_law_script") (CX:=λw=>CXW l.prog w (caOf C)) (sp:=λw=>spM (K w.params) (caOf C) 1 QjB) hn (by decide) hdf ⟨rfl,by decide,by decide⟩ hY (λw mg fa h KX G hmg=>?_) (λw H a ns hl hO hS=>Qm6 hO hS (M ns hl)) (λw H s e s' z=>?_)
 ·have Z:=F w mg h KX G
  obtain⟨f,fd,Fu,hm⟩:=Z.u_law
  rw[hd]at hmg
  have e:=hmg.symm.trans hm
  cases e
  refine⟨fd,λs u=>?_,λbase _ _=>QnU Z Fu⟩
  obtain⟨oc,od,kV,doc,pm,an,cdv,ct,osl,rfl,lk,hcd⟩:=Fu.ex
  exact .of_eq rfl
 ·obtain⟨_,_,_,_,_,_,_,_,_,_,z⟩:=z
  exact z
end V
namespace V
open PySem PySem.W PySem.W.X PySem.Spec PyProof.Rows
theorem walkX_of{as:List Addr}{K:Params->Frag}{n t:Nat}{q:Program}{loose:List Str}{XP:(Str->Option Value)->Heap->Prop}{r:RowW}{d:DefRec}{kwd:List (Str×PySem.Expr)}{run:Value->List Value->Sem Value}(e:∀P,as=(K P).map (·.1))(h:WalkO q loose XP (InK K) r d kwd run):WalkX q loose XP (obsZ as) (valZ K n t) r d kwd run :=
 λw s₀ s₁ mg mb G y a o pm cd doc dV kV h1 h2 h3 h4 h5 h6 args vals as' L p1 p2 p3 p4 p5 =>
  h w s₀ s₁ mg mb G (InK.keeps w _ _ (z_facts e y).2.1 L.keeps) a o pm cd doc dV kV h1 h2 h3 h4 h5 h6 args vals as' p1 p2 p3 p4 p5
end V
noncomputable def PySem.W.Fast.tw3726002585040661568 : PySem.Program := PySem.Challenge.pw_tapeproof_k24_fast_after
theorem PySem.W.Fast.te3726002585040661568 : PySem.Challenge.pw_tapeproof_k24_fast_after = PySem.W.Fast.tw3726002585040661568 := rfl
def PySem.W.Fast.tw8422426136970745962 : Unit := ()
def PySem.W.Fast.tw185101993734043286 : Unit := ()
def PySem.W.Fast.tw16270964608203251269 : Unit := ()
def PySem.W.Fast.tw10805311491365759690 : Unit := ()
def PySem.W.Fast.tw4197106941376354540 : Unit := ()
def PySem.W.Fast.tw1146748996353294640 : Unit := ()
def PySem.W.Fast.tw452509835953335962 : Unit := ()
def PySem.W.Fast.tw3082541845472527222 : Unit := ()
def PySem.W.Fast.tw6252178407531968858 : Unit := ()
def PySem.W.Fast.tw6719867455131673129 : Unit := ()
def PySem.W.Fast.tw11382414773350589143 : Unit := ()
def PySem.W.Fast.tw17487887415058615727 : Unit := ()
def PySem.W.Fast.tw9968924510767335094 : Unit := ()
def PySem.W.Fast.tw18126982985417171152 : Unit := ()
def PySem.W.Fast.tw9970798320515696174 : Unit := ()
def PySem.W.Fast.tw1653368973850366897 : Unit := ()
def PySem.W.Fast.tw7940843322390950670 : Unit := ()
def PySem.W.Fast.tw15436391294649478274 : Unit := ()
def PySem.W.Fast.tw4153617079459130249 : Unit := ()
def PySem.W.Fast.tw17293147826032658507 : Unit := ()
def PySem.W.Fast.tw189160996393186260 : Unit := ()
def PySem.W.Fast.tw15901603882518876167 : Unit := ()
def PySem.W.Fast.tw5348196716751807552 : Unit := ()
def PySem.W.Fast.tw4357816989113206 : Unit := ()
def PySem.W.Fast.tw15222458908810245936 : Unit := ()
def PySem.W.Fast.tw14609380082130111904 : Unit := ()
def PySem.W.Fast.tw11294424351539253372 : Unit := ()
def PySem.W.Fast.tw17189107605008176625 : Unit := ()
def PySem.W.Fast.tw11286860430562121337 : Unit := ()
def PySem.W.Fast.tw18072295016150695214 : Unit := ()
def PySem.W.Fast.tw6948158641726836927 : Unit := ()
def PySem.W.Fast.tw13550490995104727466 : Unit := ()
def PySem.W.Fast.tw2358267996071276690 : Unit := ()
def PySem.W.Fast.tw13480248721328159625 : Unit := ()
def PySem.W.Fast.tw6825521394076811177 : Unit := ()
def PySem.W.Fast.tw17848780843475983090 : Unit := ()
def PySem.W.Fast.tw5100359210945220051 : Unit := ()
def PySem.W.Fast.tw7957511698630441149 : Unit := ()
def PySem.W.Fast.tw16089440592929841769 : Unit := ()
def PySem.W.Fast.tw395184731289108627 : Unit := ()
def PySem.W.Fast.tw12562816371928896858 : Unit := ()
def PySem.W.Fast.tw15145888351786913376 : Unit := ()
def PySem.W.Fast.tw9395281687520335579 : Unit := ()
def PySem.W.Fast.tw12920369822875874421 : Unit := ()
def PySem.W.Fast.tw13272184018845571287 : Unit := ()
def PySem.W.Fast.tw5931161114304017378 : Unit := ()
def PySem.W.Fast.tw23250584625742692 : Unit := ()
def PySem.W.Fast.tw1506811981821067798 : Unit := ()
def PySem.W.Fast.tw16804253373513941008 : Unit := ()
def PySem.W.Fast.tw8004916586518045229 : Unit := ()
def PySem.W.Fast.tw15403055994811590367 : Unit := ()
open PySem PySem.W PyProof.Rows
set_option maxRecDepth 100000 in
set_option maxHeartbeats 0 in
theorem PySem.Challenge.cw_tapeproof_k24_fast_after_holds : PySem.Challenge.rw_tapeproof_k24_fast_after.Holds := by
  w_on; o_law; z_head; (case hw=>w_witness2)
  k_fill
  refine V.walkX_of (fun P=>?E) (V.walk (l:=PySem.Challenge.rw_tapeproof_k24_fast_after) [24,37,0,0,0,49,61,0,0,0,0,111,0,233] rfl rfl rfl (fun w h Y=>Y) ?F L3.law_true)
  case E=>kernel_rfl
  case F =>
    intro w mg h KX G
    refine' V.z_mk KX G ?c0 ?c1 ?c5 ?c6 ?c11 ?c13 ?a1 ?l1 ?d1 ?k1 ?a2 ?l2 ?d2 ?k2 ?a3 ?l3 ?d3 ?k3 ?a4 ?l4 ?d4 ?k4 ?a5 ?l5 ?d5 ?k5 ?a6 ?l6 ?d6 ?k6 ?i6 ?m6 ?q6 ?a7 ?l7 ?d7 ?k7 ?a8 ?l8 ?d8 ?k8 ?a9 ?l9 ?d9 ?k9 ?a10 ?l10 ?d10 ?k10 ?a11 ?l11 ?d11 ?k11 ?a12 ?l12 ?d12 ?k12 ?a13 ?l13 ?d13 ?k13 ?a14 ?l14 ?d14 ?k14 ?a15 ?l15 ?d15 ?k15 ?a16 ?l16 ?d16 ?k16 ?a17 ?l17 ?d17 ?k17 ?a18 ?l18 ?d18 ?k18 ?a19 ?l19 ?d19 ?k19 ?i19 ?m19 ?q19 ?a20 ?l20 ?d20 ?k20 ?i20 ?w20 ?a21 ?l21 ?d21 ?k21 ?i21 ?w21 ?a22 ?l22 ?d22 ?k22 ?i22 ?w22 ?a23 ?l23 ?d23 ?k23 ?a24 ?l24 ?d24 ?k24 ?a25 ?l25 ?y25 ?d25 ?k25 ?a26 ?l26 ?d26 ?k26 ?a27 ?l27 ?d27 ?k27 ?a28 ?l28 ?d28 ?k28 ?a29 ?l29 ?d29 ?k29 ?a30 ?l30 ?d30 ?k30 ?a31 ?l31 ?d31 ?k31 ?a32 ?l32 ?d32 ?k32 ?a33 ?l33 ?d33 ?k33 ?a34 ?l34 ?d34 ?k34 ?a35 ?l35 ?d35 ?k35 ?a36 ?l36 ?d36 ?k36 ?a37 ?l37 ?d37 ?k37 ?nz_all ?nz_any ?nz_bool ?nz_dict ?nz_int ?nz_isinstance ?nz_len ?nz_list ?nz_max ?nz_min ?nz_range ?nz_reversed ?nz_sorted ?nz_str ?nz_tuple ?nz_zip ?ng_BLANK ?ng_LEFT ?ng_RIGHT ?nt_TooLong ?ne_TooLong ?na_left ?na_moved ?na_own ?na_right ?na_state ?na_table
    (case c0=>k_is); (case c1=>k_is); (case c5=>k_is); (case c6=>k_is); (case c11=>k_is); (case c13=>k_is)
    (case a1=>k_is); (case l1=>k_is); (case d1=>k_is); (case k1=>k_is); (case a2=>k_is); (case l2=>k_is)
    (case d2=>k_is); (case k2=>k_is); (case a3=>k_is); (case l3=>k_is); (case d3=>k_is); (case k3=>k_is)
    (case a4=>k_is); (case l4=>k_is); (case d4=>k_is); (case k4=>k_is); (case a5=>k_is); (case l5=>k_is)
    (case d5=>k_is); (case k5=>k_is); (case a6=>k_is); (case l6=>k_is); (case d6=>k_is); (case k6=>k_is)
    (case i6=>k_is); (case m6=>k_is); (case q6=>k_is); (case a7=>k_is); (case l7=>k_is); (case d7=>k_is)
    (case k7=>k_is); (case a8=>k_is); (case l8=>k_is); (case d8=>k_is); (case k8=>k_is); (case a9=>k_is)
    (case l9=>k_is); (case d9=>k_is); (case k9=>k_is); (case a10=>k_is); (case l10=>k_is); (case d10=>k_is)
    (case k10=>k_is); (case a11=>k_is); (case l11=>k_is); (case d11=>k_is); (case k11=>k_is); (case a12=>k_is)
    (case l12=>k_is); (case d12=>k_is); (case k12=>k_is); (case a13=>k_is); (case l13=>k_is); (case d13=>k_is)
    (case k13=>k_is); (case a14=>k_is); (case l14=>k_is); (case d14=>k_is); (case k14=>k_is); (case a15=>k_is)
    (case l15=>k_is); (case d15=>k_is); (case k15=>k_is); (case a16=>k_is); (case l16=>k_is); (case d16=>k_is)
    (case k16=>k_is); (case a17=>k_is); (case l17=>k_is); (case d17=>k_is); (case k17=>k_is); (case a18=>k_is)
    (case l18=>k_is); (case d18=>k_is); (case k18=>k_is); (case a19=>k_is); (case l19=>k_is); (case d19=>k_is)
    (case k19=>k_is); (case i19=>k_is); (case m19=>k_is); (case q19=>k_is); (case a20=>k_is); (case l20=>k_is)
    (case d20=>k_is); (case k20=>k_is); (case i20=>k_is); (case w20=>kernel_rfl); (case a21=>k_is); (case l21=>k_is)
    (case d21=>k_is); (case k21=>k_is); (case i21=>k_is); (case w21=>kernel_rfl); (case a22=>k_is); (case l22=>k_is)
    (case d22=>k_is); (case k22=>k_is); (case i22=>k_is); (case w22=>kernel_rfl); (case a23=>k_is); (case l23=>k_is)
    (case d23=>k_is); (case k23=>k_is); (case a24=>k_is); (case l24=>k_is); (case d24=>k_is); (case k24=>k_is)
    (case a25=>k_is); (case l25=>k_is); (case y25=>k_is); (case d25=>k_is); (case k25=>k_is); (case a26=>k_is)
    (case l26=>k_is); (case d26=>k_is); (case k26=>k_is); (case a27=>k_is); (case l27=>k_is); (case d27=>k_is)
    (case k27=>k_is); (case a28=>k_is); (case l28=>k_is); (case d28=>k_is); (case k28=>k_is); (case a29=>k_is)
    (case l29=>k_is); (case d29=>k_is); (case k29=>k_is); (case a30=>k_is); (case l30=>k_is); (case d30=>k_is)
    (case k30=>k_is); (case a31=>k_is); (case l31=>k_is); (case d31=>k_is); (case k31=>k_is); (case a32=>k_is)
    (case l32=>k_is); (case d32=>k_is); (case k32=>k_is); (case a33=>k_is); (case l33=>k_is); (case d33=>k_is)
    (case k33=>k_is); (case a34=>k_is); (case l34=>k_is); (case d34=>k_is); (case k34=>k_is); (case a35=>k_is)
    (case l35=>k_is); (case d35=>k_is); (case k35=>k_is); (case a36=>k_is); (case l36=>k_is); (case d36=>k_is)
    (case k36=>k_is); (case a37=>k_is); (case l37=>k_is); (case d37=>k_is); (case k37=>k_is); (case nz_all=>k_is)
    (case nz_any=>k_is); (case nz_bool=>k_is); (case nz_dict=>k_is); (case nz_int=>k_is); (case nz_isinstance=>k_is); (case nz_len=>k_is)
    (case nz_list=>k_is); (case nz_max=>k_is); (case nz_min=>k_is); (case nz_range=>k_is); (case nz_reversed=>k_is); (case nz_sorted=>k_is)
    (case nz_str=>k_is); (case nz_tuple=>k_is); (case nz_zip=>k_is); (case ng_BLANK=>k_is); (case ng_LEFT=>k_is); (case ng_RIGHT=>k_is)
    (case nt_TooLong=>kernel_rfl); (case ne_TooLong=>k_exc); (case na_left=>kernel_rfl); (case na_moved=>kernel_rfl); (case na_own=>kernel_rfl); (case na_right=>kernel_rfl)
    (case na_state=>kernel_rfl); (case na_table=>kernel_rfl)
