import PyProof.Rows.All
import Wide.All
import Wide.FinOn
import OpenK.ZGo
import KE.KItem
import KE.KIsAll
import KE.KRevIter
import KE.KDictOf
import KE.KDictSum
import PySem.Challenge.RW_tapeproof_k52_contexts_walked
local macro_rules | `(tactic| omega) => `(tactic| lia)
set_option Elab.async false
set_option linter.all false
set_option maxRecDepth 100000
noncomputable section
abbrev VP:=PySem.Value->PySem.Shared->Prop
abbrev YM:=List (PySem.Addr×PySem.Obj)
abbrev Xa:=PySem.Str->Option PySem.Value
def Ua:=@PySem.wpAny_bind
def Ub:=@PySem.Heap.get?_push_of_some
def Uc:=@PySem.wpAny_pure
def Ud:=@List.getElem?_set_ne
def Ue:=@List.length_map
def Uf:=@if_pos
def Ug:=@Nat.le_refl
def Uh:=@if_neg
def Ui:=@List.mem_singleton
def Uj:=@Bool.false_ne_true
def Uk:=@Nat.le_trans
def Ul:=@List.getElem?_append_left
def Um:=@List.getElem?_eq_some_iff
def Uo:=@Array.length_toList
def Uq:=@List.length_append
def Ur:=@PyProof.Rows.wpS_bind
def Us:=@decide_eq_true
def Ut:=@List.mem_append
def Uu:=@PySem.Heap.get?_push_size
def Uv:=@decide_eq_false
def Uw:=@PyProof.Rows.wpS_pure
def Ux:=@List.size_toArray
def Uy:=@List.mem_cons_self
def Uz:=@List.mem_cons_of_mem
def UA:=@Nat.lt_of_lt_of_le
def UB:=@PySem.Heap.lt_size
def UC:=@of_decide_eq_true
def UD:=@List.getElem?_append_right
def UE:=@List.append_assoc
def UG:=@List.mem_cons
def UH:=@List.map_cons
def UJ:=@List.length_cons
def UK:=@List.getElem?_eq_getElem
def UL:=@List.getElem?_map
def UN:=@Bool.and_eq_true
def UO:=@List.map_append
def UP:=@PySem.wpAny_newObj_type
def UQ:=@List.length_set
def UR:=@List.mem_map
def US:=@List.all_eq_true
def UT:=@List.getElem?_set_self
def UU:=@Bool.false_eq_true
def UV:=@PySem.W.mg_none_of
def UW:=@PySem.wpAny_call_entry
def UX:=@List.mem_append_right
def UY:=@Nat.ne_of_lt
def UZ:=@List.take_succ_eq_append_getElem
def U0:=@PySem.wpAny_callSpecial?_slot
def U1:=@Array.toList_append
def U2:=@Int.le_trans
def U3:=@Array.getElem_mem
def U4:=@List.mem_filter
def U5:=@Nat.le_add_right
def U6:=@List.append_nil
def U7:=@PyProof.Rows.callWith_type1
def U8:=@PyProof.Rows.slot_tuple_getitem
def U9:=@List.length_replicate
def Ta:=@beq_eq_false_iff_ne
def Tc:=@PySem.W.kia_one
def Td:=@List.find?_cons
def Te:=@List.map_map
def Tf:=@PySem.wpAny_truthy_bool
def Tg:=@decide_eq_true_eq
def Th:=@PyProof.Rows.wpS_forRange
def Ti:=@List.length_take
def Tj:=@decide_eq_decide
def Tk:=@List.getElem_mem
def Tn:=@List.map_congr_left
def To:=@Int.toNat_of_nonneg
def Tq:=@List.length_singleton
def Tr:=@Array.getElem?_toList
def Ts:=@PySem.builtinLookup_eq_fast
def Tt:=@PySem.wpAny_holding
def Tu:=@List.any_cons
def Tv:=@Nat.zero_le
def Tw:=@Int.le_refl
def Tx:=@Array.mem_toList_iff
def Tz:=@PySem.F.slot_dict_valueiterator_next
def TB:=@Nat.le_of_add_right_le
def TC:=@PySem.wpAny_rule
def TD:=@Nat.add_le_add_left
def TF:=@PySem.Heap.SameBut.update
def TH:=@Int.toNat_natCast
def TJ:=@List.take_append_drop
def TK:=@PySem.F.slot_dict_keyiterator_next
def TL:=@Nat.lt_irrefl
def TM:=@Int.le_of_lt
def TN:=@List.mem_of_getElem?
def TQ:=@Array.getElem_toList
def TU:=@PySem.sizeLine_eq
def TV:=@Array.perm_iff_toList_perm
def TW:=@Option.map_eq_some_iff
def TX:=@Nat.lt_of_succ_lt
def TY:=@congrArg
def TZ:=@List.getElem?_eq_none
def T0:=@PyProof.Rows.wpS_mono
def T4:=@of_decide_eq_false
def T5:=@Int.emod_lt_of_pos
def T6:=@Nat.lt_succ_self
def T7:=@PySem.wpAny_isInstance
def T8:=@List.take_length
def T9:=@PySem.wpAny_typeNameOfWhole_keyiter
def Ra:=@PySem.wpAny_typeNameOfWhole_valiter
def Rb:=@List.length_dropLast
def Rc:=@List.pairwise_append
def Re:=@PySem.W.mg_of
def Rf:=@Nat.le_of_lt
def Rg:=@Nat.add_sub_cancel_left
def Rh:=@PySem.wpAny_field
def Ri:=@Bool.eq_iff_iff
def Rj:=@PySem.typeLookup_type
def Rl:=@PySem.W.kia_tup
def Rm:=@PySem.mem_of_lookup
def Rn:=@if_false
def Ro:=@List.reverse_append
def Rq:=@List.take_of_length_le
def Rr:=@PySem.wpAny_typeOf
def Rs:=@List.length_drop
def Ru:=@PySem.wpAny_tupleItemsOf
def Rv:=@PySem.Heap.size_push
def Rw:=@PySem.wpAny_mono
def Rx:=@List.extract_eq_take_drop
def Ry:=@List.pairwise_iff_getElem
def Rz:=@List.mem_append_left
def RA:=@PySem.wpAny_passesOwn
def RB:=@List.nodup_cons
def RC:=@List.nil_append
def RD:=@PySem.wpAny_specialOf
def RE:=@PySem.Around.under_plainId
def RF:=@Int.emod_nonneg
def RG:=@PySem.Value.isInt_shape
def RH:=@List.nodup_append
def RI:=@PySem.wpAny_dictEntries
def RJ:=@PySem.wpAny_of_eq
def RK:=@Bool.not_true
def RL:=@List.filterMap_cons
def RM:=@beq_iff_eq
def RN:=@List.getElem_of_mem
def RO:=@List.replicate_succ
def RP:=@List.getElem?_replicate
def RQ:=@List.mem_flatMap
def RS:=@PySem.Calls.callWith_builtin
def RT:=@PySem.wpAny_Call_Name_kw
def RU:=@List.pairwise_cons
def RV:=@List.filter_append
def RW:=@PySem.F.slot_dict_setdefault
def RX:=@Int.natCast_add
def RY:=@PySem.Heap.get?_update_self
def RZ:=@PySem.wpAny_notOrdered_dict
def R0:=@PySem.F.slot_dict_get
def Wa:=@List.length_filter_le
def Wb:=@PySem.wpAny_attempt
def Wc:=@Nat.add_assoc
def Wd:=@PySem.W.kitx_list
def We:=@Array.toList_push
def Wf:=@Nat.pred_lt_of_lt
def Wg:=@Array.toList_extract
def Wh:=@Array.toList_reverse
def Wi:=@List.mem_range
def Wj:=@Nat.le_of_not_lt
def Wm:=@List.drop_eq_getElem_cons
def Wn:=@PySem.wpAny_forIn_list
def Wo:=@List.getElem?_eq_none_iff
def Wp:=@List.set_set
def Wq:=@PySem.F.args_tuple_add_2
def Ws:=@List.all_cons
def Wt:=@List.length_nil
def Wu:=@PySem.codeAny_builtin
def Wv:=@Int.natCast_one
def Ww:=@PySem.F.entry_tuple_add
def Wx:=@PySem.F.plainAttrs_list
def Wy:=@PySem.F.plainAttrs_dict
def Wz:=@List.getElem?_cons_succ
def WA:=@List.getElem?_cons_zero
def WB:=@List.filter_cons_of_pos
def WC:=@Int.not_lt
def WD:=@PySem.F.args_dict_valueiterator_next_1
def WE:=@PySem.F.slot_tuple_add
def WF:=@PySem.Heap.get?_update_other
def WG:=@List.Perm.append_right
def WH:=@Array.getElem?_eq_none
def WI:=@List.filter_eq_nil_iff
def WJ:=@Array.size_append
def WK:=@Nat.le_pred_of_lt
def WL:=@PySem.F.slot_tuple_hash
def WM:=@List.reverse_cons
def WN:=@PySem.wpAny_setField
def WO:=@PySem.isSubtype_type
def WP:=@Nat.le_of_eq
def WQ:=@Nat.zero_add
def WR:=@PySem.F.entry_dict_valueiterator_next
def WS:=@PySem.call_meetsIn
def WT:=@List.Perm.append_left
def WU:=@List.perm_append_comm
def WV:=@PySem.isSubtype_tuple_tuple
def WW:=@PySem.wpAny_isOneOf_valiter
def WX:=@List.dropLast_eq_take
def WY:=@List.getElem?_toArray
def WZ:=@Nat.lt_of_sub_eq_succ
def W4:=@PySem.F.args_dict_keyiterator_next_1
def W5:=@PySem.F.args_dict_setdefault_3
def W6:=@if_true
def W7:=@Nat.succ_le_succ
def W8:=@List.filter_cons
def W9:=@PySem.F.entry_dict_keyiterator_next
def Ba:=@PySem.F.entry_dict_setdefault
def Bb:=@PySem.plainId_quiet
def Bc:=@List.dropLast_subset
def Bd:=@Int.mul_add
def Be:=@PySem.wpAny_execs_nil
def Bf:=@Array.size_push
def Bg:=@PySem.wpAny_dictEpoch
def Bh:=@List.head?_cons
def Bi:=@PySem.W.plainGet_of
def Bj:=@Nat.add_sub_cancel'
def Bk:=@List.length_reverse
def Bl:=@Bool.or_eq_true_iff
def Bm:=@List.mem_map_of_mem
def Bn:=@PySem.wpAny_richCompare_same_room
def Bo:=@PySem.Calls.Name_function_global
def Bp:=@Array.toList_setIfInBounds
def Bq:=@PySem.F.slot_tuple_iterator_next
def Br:=@List.mem_filterMap
def Bs:=@PySem.W.kitx_tuple
def Bt:=@Nat.lt_of_le_of_ne
def Bu:=@Nat.pos_of_ne_zero
def Bv:=@PySem.Obj.data_mapFields
def Bw:=@PySem.W.callWith_K
def Bx:=@List.drop_drop
def By:=@List.take_zero
def Bz:=@Bool.not_false
def BA:=@PySem.wpAny_seqItems
def BB:=@PyProof.Rows.pairsOf_toList
def BC:=@PySem.call_meets
def BD:=@PyProof.Rows.wpS_get
def BE:=@PyProof.Rows.wpS_modify
def BF:=@Array.getElem?_eq_getElem
def BH:=@List.getLast?_eq_getElem?
def BI:=@PySem.W.kitx_dict
def BJ:=@PySem.wpAny_pyIter_slot
def BK:=@List.pairwise_map
def BL:=@PySem.wpAny_pyIter_list
def BM:=@List.ext_getElem?
def BN:=@List.getElem?_take_of_lt
def BO:=@PySem.F.slot_dict_values
def BR:=@List.eraseIdx_cons_succ
def BS:=@Nat.succ_pred_eq_of_pos
def BU:=@PySem.F.args_dict_get_3
def BV:=@List.length_eq_zero_iff
def BW:=@List.filter_cons_of_neg
def BX:=@List.getElem_inj
def BY:=@PySem.noFill_tuple_add
def BZ:=@List.zipIdx_cons
def B0:=@PySem.F.slot_tuple_mul
def B2:=@PySem.W.cellsFrom_some
def B5:=@List.drop_eq_nil_of_le
def B6:=@List.reverse_singleton
def B7:=@List.zipWith_cons_cons
def B8:=@PySem.F.entry_dict_get
def B9:=@List.length_pos_of_mem
abbrev oM:=@PySem.codeAny_mono
abbrev oN:=@getElem?_pos
abbrev pH:=@List.of_mem_zip
abbrev pI:=@List.forIn_cons
abbrev pJ:=@List.foldl_cons
abbrev pK:=@List.forIn_nil
abbrev pL:=@Bool.or_false
abbrev jC:=@Prod.ext
abbrev iS:=@dif_pos
open PySem.W (Frag InitBack Looks any_some bind_fn callWith_K callWith_K0 cellsFrom_some codeIn codeRec_of emptyDict eq_bytes findIn findObj_own fnOf get_value handedIn hasDictIn hideAll hideAll_get hideAll_none hideAll_size instObj isFn kdl_call kdl_dict kdu_collect keepIn ki_setAt ki_setBack kia_one kia_tup kitAny kitOne kitx_bool kitx_dict kitx_float kitx_int kitx_list kitx_none kitx_own kitx_str kitx_tuple lookIn looks_clsIn looks_findIn make_core makesIn makes_of methodCall_KW methodObj method_fn mg_none_of mg_of mroIn ne_bytes nsIn of_hideAll osa_open plainGet plainGet_of plainOver set_plain specialIn takerIn takesIn typeIn)
namespace L2
open PySem PySem.Spec PyProof.Rows
abbrev X6:=Sum Int Str
def CM:X6->Value->Bool
 |.inl k,v=>Value.isInt k v|.inr x,v=>Value.isStrOf x v
def pM(w:World):X6->Int
 |.inl k=>hashInt k|.inr x=>hashStr w x
theorem Zf:∀{k:X6}{v:Value},CM k v=true->(∃i t,k=Sum.inl i/\v=Value.int i t)\/(∃x t,k=Sum.inr x/\v=Value.str x t)
 |.inl i,v,h=>by obtain⟨t,e⟩:=RG (k:=i) (v:=v) h;exact .inl ⟨i,t,rfl,e⟩
 |.inr x,v,h=>by obtain⟨t,e⟩:=Value.isStrOf_shape (x:=x) (v:=v) h;exact .inr ⟨x,t,rfl,e⟩
theorem ML(i:Int)(t:Tok):CM (.inl i) (.int i t)=true:=by simp[CM,Value.isInt]
theorem MM(x:Str)(t:Tok):CM (.inr x) (.str x t)=true:=by simp[CM,Value.isStrOf]
theorem bS(a b:Int):decide ((Sum.inl a:X6)=Sum.inl b)=(a==b):=by
 by_cases e:a=b
 ·subst e;simp
 ·have h:¬(Sum.inl a:X6)=Sum.inl b:=λq=>e (Sum.inl.inj q);rw[Uv h];exact(Ta.mpr e).symm
theorem bT(a b:Str):decide ((Sum.inr a:X6)=Sum.inr b)=decide (a=b):=by
 by_cases e:a=b
 ·subst e;simp
 ·have h:¬(Sum.inr a:X6)=Sum.inr b:=λq=>e (Sum.inr.inj q);rw[Uv h,Uv e]
theorem bU(a:Int)(b:Str):decide ((Sum.inl a:X6)=Sum.inr b)=false:=Uv (λq=>nomatch q)
theorem bV(a:Str)(b:Int):decide ((Sum.inr a:X6)=Sum.inl b)=false:=Uv (λq=>nomatch q)
def YY(prog:Program)(w:World):PySem.KeyKind prog w X6 where
 is:=CM
 hash:=pM w
 inj:=λv a b ha hb=>by
  rcases Zf ha with⟨i,t,rfl,rfl⟩|⟨x,t,rfl,rfl⟩
  ·rcases Zf hb with⟨j,u,rfl,e⟩|⟨y,u,rfl,e⟩
   ·injection e with e1 _;rw[e1]
   ·exact nomatch e
  ·rcases Zf hb with⟨j,u,rfl,e⟩|⟨y,u,rfl,e⟩
   ·exact nomatch e
   ·injection e with e1 _;rw[e1]
 byValue:=λk v h=>by rcases Zf h with⟨i,t,rfl,rfl⟩|⟨x,t,rfl,rfl⟩<;>rfl
 pyHash:=λhv h=>by
  rcases Zf hv with⟨i,t,rfl,rfl⟩|⟨x,t,rfl,rfl⟩
  ·exact wpAny_pyHash_int h
  ·exact wpAny_pyHash_str h
 eqBool:=λhu hv h=>by
  rcases Zf hu with⟨i,t,rfl,rfl⟩|⟨x,t,rfl,rfl⟩
  ·rcases Zf hv with⟨j,u,rfl,rfl⟩|⟨y,u,rfl,rfl⟩
   ·rw[bS]at h;exact wpAny_eqBool_int h
   ·rw[bU]at h;exact SeqAt.EqAt.int_str i t y u _ _ _ _ h
  ·rcases Zf hv with⟨j,u,rfl,rfl⟩|⟨y,u,rfl,rfl⟩
   ·rw[bV]at h;exact SeqAt.EqAt.str_int x t j u _ _ _ _ h
   ·rw[bT]at h;exact wpAny_eqBool_str h
 «strs»:=λk x t v h=>by
  rcases Zf h with⟨i,u,rfl,e⟩|⟨y,u,rfl,e⟩
  ·exact nomatch e
  ·injection e with e1 _;subst e1;cases v<;>rfl
theorem GM(prog:Program)(w:World)(i:Int)(t:Tok):(YY prog w).is (.inl i) (.int i t)=true:=ML i t
theorem GN(prog:Program)(w:World)(x:Str)(t:Tok):(YY prog w).is (.inr x) (.str x t)=true:=MM x t
inductive V where
 |non|bl (b:Bool)|int (i:Int)|str (x:Str)|byt (b:Array UInt8)|flt (b:UInt64)|ref (a:Addr)|ty (n:String)
 deriving DecidableEq
def RelV:V->Value->Prop
 |.non,u=>u=Value.none|.bl b,u=>u=Value.bool b|.int i,u=>∃t,u=Value.int i t|.str x,u=>∃t,u=Value.str x t|.byt b,u=>∃t,u=Value.bytes b t|.flt b,u=>∃t,u=Value.float b t|.ref a,u=>u=Value.ref a|.ty n,u=>u=Value.type n
abbrev Vals:List V->List Value->Prop:=Paired RelV
theorem Vals.length(r:Vals xs us):xs.length=us.length:=Paired.length r
theorem Vals.get:∀{xs:List V}{us:List Value}{i:Nat}{x:V},Vals xs us->xs[i]?=some x->∃u,us[i]?=some u/\RelV x u
 |_,_,_,_,.nil,e=>by simp at e
 |_,_,0,_,.cons r _,e=>by simp at e;subst e;exact⟨_,rfl,r⟩
 |_,_,i+1,x,.cons _ t,e=>by obtain⟨u,h1,h2⟩:=Vals.get (i:=i) (x:=x) t (by simpa using e);exact⟨u,by simpa using h1,h2⟩
theorem Vals.set(r:RelV x u):∀{xs:List V}{us:List Value}(i:Nat),Vals xs us->Vals (xs.set i x) (us.set i u)
 |_,_,_,.nil=>.nil|_,_,0,.cons _ t=>.cons r t|_,_,i+1,.cons q t=>.cons q (Vals.set r i t)
theorem Vals.append:∀{xs ys:List V}{us ws:List Value},Vals xs us->Vals ys ws->Vals (xs++ys) (us++ws)
 |_,_,_,_,.nil,s=>s|_,_,_,_,.cons r t,s=>.cons r (Vals.append t s)
theorem Vals.take:∀{xs:List V}{us:List Value}(n:Nat),Vals xs us->Vals (xs.take n) (us.take n)
 |_,_,0,_=>.nil|_,_,_+1,.nil=>.nil|_,_,n+1,.cons r t=>.cons r (Vals.take n t)
theorem Vals.drop:∀{xs:List V}{us:List Value}(n:Nat),Vals xs us->Vals (xs.drop n) (us.drop n)
 |_,_,0,r=>r|_,_,_+1,.nil=>.nil|_,_,n+1,.cons _ t=>Vals.drop n t
def RelO:Option V->Option Value->Prop
 |some v,some u=>RelV v u|none,none=>True|_,_=>False
def KV:List (κ×V)->List (κ×Value)->Prop:=Paired λ(p:κ×V)(q:κ×Value)=>p.1=q.1/\RelV p.2 q.2
def kV:X6->V
 |.inl i=>.int i|.inr x=>.str x
inductive HO where
 /-- a list -/
 |lst (xs:List V)
 /-- a tuple (never changes) -/
 |tup (xs:List V)
 /-- a dict whose keys are ints and texts;one whose keys are tuples of ints and texts (the empty one is both) -/
 |dK (kvs:List (X6×V))|dT (kvs:List (List X6×V))
 /-- a set of ints: its members,its size -/
 |set (S:Int->Bool) (n:Nat)
 /-- an instance of the class at C,its dict at dx,its attributes -/
 |ins (C dx:Addr) (fs:List (Str×V))
 /-- the dict of the instance at x -/
 |own (x:Addr)
 /-- the dict of an exception -/
 |xd (fs:List (Str×V))
 /-- a bound method,f of x -/
 |met (f x:Addr)
 /-- a range object lo,lo+1,.. below hi -/
 |rng (lo hi:Int)
 /-- a thing that is known to the object (the script;a dict while a loop walks it): read,never written while it is so -/
 |frz (o:Obj) (u:HO)
 /-- a code object's table -/
 |tbl (ps:Array Value)
 /-- any other thing,by what is true of its one object (a def of one's own: SetO a S n:=HO.ext λh=>..) -/
 |ext (φ:Heap->Prop)
abbrev Hp:=Addr->Option HO
def Za(H:Hp)(a:Addr)(o:HO):Hp:=λb=>if b=a then some o else H b
theorem Qr   : Za H a o a=some o:=by unfold Za;rw[Uf rfl]
theorem QH(h:b≠a):Za H a o b=H b:=by unfold Za;rw[Uh h]
theorem VE{H:Hp}{a b:Addr}{o u:HO}(h:H a=some o)(h':H b=some u)(d:o≠u):a≠b:=by intro e;subst e;rw[h]at h';exact d (Option.some.inj h')
theorem Q4{H:Hp}{a b:Addr}{o:HO}(h:H a=some o)(h':H b=none):a≠b:=by intro e;subst e;rw[h]at h';cases h'
section
variable(P:Program)(w:World)
def ObjOk(H:Hp)(h:Heap)(a:Addr):HO->Prop
 |.lst xs=>xs.length<=sizeLine/\∃(its:List Value)(n:Nat),Vals xs its/\h.get? a=some {cls:=.type "list",data:=.seq its.toArray n}|.tup xs=>xs.length<=sizeLine/\∃its:List Value,Vals xs its/\IsTup h a its.toArray|.dK kvs=>kvs.length<=sizeLine/\(a==sysModules)=false/\∃vs,KV kvs vs/\h.DictOf (YY P w) a vs|.dT kvs=>kvs.length<=sizeLine/\(a==sysModules)=false/\∃xs:List (List X6×Addr×Value),Paired (λ(p:List X6×V)(q:List X6×Addr×Value)=>p.1=q.1/\H q.2.1=some (.tup (p.1.map kV))/\RelV p.2 q.2.2) kvs xs/\∃o es ep,h.get? a=some o/\o.ExactDict/\o.data=.dict es ep/\es.toList=xs.map (entryOfKey (tupleKind (YY P w)))/\(xs.map (·.1)).Nodup
 |.set S n=>h.SetOf (intKind P w) a S n|.ins C dx fs=>H dx=some (.own a)/\fs.length<=1000/\dx≠a/\h.get? a=some (instObj C dx)/\∃mA,h.Ns1 dx mA/\(∀f,RelO (fs.lookup f) (mA f))/\PySem.Within mA (fs.map (·.1))
 |.own _=>∃o,h.get? a=some o|.xd fs=>∃mA,h.Ns1 a mA/\∀f,RelO (fs.lookup f) (mA f)|.rng lo hi=>∃t u v,h.get? a=some {cls:=.type "range",data:=.fields #[.int lo t,.int hi u,.int 1 v]}|.frz o u=>h.get? a=some o/\ObjOk H h a u|.tbl ps=>h.get? a=some {cls:=.none,data:=.fields ps}|.met f x=>h.get? a=some (methodObj (.ref f) (.ref x))|.ext φ=>φ h/\(∃o,h.get? a=some o)/\∀h1 h2:Heap,φ h1->(∀o,h1.get? a=some o->h2.get? a=some o)->φ h2
def HOk(H:Hp)(h:Heap):Prop:=∀a o,H a=some o->ObjOk P w H h a o
end
section
variable{P:Program}{w:World}{H H':Hp}{h h':Heap}{a:Addr}{o:HO}
theorem ObjOk.lt(x:ObjOk P w H h a o):a<h.objs.size:=by
 cases o with
 |lst xs=>obtain⟨_,_,_,_,e⟩:=x;exact UB e|tup xs=>obtain⟨_,_,_,p⟩:=x;exact p.lt|dK kvs=>obtain⟨_,_,_,_,o,_,_,e,_⟩:=x;exact UB e|dT kvs=>obtain⟨_,_,_,_,o,_,_,e,_⟩:=x;exact UB e|set S n=>obtain⟨o,_,_,_,e,_⟩:=x;exact UB e|ins C dx fs=>obtain⟨_,_,_,e,_⟩:=x;exact UB e|own y=>obtain⟨_,e⟩:=x;exact UB e|xd fs=>obtain⟨_,⟨_,_,_,e,_⟩,_⟩:=x;exact UB e|rng lo hi=>obtain⟨_,_,_,e⟩:=x;exact UB e|frz ob u=>obtain⟨e,_⟩:=x;exact UB e|tbl ps=>exact UB (show h.get? a=some _ from x)|met f y=>exact UB (show h.get? a=some _ from x)|ext φ=>obtain⟨_,⟨_,e⟩,_⟩:=x;exact UB e
theorem Paired.mapP  : ∀{l₁:List α}{l₂:List β},Paired F l₁ l₂->(∀a b,F a b->G a b)->Paired G l₁ l₂
 |_,_,.nil,_=>.nil|_,_,.cons r t,f=>.cons (f _ _ r) (Paired.mapP t f)
theorem Paired.imp'(f:∀a b,F a b->G a b)(r:Paired F l₁ l₂):Paired G l₁ l₂:=Paired.mapP r f
theorem ObjOk.stay(x:ObjOk P w H h a o)(k:∀b u,(b=a\/H b=some (.own a))->h.get? b=some u->h'.get? b=some u)(ho:∀b,H b=some (.own a)->H' b=some (.own a))(ht:∀b xs,H b=some (.tup xs)->H' b=some (.tup xs)):ObjOk P w H' h' a o:=by
 induction o with
 |lst xs=>obtain⟨z,its,n,r,e⟩:=x;exact⟨z,its,n,r,k _ _ (.inl rfl) e⟩|tup xs=>obtain⟨z,its,r,ob,e,c⟩:=x;exact⟨z,its,r,ob,k _ _ (.inl rfl) e,c⟩|dK kvs=>obtain⟨z,y,vs,r,ob,es,ep,e,c⟩:=x;exact⟨z,y,vs,r,ob,es,ep,k _ _ (.inl rfl) e,c⟩|dT kvs =>obtain⟨z,y,xs,r,ob,es,ep,e,c⟩:=x;exact⟨z,y,xs,Paired.mapP r λp q z=>⟨z.1,ht _ _ z.2.1,z.2.2⟩,ob,es,ep,k _ _ (.inl rfl) e,c⟩|set S n=>obtain⟨ob,es,ep,t,e,c⟩:=x;exact⟨ob,es,ep,t,k _ _ (.inl rfl) e,c⟩|ins C dx fs =>obtain⟨d,z,ne,e,mA,⟨od,es,ep,e2,c⟩,r⟩:=x;exact⟨ho _ d,z,ne,k _ _ (.inl rfl) e,mA,⟨od,es,ep,k _ _ (.inr d) e2,c⟩,r⟩|own y=>obtain⟨ob,e⟩:=x;exact⟨ob,k _ _ (.inl rfl) e⟩|xd fs=>obtain⟨mA,⟨od,es,ep,e,c⟩,r⟩:=x;exact⟨mA,⟨od,es,ep,k _ _ (.inl rfl) e,c⟩,r⟩|rng lo hi=>obtain⟨t,u,v,e⟩:=x;exact⟨t,u,v,k _ _ (.inl rfl) e⟩|frz ob u ih=>obtain⟨e,q⟩:=x;exact⟨k _ _ (.inl rfl) e,ih q⟩|tbl ps =>have e:h.get? a=some {cls:=.none,data:=.fields ps}:=x;show h'.get? a=some {cls:=.none,data:=.fields ps};exact k a _ (.inl rfl) e|met f y =>have e:h.get? a=some (methodObj (.ref f) (.ref y)):=x;show h'.get? a=some (methodObj (.ref f) (.ref y));exact k a _ (.inl rfl) e|ext φ=>obtain⟨p,⟨o,e⟩,st⟩:=x;exact⟨st _ _ p λo q=>k _ _ (.inl rfl) q,⟨o,k _ _ (.inl rfl) e⟩,st⟩
theorem HOk.lt(x:HOk P w H h)(e:H a=some o):a<h.objs.size:=(x a o e).lt
theorem HOk.fresh(x:HOk P w H h)(e:h.objs.size<=a):H a=none:=by
 cases q:H a with
 |none=>rfl|some u=>exact absurd (UA (x.lt q) e) (TL _)
theorem HOk.kept(x:HOk P w H h)(k:∀b u,h.get? b=some u->h'.get? b=some u):HOk P w H h':=λa o e=>
 (x a o e).stay (λb u _ q=>k b u q) (λ_ q=>q) λ_ _ q=>q
theorem HOk.laid(x:HOk P w H h)(k:∀b u,h.get? b=some u->h'.get? b=some u)(hp:h.objs.size<=a)(new:ObjOk P w (Za H a o) h' a o):HOk P w (Za H a o) h':=λb u e=>by
 have hn:=x.fresh hp;by_cases hb:b=a
 ·subst hb;rw[Qr]at e;cases e;exact new
 ·rw[QH hb]at e;exact(x b u e).stay (λc v _ q=>k c v q) (λc q=>by rw[QH (Q4 q hn)];exact q) λc xs q=>by rw[QH (Q4 q hn)];exact q
end
def Rd(H:Hp)(a:Addr)(u:HO):Prop:=H a=some u\/∃o,H a=some (.frz o u)
theorem Rd.ok(r:Rd H a u)(x:HOk P w H h):ObjOk P w H h a u:=by
 rcases r with r|⟨o,r⟩
 ·exact x a u r
 ·obtain⟨_,q⟩:=x a _ r;exact q
def jD:Option HO->Prop
 |some (.lst _)=>True|some (.dK _)=>True|some (.dT _)=>True|some (.set _ _)=>True|some (.ins _ _ _)=>True|some (.ext _)=>True|_=>False
theorem HOk.write(ok:HOk P w H h)(mu:jD (H x))(he:e=x\/H e=some (.own x))(k:∀b u,b≠e->h.get? b=some u->h'.get? b=some u)(heo:∃u,h'.get? e=some u)(new:ObjOk P w (Za H x o') h' x o'):HOk P w (Za H x o') h':=λb u q=>by
 have nown:∀c y,H c=some (.own y)->c≠x:=λc y r z=>by subst z;rw[r]at mu;exact mu
 have ntup:∀c xs,H c=some (.tup xs)->c≠x:=λc xs r z=>by subst z;rw[r]at mu;exact mu
 by_cases hb:b=x
 ·subst hb;rw[Qr]at q;cases q;exact new
 ·rw[QH hb]at q;by_cases hbe:b=e
  ·have q':H b=some (.own x):=by
    rcases he with z|z
    ·exact absurd (hbe.trans z) hb
    ·rw[hbe];exact z
   rw[q]at q';cases q';obtain⟨v,hv⟩:=heo;exact⟨v,by rw[hbe];exact hv⟩
  ·refine(ok b u q).stay (λc v hc r=>k c v ?_ r) (λc r=>by rw[QH (nown c b r)];exact r) λc xs r=>by rw[QH (ntup c xs r)];exact r
   rcases hc with rfl|hc
   ·exact hbe
   ·rintro rfl;rcases he with z|z
    ·exact nown c b hc z
    ·rw[hc]at z;cases z;exact hb rfl
structure Un(fs ex:List Addr)(H H':Hp)(h h':Heap):Prop where
 keep:∀b o,h.get? b=some o->H b=none->b∉fs->b∉ex->h'.get? b=some o
 slot:∀b o,h.get? b=some o->H b=none->b∈fs->b∉ex->∃sl,h'.get? b=some {o with slots:=sl}
 free:∀b o,h.get? b=some o->H b=none->b∉ex->H' b=none
 there:∀b o,h.get? b=some o->b∉ex->∃o',h'.get? b=some o'
 tups:∀b xs,H b=some (.tup xs)->H' b=some (.tup xs)
 frzs:∀b o u,H b=some (.frz o u)->H' b=some (.frz o u)
 tbls:∀b ps,H b=some (.tbl ps)->∃more,H' b=some (.tbl (ps++more))
section
variable{fs fs' ex ex':List Addr}{H H1 H2:Hp}{h h1 h2 h':Heap}{a x e:Addr}{o:HO}
theorem Un.any(u:Un fs ex H H1 h h1)(q:h.get? b=some ob)(n:H b=none)(hx:b∉ex):∃sl,h1.get? b=some {ob with slots:=sl}:=by
 by_cases hb:b∈fs
 ·exact u.slot b ob q n hb hx
 ·exact⟨ob.slots,u.keep b ob q n hb hx⟩
theorem Un.kept(k:∀b u,h.get? b=some u->h'.get? b=some u):Un fs ex H H h h':=⟨λb ob q _ _ _=>k b ob q,λb ob q _ _ _=>⟨ob.slots,k b ob q⟩,λ_ _ _ n _=>n,λb ob q _=>⟨ob,k b ob q⟩,λ_ _ q=>q,λ_ _ _ q=>q,λ_ ps q=>⟨#[],by rw[q];simp⟩⟩
theorem Un.refl:Un fs ex H H h h:=Un.kept λ_ _ q=>q
theorem Un.laid(k:∀b u,h.get? b=some u->h'.get? b=some u)(hp:h.objs.size<=a)(hn:H a=none):Un fs ex H (Za H a o) h h' where
 keep:=λb u q _ _ _=>k b u q
 slot:=λb u q _ _ _=>⟨u.slots,k b u q⟩
 free:=λb u q n _=>by rw[QH (UY (UA (UB q) hp))];exact n
 there:=λb u q _=>⟨u,k b u q⟩
 tups:=λb xs q=>by rw[QH (Q4 q hn)];exact q
 frzs:=λb u xs q=>by rw[QH (Q4 q hn)];exact q
 tbls:=λb ps q=>⟨#[],by rw[QH (Q4 q hn),q];simp⟩
theorem Un.write(mu:jD (H x))(he:e=x\/H e=some (.own x))(k:∀b u,b≠e->h.get? b=some u->h'.get? b=some u)(heo:∃u,h'.get? e=some u):Un fs ex H (Za H x o) h h':=by
 have hx:∀b,H b=none->b≠x:=λb n z=>by subst z;rw[n]at mu;exact mu
 have hb:∀b,H b=none->b≠e:=λb n z=>by
  subst z;rcases he with r|r
  ·exact hx b n r
  ·rw[n]at r;cases r
 have hm:∀b u,H b=some u->¬jD (some u)->b≠x:=λb u q nm z=>by subst z;rw[q]at mu;exact nm mu
 refine⟨λb u q n _ _=>k b u (hb b n) q,λb u q n _ _=>⟨u.slots,k b u (hb b n) q⟩,λb u q n _=>by rw[QH (hx b n)];exact n,λb u q _=>?_,λb xs q=>by rw[QH (hm b _ q λz=>z)];exact q,λb u xs q=>by rw[QH (hm b _ q λz=>z)];exact q,λb ps q=>⟨#[],by rw[QH (hm b _ q λz=>z),q];simp⟩⟩
 by_cases hbe:b=e
 ·subst hbe;exact heo
 ·exact⟨u,k b u hbe q⟩
end
def oO(h:Heap)(H:Hp):List Addr:=(List.range h.objs.size).filter λa=>(H a).isSome
def FI(h:Heap)(H:Hp):Heap:=hideAll h (oO h H)
theorem MN(h:Heap)(H:Hp):(FI h H).objs.size=h.objs.size:=hideAll_size _ _
theorem Ot(e:h.get? b=some o)(n:H b=none):(FI h H).get? b=some o:=
 hideAll_get _ e λhm=>by have q:(H b).isSome=true:=(U4.mp hm).2;rw[n]at q;simp at q
theorem As(e:(FI h H).get? b=some o):h.get? b=some o/\H b=none:=by
 have e':h.get? b=some o:=of_hideAll (oO h H) e;refine⟨e',?_⟩;cases q:H b with
 |none=>rfl|some x =>have hm:b∈oO h H:=U4.mpr ⟨Wi.mpr (UB e'),by simp[q]⟩;have z:(FI h H).get? b=none:=hideAll_none (oO h H) hm;rw[z]at e;cases e
def Au(g h:Heap)(L:Addr):List (Addr×Obj):=(List.range h.objs.size).filterMap λa=>if a=L\/(g.get? a).isSome=true then none else (h.get? a).map λo=>(a,o)
def rest(g h:Heap)(L d:Addr):List (Addr×Obj):=(Au g h L).filter λp=>decide (p.1≠d)
structure Mod(K:Frag)(mg:Xa)(base:Heap):Prop where
 kin:K.In base
 glob:base.Ns mainGlobals mg
 blt:∃mb,base.Ns builtinsNs mb/\∀x:Str,x ≠"__name__"->mb x=bootBuiltins x
 nolimit:base.NoLimit
/-- the context: a def's body (or a comprehension's block) running. base: fixed through the whole law;s₀,H₀: the entry;outer: the frames whose slots others may change (a def's callers);stack: all frames that run;
   ex: iterators that were made ahead of the entry and are walked here (a comprehension's);fn: the names whose cells were made at the entry (a def: all;a comprehension's block: its own);calm: not within an except suite;pn: pins that every state bears;xe: what is wanted of an exception that leaves the code -/
structure Cx where
 prog:Program
 w:World
 K:Frag
 mg:Str->Option Value
 base:Heap
 A:Around
 N:List Str
 s₀:Shared
 H₀:Hp
 env:Env
 outer:List Env
 stack:List Env
 ex:List Addr
 fn:Str->Bool
 calm:Bool
 pn:List (Addr×Obj)
 xe:Value->Shared->Prop
def MP(l:List Env):List Addr:=l.filterMap (·.frame)
abbrev Cx.fs(X:Cx):List Addr:=MP X.outer
def jE(sc:Scope)(x:Str):Prop:=sc.names.lookup x=some .local\/sc.names.lookup x=some .cell\/sc.names.lookup x=some .free
def Loc(sc:Scope)(x:Str):Prop:=sc.names.lookup x=some .local\/sc.names.lookup x=some .cell
def pN(env:Env)(h:Heap)(m:Xa)(x:Str)(u:Value):Prop:=(env.kindOf x=some .local/\m x=some u)\/((env.kindOf x=some .cell\/env.kindOf x=some .free)/\∃c,env.cells.lookup x=some c/\h.IsCell c (some u))
structure Cx.Ok(X:Cx):Prop where
 mod:Mod X.K X.mg X.base
 kind:X.env.scope.kind=.function
 glob:X.env.globals=mainGlobals
 blt:X.env.builtins=builtinsNs
 above:X.s₀.heap.objs.size<=X.env.locals
 inj:∀x y c,X.env.cells.lookup x=some c->X.env.cells.lookup y=some c->x=y
 has:∀x,(X.env.kindOf x=some .cell\/X.env.kindOf x=some .free)->∃c,X.env.cells.lookup x=some c
 cab:∀x c,X.fn x=true->X.env.cells.lookup x=some c->X.s₀.heap.objs.size<=c
 hd:X.calm=true->X.A.handled=none
 frames:X.A.frames=some X.stack
 stk:X.stack=X.outer\/(X.stack=X.env::X.outer/\X.env.frame=some X.env.locals)
 exf:∀b∈X.ex,b≠X.env.locals/\∀x c,X.env.cells.lookup x=some c->c≠b
 bs:∀b o,X.base.get? b=some o->X.s₀.heap.get? b=some o/\X.H₀ b=none
 bsz:X.base.objs.size<=X.s₀.heap.objs.size
 noex:∀b o,X.base.get? b=some o->b∉X.ex
 exfs:∀b∈X.ex,b∉X.fs
 funs:X.s₀.heap.FunFrames X.base X.outer
 frf:∀b∈X.fs,X.H₀ b=none
structure Inv(X:Cx)(pins:YM)(σ:List (Option V))(H:Hp)(s:Shared):Prop where
 ok:X.Ok
 os:s.os=X.s₀.os
 bare:AllBare s.gens
 base:Un X.fs X.ex X.H₀ H X.s₀.heap s.heap
 loc:∃m,s.heap.Ns X.env.locals m/\∀(i:Nat)(x:Str)(v:V),X.N[i]?=some x->σ[i]?=some (some v)->jE X.env.scope x->∃u,RelV v u/\pN X.env s.heap m x u
 cell:∀x c,X.env.cells.lookup x=some c->∃v,s.heap.IsCell c v
 free:H X.env.locals=none
 freeC:∀x c,X.env.cells.lookup x=some c->H c=none
 pin:∀p∈X.pn++pins,s.heap.get? p.1=some p.2/\H p.1=none/\p.1≠X.env.locals/\p.1∉X.fs/\∀v,p.2.data≠.cell v
 hok:HOk X.prog X.w H s.heap
 len:σ.length=X.N.length
section
variable{X:Cx}{pins:YM}{σ:List (Option V)}{H H':Hp}{s:Shared}{h':Heap}
theorem Cx.Ok.nofr(ok:X.Ok){b:Addr}{o:Obj}(e:X.base.get? b=some o):b∉X.fs:=λhb=>by have:=(ok.funs.mem hb).1;rw[e]at this;cases this
theorem Inv.bs(I:Inv X pins σ H s):∀b o,X.base.get? b=some o->s.heap.get? b=some o/\H b=none:=λb o e=>
 ⟨I.base.keep b o (I.ok.bs b o e).1 (I.ok.bs b o e).2 (I.ok.nofr e) (I.ok.noex b o e),I.base.free b o (I.ok.bs b o e).1 (I.ok.bs b o e).2 (I.ok.noex b o e)⟩
theorem Inv.bk(I:Inv X pins σ H s):∀b o,X.base.get? b=some o->s.heap.get? b=some o:=λb o e=>(I.bs b o e).1
theorem Inv.mod(I:Inv X pins σ H s):Mod X.K X.mg X.base:=I.ok.mod
theorem Inv.kIn(I:Inv X pins σ H s):X.K.In s.heap:=I.ok.mod.kin.keeps I.bk
theorem Inv.lt(I:Inv X pins σ H s):X.env.locals<s.heap.objs.size:=let ⟨_,hn,_⟩:=I.loc;hn.lt
theorem Inv.sz(I:Inv X pins σ H s):X.s₀.heap.objs.size<=s.heap.objs.size:=Uk I.ok.above (Rf I.lt)
theorem Inv.nofs(I:Inv X pins σ H s)(h:s.heap.objs.size<=a):a∉X.fs:=λhb=>by obtain⟨_,o,ho,_⟩:=I.ok.funs.mem hb;exact absurd (UA (UB ho) (Uk I.sz h)) (TL _)
theorem Inv.cne(I:Inv X pins σ H s):∀x c,X.env.cells.lookup x=some c->c≠X.env.locals:=λx c e z=>by obtain⟨v,o,ho,hd⟩:=I.cell x c e;obtain⟨m,⟨o',es,ep,ho',hd',_⟩,_⟩:=I.loc;rw[z,ho']at ho;cases ho;rw[hd']at hd;cases hd
theorem Inv.funs(I:Inv X pins σ H s):s.heap.FunFrames X.base X.outer:=by
 have all:∀(l:List Env),(∀b∈MP l,b∈X.fs)->X.s₀.heap.FunFrames X.base l->s.heap.FunFrames X.base l:=by
  intro l;induction l with
  |nil=>intro _ _;trivial|cons env r ih =>intro hs hl;obtain⟨hk,⟨L,o,hf,hn,ho,hd⟩,hr⟩:=hl;have hL:L∈X.fs:=hs L (by unfold MP;rw[RL,hf];exact Uy);obtain⟨sl,e⟩:=I.base.slot L o ho (I.ok.frf L hL) hL λz=>I.ok.exfs L z hL;exact⟨hk,⟨L,_,hf,hn,e,hd⟩,ih (λb hb=>hs b (by unfold MP;rw[RL,hf];exact Uz _ hb)) hr⟩
 exact all X.outer (λ_ hb=>hb) I.ok.funs
theorem Inv.stack(I:Inv X pins σ H s):s.heap.FunFrames X.base X.stack:=by
 rcases I.ok.stk with e|⟨e,hf⟩
 ·rw[e];exact I.funs
 ·rw[e];obtain⟨m,hn,_⟩:=I.loc;refine .cons (by rw[I.ok.kind];decide) hf hn ?_ I.funs;exact Heap.get?_none_of_le (Uk I.ok.bsz I.ok.above)
theorem Inv.stkSub(I:Inv X pins σ H s):∀b∈MP X.stack,b∈X.env.locals::X.fs:=λb hb=>by
 rcases I.ok.stk with e|⟨e,hf⟩
 ·rw[e]at hb;exact Uz _ hb
 ·rw[e]at hb;unfold MP at hb;rw[RL,hf]at hb;exact hb
theorem Inv.stkFree(I:Inv X pins σ H s):∀b∈MP X.stack,H b=none:=λb hb=>by
 rcases UG.mp (I.stkSub b hb) with e|hb
 ·rw[e];exact I.free
 ·obtain⟨_,o,ho,_⟩:=I.ok.funs.mem hb;exact I.base.free b o ho (I.ok.frf b hb) λz=>I.ok.exfs b z hb
theorem Inv.step{g':Array GenState}{t':Nat}{d':Drawn}{ch:List Addr}(I:Inv X pins σ H s)(hch:∀b∈ch,(b∈X.ex\/X.s₀.heap.objs.size<=b)/\b≠X.env.locals/\(∀x c,X.env.cells.lookup x=some c->c≠b)/\∀p∈X.pn++pins,p.1≠b)(keep:∀b o,b≠X.env.locals->b∉X.fs->b∉ch->s.heap.get? b=some o->H b=none->h'.get? b=some o)(slot:∀b o,b≠X.env.locals->b∈X.fs->b∉ch->s.heap.get? b=some o->H b=none->∃sl,h'.get? b=some {o with slots:=sl})(free:∀b o,b∉ch->s.heap.get? b=some o->H b=none->H' b=none)(there:∀b o,b∉ch->s.heap.get? b=some o->∃o',h'.get? b=some o')(tups:∀b xs,H b=some (.tup xs)->H' b=some (.tup xs))(frzs:∀b o u,H b=some (.frz o u)->H' b=some (.frz o u))(tbls:∀b ps,H b=some (.tbl ps)->∃more,H' b=some (.tbl (ps++more)))(ns:∀m,s.heap.Ns X.env.locals m->h'.Ns X.env.locals m)(hok:HOk X.prog X.w H' h')(hg:AllBare g'):
  Inv X pins σ H' {s with heap:=h',gens:=g',drawn:=d',toks:=t'}:=by
 have neL:∀b o,X.s₀.heap.get? b=some o->b≠X.env.locals:=λb o e=>UY (UA (UB e) I.ok.above);have neC:∀b o,X.s₀.heap.get? b=some o->b∉X.ex->b∉ch:=λb o e hx hb=>by
  rcases(hch b hb).1 with z|z
  ·exact hx z
  ·exact absurd (UA (UB e) z) (TL _)
 have cellK:∀x c,X.env.cells.lookup x=some c->∀v,s.heap.IsCell c v->h'.IsCell c v:=λx c e v ⟨o,ho,hd⟩=>by
  have nch:c∉ch:=λz=>(hch c z).2.2.1 x c e rfl;by_cases hc:c∈X.fs
  ·obtain⟨sl,q⟩:=slot c o (I.cne x c e) hc nch ho (I.freeC x c e);exact⟨_,q,hd⟩
  ·exact⟨o,keep c o (I.cne x c e) hc nch ho (I.freeC x c e),hd⟩
 refine⟨I.ok,I.os,hg,⟨λb o e n hb hx=>?_,λb o e n hb hx=>?_,λb o e n hx=>?_,λb o e hx=>?_,λb xs e=>tups b xs (I.base.tups b xs e),λb o xs e=>frzs b o xs (I.base.frzs b o xs e),λb ps e=>?_⟩,?_,λx c e=>?_,?_,λx c e=>?_,λp hp=>?_,hok,I.len⟩
 ·exact keep b o (neL b o e) hb (neC b o e hx) (I.base.keep b o e n hb hx) (I.base.free b o e n hx)
 ·obtain⟨sl,e1⟩:=I.base.slot b o e n hb hx;obtain⟨sl',e2⟩:=slot b _ (neL b o e) hb (neC b o e hx) e1 (I.base.free b o e n hx);exact⟨sl',e2⟩
 ·obtain⟨o',e1⟩:=I.base.there b o e hx;exact free b o' (neC b o e hx) e1 (I.base.free b o e n hx)
 ·obtain⟨o',e1⟩:=I.base.there b o e hx;exact there b o' (neC b o e hx) e1
 ·obtain⟨m1,e1⟩:=I.base.tbls b ps e;obtain⟨m2,e2⟩:=tbls b _ e1;exact⟨m1++m2,by rw[e2,Array.append_assoc]⟩
 ·obtain⟨m,hn,hl⟩:=I.loc;refine⟨m,ns m hn,λi x v e1 e2 e3=>?_⟩;obtain⟨u,r,l⟩:=hl i x v e1 e2 e3;refine⟨u,r,?_⟩;rcases l with l|⟨k,c,e,z⟩
  ·exact .inl l
  ·exact .inr ⟨k,c,e,cellK x c e _ z⟩
 ·obtain⟨v,z⟩:=I.cell x c e;exact⟨v,cellK x c e v z⟩
 ·obtain⟨m,⟨o,_,_,ho,_⟩,_⟩:=I.loc;exact free _ o (λz=>(hch _ z).2.1 rfl) ho I.free
 ·obtain⟨v,o,ho,hd⟩:=I.cell x c e;exact free c o (λz=>(hch c z).2.2.1 x c e rfl) ho (I.freeC x c e)
 ·obtain⟨e,n,ne,nf,d⟩:=I.pin p hp;have nch:p.1∉ch:=λz=>(hch p.1 z).2.2.2 p hp rfl;exact⟨keep p.1 p.2 ne nf nch e n,free p.1 p.2 nch e n,ne,nf,d⟩
theorem Inv.un(I:Inv X pins σ H s)(u:Un X.fs [] H H' s.heap h')(hok:HOk X.prog X.w H' h'):Inv X pins σ H' {s with heap:=h',toks:=t'}:=by obtain⟨m,⟨o,es,ep,ho,r⟩,_⟩:=id I.loc;obtain⟨sl,hL⟩:=u.any ho I.free (by simp);exact I.step (g':=s.gens) (d':=s.drawn) (ch:=[]) (λ_ z=>nomatch z) (λb o _ hb _ e n=>u.keep b o e n hb (by simp)) (λb o _ hb _ e n=>u.slot b o e n hb (by simp)) (λb o _ e n=>u.free b o e n (by simp)) (λb o _ e=>u.there b o e (by simp)) u.tups u.frzs u.tbls (λm' hm=>by obtain⟨o',es',ep',ho',r'⟩:=hm;rw[ho]at ho';cases ho';exact⟨_,es',ep',hL,r'⟩) hok I.bare
theorem Inv.call{g':Array GenState}{t':Nat}{d':Drawn}{ch:List Addr}(I:Inv X pins σ H s)(u:Un (MP X.stack) ch H H' s.heap h')(hok:HOk X.prog X.w H' h')(hg:AllBare g')(hch:∀b∈ch,(b∈X.ex\/X.s₀.heap.objs.size<=b)/\b≠X.env.locals/\(∀x c,X.env.cells.lookup x=some c->c≠b)/\∀p∈X.pn++pins,p.1≠b):
  Inv X pins σ H' {s with heap:=h',gens:=g',drawn:=d',toks:=t'}:=by
 obtain⟨m,⟨o,es,ep,ho,r⟩,_⟩:=id I.loc;obtain⟨sl,hL⟩:=u.any ho I.free λz=>(hch _ z).2.1 rfl;exact I.step (ch:=ch) hch (λb o hL hb hc e n=>u.keep b o e n (λz=>(UG.mp (I.stkSub b z)).elim hL hb) hc) (λb o _ _ hc e n=>u.any e n hc) (λb o hc e n=>u.free b o e n hc) (λb o hc e=>u.there b o e hc) u.tups u.frzs u.tbls (λm' hm=>by obtain⟨o',es',ep',ho',r'⟩:=hm;rw[ho]at ho';cases ho';exact⟨_,es',ep',hL,r'⟩) hok hg
theorem Inv.turned{t':Nat}{it:Addr}(I:Inv X pins σ H s)(k:∀b o,b≠it->s.heap.get? b=some o->h'.get? b=some o)(hn:H it=none)(hL:it≠X.env.locals)(h1:it∈X.ex\/X.s₀.heap.objs.size<=it)(h2:∀x c,X.env.cells.lookup x=some c->c≠it)(h3:∀p∈X.pn++pins,p.1≠it):Inv X pins σ H {s with heap:=h',toks:=t'}:=by
 have nit:∀b u,H b=some u->b≠it:=λb u e z=>by rw[z,hn]at e;cases e
 refine I.step (g':=s.gens) (d':=s.drawn) (ch:=[it]) (λb hb=>?_) (λb o _ _ hc e _=>k b o (λz=>hc (by simp[z])) e) (λb o _ _ hc e _=>⟨o.slots,k b o (λz=>hc (by simp[z])) e⟩) (λ_ _ _ _ n=>n)
  (λb o hc e=>⟨o,k b o (λz=>hc (by simp[z])) e⟩) (λ_ _ e=>e) (λ_ _ _ e=>e) (λb ps e=>⟨#[],by rw[e];simp⟩) (λm hm=>?_) (λb u e=>?_) I.bare
 ·have e:b=it:=by simpa using hb
  subst e;exact⟨h1,hL,h2,h3⟩
 ·obtain⟨o,es,ep,ho,r⟩:=hm;exact⟨o,es,ep,k _ o (Ne.symm hL) ho,r⟩
 ·refine(I.hok b u e).stay (λc v hc q=>k c v ?_ q) (λ_ q=>q) λ_ _ q=>q;rcases hc with z|z
  ·rw[z];exact nit b u e
  ·exact nit c _ z
theorem Inv.tok(I:Inv X pins σ H s)(t:Nat):Inv X pins σ H {s with toks:=t}:=I.un (h':=s.heap) (t':=t) Un.refl I.hok
theorem Inv.kept(I:Inv X pins σ H s)(k:∀b u,s.heap.get? b=some u->h'.get? b=some u):Inv X pins σ H {s with heap:=h',toks:=t'}:=I.un (Un.kept k) (I.hok.kept k)
theorem Inv.laid(I:Inv X pins σ H s)(k:∀b u,s.heap.get? b=some u->h'.get? b=some u)(hp:s.heap.objs.size<=a)(new:ObjOk X.prog X.w (Za H a o) h' a o):
  Inv X pins σ (Za H a o) {s with heap:=h',toks:=t'}:=I.un (Un.laid k hp (I.hok.fresh hp)) (I.hok.laid k hp new)
theorem Inv.write{x e:Addr}{o:HO}{t':Nat}(I:Inv X pins σ H s)(mu:jD (H x))(he:e=x\/H e=some (.own x))(k:∀b u,b≠e->s.heap.get? b=some u->h'.get? b=some u)(heo:∃u,h'.get? e=some u)(new:ObjOk X.prog X.w (Za H x o) h' x o):Inv X pins σ (Za H x o) {s with heap:=h',toks:=t'}:=I.un (Un.write mu he k heo) (I.hok.write mu he k heo new)
theorem Inv.pins_of(I:Inv X pins σ H s)(h:∀p∈pins',s.heap.get? p.1=some p.2/\H p.1=none/\p.1≠X.env.locals/\p.1∉X.fs/\∀v,p.2.data≠.cell v):Inv X pins' σ H s:=⟨I.ok,I.os,I.bare,I.base,I.loc,I.cell,I.free,I.freeC,λp hp=>(Ut.mp hp).elim (λz=>I.pin p (Rz _ z)) (h p),I.hok,I.len⟩
theorem GP{N:List Str}(hN:N.Nodup){i j:Nat}{x:Str}(a:N[i]?=some x)(b:N[j]?=some x):i=j:=by obtain⟨h1,e1⟩:=Um.mp a;obtain⟨h2,e2⟩:=Um.mp b;exact(BX hN).mp (e1.trans e2.symm)
theorem MQ{M:Model}{A:Around}{E:VP}{i:Nat}{x:Str}{v:V}{u:Value}{Q:Unit->Shared->Prop}(I:Inv X pins σ H s)(hN:X.N.Nodup)(hi:X.N[i]?=some x)(hx:Loc X.env.scope x)(r:RelV v u)(h:∀s',Inv X pins (σ.set i (some v)) H s'->(∃a,Heap.SameBut a s.heap s'.heap/\(a=X.env.locals\/X.env.cells.lookup x=some a))->Q () s')(hf:X.fn x=true\/X.env.scope.names.lookup x=some .local:=by first|exact .inl rfl|exact .inr rfl|assumption):wpAny M A (storeName X.env x u) Q E s:=by
 obtain⟨m,hn,hl⟩:=id I.loc;have hcls:(X.env.scope.kind==.class||(X.env.scope.kind==.module&&X.env.locals != X.env.globals))=false:=by rw[I.ok.kind];rfl
 have hiσ:i<σ.length:=by rw[I.len];exact(Um.mp hi).1
 have cne:=I.cne;have tracked:∀{a:Addr}{h':Heap},(∃o,s.heap.get? a=some o/\H a=none)->Heap.SameBut a s.heap h'->HOk X.prog X.w H h':=λ{a h'} ha hs b ob e=>by
  obtain⟨_,_,hfree⟩:=ha;refine(I.hok b ob e).stay (λc w' hc q=>(hs.2 c ?_).trans q) (λ_ q=>q) λ_ _ q=>q;rintro rfl;rcases hc with rfl|hc
  ·rw[hfree]at e;cases e
  ·rw[hfree]at hc;cases hc
 rcases hx with hk|hk
 ·refine wpAny_storeName_local hk hn (λh' hn' hs=>?_) hcls;obtain⟨oL,_,_,hoL,_⟩:=id hn;refine h _ ⟨I.ok,I.os,I.bare,⟨λb o e n hb hx=>?_,λb o e n hb hx=>?_,I.base.free,λb o e hx=>?_,I.base.tups,I.base.frzs,I.base.tbls⟩,⟨_,hn',λj y v' e1 e2 e3=>?_⟩,λy c e=>?_,I.free,I.freeC,λp hp=>?_,tracked ⟨oL,hoL,I.free⟩ hs,by simpa using I.len⟩ ⟨_,hs,.inl rfl⟩
  ·exact(hs.2 b (UY (UA (UB e) I.ok.above))).trans (I.base.keep b o e n hb hx)
  ·obtain⟨sl,e1⟩:=I.base.slot b o e n hb hx;exact⟨sl,(hs.2 b (UY (UA (UB e) I.ok.above))).trans e1⟩
  ·obtain⟨o',e1⟩:=I.base.there b o e hx;exact⟨o',(hs.2 b (UY (UA (UB e) I.ok.above))).trans e1⟩
  ·by_cases hj:j=i
   ·subst hj;rw[hi]at e1;cases e1;rw[UT hiσ]at e2;cases e2;exact⟨u,r,.inl ⟨hk,by simp⟩⟩
   ·rw[Ud (Ne.symm hj)]at e2;obtain⟨u',r',q⟩:=hl j y v' e1 e2 e3;refine⟨u',r',?_⟩;rcases q with⟨k,e⟩|⟨k,c,e,z⟩
    ·refine .inl ⟨k,?_⟩;have:y≠x:=λe=>hj (GP hN e1 (e ▸ hi));simp[this,e]
    ·exact .inr ⟨k,c,e,z.sameBut hs (cne y c e)⟩
  ·obtain⟨w',z⟩:=I.cell y c e;exact⟨w',z.sameBut hs (cne y c e)⟩
  ·obtain⟨e,n,ne,nf,d⟩:=I.pin p hp;exact⟨(hs.2 p.1 ne).trans e,n,ne,nf,d⟩
 ·have hfn:X.fn x=true:=by
   rcases hf with z|z
   ·exact z
   ·rw[z]at hk;cases hk
  obtain⟨c,hc⟩:=I.ok.has x (.inl hk);obtain⟨w',z⟩:=I.cell x c hc;refine wpAny_storeName_cell I.ok.kind hk hc z (λh' hc' hs=>?_);obtain⟨oc,hoc,hocd⟩:=id z;refine h {s with heap:=h'} ⟨I.ok,I.os,I.bare,⟨λb o e n hb hx=>?_,λb o e n hb hx=>?_,I.base.free,λb o e hx=>?_,I.base.tups,I.base.frzs,I.base.tbls⟩,⟨m,hn.sameBut hs (Ne.symm (cne x c hc)),λj y v' e1 e2 e3=>?_⟩,λy c' e=>?_,I.free,I.freeC,λp hp=>?_,tracked ⟨oc,hoc,I.freeC x c hc⟩ hs,by simpa using I.len⟩ ⟨c,hs,.inr hc⟩
  ·exact(hs.2 b (UY (UA (UB e) (I.ok.cab x c hfn hc)))).trans (I.base.keep b o e n hb hx)
  ·obtain⟨sl,e1⟩:=I.base.slot b o e n hb hx;exact⟨sl,(hs.2 b (UY (UA (UB e) (I.ok.cab x c hfn hc)))).trans e1⟩
  ·obtain⟨o',e1⟩:=I.base.there b o e hx;exact⟨o',(hs.2 b (UY (UA (UB e) (I.ok.cab x c hfn hc)))).trans e1⟩
  ·by_cases hj:j=i
   ·subst hj;rw[hi]at e1;cases e1;rw[UT hiσ]at e2;cases e2;exact⟨u,r,.inr ⟨.inl hk,c,hc,hc'⟩⟩
   ·rw[Ud (Ne.symm hj)]at e2;obtain⟨u',r',q⟩:=hl j y v' e1 e2 e3;refine⟨u',r',?_⟩;rcases q with q|⟨k,c',e,z'⟩
    ·exact .inl q
    ·refine .inr ⟨k,c',e,z'.sameBut hs ?_⟩;rintro rfl;exact hj (GP hN e1 (I.ok.inj _ _ _ e hc ▸ hi))
  ·by_cases hcc:c'=c
   ·subst hcc;exact⟨_,hc'⟩
   ·obtain⟨w2,z2⟩:=I.cell y c' e;exact⟨w2,z2.sameBut hs hcc⟩
  ·obtain⟨e,n,ne,nf,d⟩:=I.pin p hp;refine⟨(hs.2 p.1 ?_).trans e,n,ne,nf,d⟩;intro q;rw[q,hoc]at e;have q':oc=p.2:=Option.some.inj e;exact d w' (by rw[<-q'];exact hocd)
theorem GQ{M:Model}{A:Around}{E:VP}{i:Nat}{x:Str}{v:V}{u:Value}{Q:Unit->Shared->Prop}(I:Inv X pins σ H s)(hN:X.N.Nodup)(hi:X.N[i]?=some x)(hx:Loc X.env.scope x)(r:RelV v u)(h:∀s',Inv X pins (σ.set i (some v)) H s'->Q () s')(hf:X.fn x=true\/X.env.scope.names.lookup x=some .local:=by first|exact .inl rfl|exact .inr rfl|assumption):wpAny M A (storeName X.env x u) Q E s:=MQ I hN hi hx r (λs' I' _=>h s' I') hf
theorem Inv.call'{s':Shared}{ch:List Addr}(I:Inv X pins σ H s)(ho:s'.os=s.os)(u:Un (MP X.stack) ch H H' s.heap s'.heap)(hok:HOk X.prog X.w H' s'.heap)(hg:AllBare s'.gens)(hch:∀b∈ch,(b∈X.ex\/X.s₀.heap.objs.size<=b)/\b≠X.env.locals/\(∀x c,X.env.cells.lookup x=some c->c≠b)/\∀p∈X.pn++pins,p.1≠b):Inv X pins σ H' s':=by obtain⟨h',g',d',t',o'⟩:=s';have e:o'=s.os:=ho;subst e;exact I.call (g':=g') (t':=t') (d':=d') u hok hg hch
end
abbrev XK:=Value->Option Addr->Hp->Prop
abbrev St:=List (Option V)
abbrev VK:=V->Hp->Prop
abbrev TE:=St->Hp->VK->Prop
abbrev TT:=St->Hp->(Bool->Hp->Prop)->Prop
abbrev TA:=St->Hp->(List V->Hp->Prop)->Prop
structure Ends where
 nx:St->Hp->Prop
 rt:VK
 bk:St->Hp->Prop:=λ_ _=>False
 ct:St->Hp->Prop:=λ_ _=>False
abbrev TS:=Ends->St->Hp->Prop
def EP(X:Cx)(pins:YM)(σ:St)(Q:VK)(u:Value)(s':Shared):Prop:=∃v H',Inv X pins σ H' s'/\RelV v u/\Q v H'
def TP(X:Cx)(pins:YM)(σ:St)(Q:Bool->Hp->Prop)(b:Bool)(s':Shared):Prop:=∃H',Inv X pins σ H' s'/\Q b H'
def AP(X:Cx)(pins:YM)(σ:St)(Q:List V->Hp->Prop)(us:List Value)(s':Shared):Prop:=∃vs H',Inv X pins σ H' s'/\Vals vs us/\Q vs H'
def SP(X:Cx)(pins:YM)(D:Ends)(f:Flow)(s':Shared):Prop:=
 match f with
 |.next=>∃σ' H',Inv X pins σ' H' s'/\D.nx σ' H'|.brk=>∃σ' H',Inv X pins σ' H' s'/\D.bk σ' H'|.cont=>∃σ' H',Inv X pins σ' H' s'/\D.ct σ' H'|.ret u=>∃v σ' H',Inv X pins σ' H' s'/\RelV v u/\D.rt v H'
def PE(X:Cx)(e:Expr)(t:TE):Prop:=∀(pins:YM)(s:Shared)(σ:St)(H:Hp)(Q:VK),Inv X pins σ H s->t σ H Q->wpAny (model X.prog X.w) X.A (eval e X.env) (EP X pins σ Q) X.xe s
def PT(X:Cx)(e:Expr)(t:TT):Prop:=∀(pins:YM)(s:Shared)(σ:St)(H:Hp)(Q:Bool->Hp->Prop),Inv X pins σ H s->t σ H Q->wpAny (model X.prog X.w) X.A (isTrue e X.env (eval e X.env)) (TP X pins σ Q) X.xe s
def PW(X:Cx)(e:Expr)(t:TT):Prop:=∀(whole:Sem Value)(pins:YM)(s:Shared)(σ:St)(H:Hp)(Q:Bool->Hp->Prop),Inv X pins σ H s->t σ H Q->wpAny (model X.prog X.w) X.A (isTrue e X.env whole) (TP X pins σ Q) X.xe s
theorem PW.pt(h:PW X e t):PT X e t:=h _
def PA(X:Cx)(es:List Expr)(t:TA):Prop:=∀(pos:Pos)(pins:YM)(s:Shared)(σ:St)(H:Hp)(Q:List V->Hp->Prop),Inv X pins σ H s->t σ H Q->wpAny (model X.prog X.w) X.A (spliced (backTo pos (starEach es X.env))) (AP X pins σ Q) X.xe s
def PS(X:Cx)(st:Stmt)(t:TS):Prop:=∀(pins:YM)(s:Shared)(σ:St)(H:Hp)(D:Ends),Inv X pins σ H s->t D σ H->wpAny (model X.prog X.w) X.A (exec st X.env) (SP X pins D) X.xe s
def Im(X:Cx)(st:List Stmt)(t:TS):Prop:=∀(pins:YM)(s:Shared)(σ:St)(H:Hp)(D:Ends),Inv X pins σ H s->t D σ H->wpAny (model X.prog X.w) X.A (execs st X.env) (SP X pins D) X.xe s
theorem Zx(h:wpAny M A t Q E s)(hQ:∀a s,Q a s->Q' a s):wpAny M A t Q' E s:=Rw h hQ λ_ _ x=>x
section
variable{X:Cx}
def pO(i:Nat):TE:=λσ H Q=>∃v,σ[i]?=some (some v)/\Q v H
def tC(v:V):TE:=λ_ H Q=>Q v H
theorem bW(hN:X.N[i]?=some x)(hv:jE X.env.scope x)(hd:(x==("__debug__" : Str))=false:=by decide)(hcd:(x==("__classdict__" : Str))=false:=by decide):PE X (.Name x pos) (pO i):=by
 intro pins s σ H Q I h;obtain⟨v,e,h⟩:=h;obtain⟨m,hn,hl⟩:=I.loc;obtain⟨u,r,l⟩:=hl i x v hN e hv;have fin:EP X pins σ Q u s:=⟨v,H,I,r,h⟩;rcases l with⟨hk,hm⟩|⟨hk,c,hc,hcell⟩
 ·exact wpAny_Name (wpAny_loadName_local I.ok.kind hk hn hm fin) hd
 ·rcases hk with hk|hk
  ·exact wpAny_Name (wpAny_loadName_cell I.ok.kind hk hc hcell fin) hd
  ·exact wpAny_Name (wpAny_loadName_free I.ok.kind hk hc hcell fin hcd) hd
theorem bX:PE X (.Constant (.int i) j pos) (tC (.int i)):=λ_ _ _ H _ I h=>wpAny_Constant_int ⟨.int i,H,I.tok _,⟨_,rfl⟩,h⟩
theorem jF:PE X (.Constant (.bool b) j pos) (tC (.bl b)):=λ_ _ _ H _ I h=>Constant_bool ⟨.bl b,H,I,rfl,h⟩
theorem bY:PE X (.Constant .none j pos) (tC .non):=λ_ _ _ H _ I h=>Constant_none ⟨.non,H,I,rfl,h⟩
theorem bZ:PE X (.Constant (.str x) j pos) (tC (.str x)):=λ_ _ _ H _ I h=>Calls.Constant_str ⟨.str x,H,I.tok _,⟨_,rfl⟩,h⟩
def Gl(X:Cx)(x:Str):Prop:=X.env.kindOf x=some .globalImplicit
theorem Ci{E:VP}{pins:YM}{s:Shared}{σ:St}{H:Hp}{x:Str}{u:Value}{pos:Pos}{Q:VP}(I:Inv X pins σ H s)(hg:Gl X x)(hm:X.mg x=some u)(h:Q u s)(hd:(x==("__debug__" : Str))=false:=by decide):wpAny (model X.prog X.w) X.A (eval (.Name x pos) X.env) Q E s:=Bo I.ok.kind hg (Calls.loadGlobal_global (by rw[I.ok.glob];exact I.mod.glob.keeps I.bk) hm h) hd
theorem Xc{E:VP}{pins:YM}{s:Shared}{σ:St}{H:Hp}{x:Str}{u:Value}{pos:Pos}{Q:VP}(I:Inv X pins σ H s)(hg:Gl X x)(hm:X.mg x=none)(hv:bootBuiltins x=some u)(h:Q u s)(hn:x ≠"__name__":=by decide)(hd:(x==("__debug__" : Str))=false:=by decide):wpAny (model X.prog X.w) X.A (eval (.Name x pos) X.env) Q E s:=by obtain⟨mb,h1,h2⟩:=I.mod.blt;exact Bo I.ok.kind hg (Calls.loadGlobal_builtin (by rw[I.ok.glob];exact I.mod.glob.keeps I.bk) hm (by rw[I.ok.blt];exact h1.keeps I.bk) ((h2 x hn).trans hv) h) hd
theorem LB(hg:Gl X x)(hm:X.mg x=some u)(r:RelV v u)(hd:(x==("__debug__" : Str))=false:=by decide):PE X (.Name x pos) (tC v):=λ_ _ _ H _ I h=>Ci I hg hm ⟨v,H,I,r,h⟩ hd
theorem FJ(hg:Gl X x)(hm:X.mg x=none)(hv:bootBuiltins x=some u)(r:RelV v u)(hn:x ≠"__name__":=by decide)(hd:(x==("__debug__" : Str))=false:=by decide):PE X (.Name x pos) (tC v):=λ_ _ _ H _ I h=>Xc I hg hm hv ⟨v,H,I,r,h⟩ hn hd
variable{a b:Expr}{ta tb:TE}{pos:Pos}
def tB(t:TE):TT:=λσ H Q=>t σ H λx H1=>∃c,x=.bl c/\Q c H1
theorem cA(h:PE X e t)(he:∀whole,isTrue e X.env whole=(do let v <-whole;standAt e.pos;holding [v] (truthy v)):=by intro _;rfl):PT X e (tB t):=by intro pins s σ H Q I hw;refine isTrue_plain (Zx (h pins s σ H _ I hw) λv s1 ⟨x,H1,I1,r1,q1⟩=>?_) (he _);obtain⟨d,rfl,q⟩:=q1;cases r1;exact Tf ⟨H1,I1,q⟩
variable{tA tB':TT}{rest:List Expr}
def pP(t u:TT):TT:=λσ H Q=>t σ H λc H1=>if c=true then u σ H1 Q else Q false H1
def sZ(t u:TT):TT:=λσ H Q=>t σ H λc H1=>if c=true then Q true H1 else u σ H1 Q
def pQ(t:TT):TT:=λσ H Q=>t σ H λc H1=>Q (!c) H1
theorem Av(ha:PT X a tA):PW X (.BoolOp .And [a] pos) tA:=by
 intro wh pins s σ H Q I h;refine isTrue_and (Zx (ha pins s σ H Q I h) λc s1 e=>?_);cases c with
 |true=>exact isTrue_and_nil e|false=>exact e
theorem cB(ha:PT X a tA):PW X (.BoolOp .Or [a] pos) tA:=by
 intro wh pins s σ H Q I h;refine isTrue_or (Zx (ha pins s σ H Q I h) λc s1 e=>?_);cases c with
 |false=>exact isTrue_or_nil e|true=>exact e
theorem cC(ha:PT X a tA)(hb:PW X (.BoolOp .And (b::rest) pos) tB'):PW X (.BoolOp .And (a::b::rest) pos) (pP tA tB'):=by
 intro wh pins s σ H Q I h;refine isTrue_and (Zx (ha pins s σ H _ I h) λc s1 ⟨H1,I1,q1⟩=>?_);cases c with
 |true=>exact hb wh pins s1 σ H1 Q I1 q1|false=>exact⟨H1,I1,q1⟩
theorem jG(ha:PT X a tA)(hb:PW X (.BoolOp .Or (b::rest) pos) tB'):PW X (.BoolOp .Or (a::b::rest) pos) (sZ tA tB'):=by
 intro wh pins s σ H Q I h;refine isTrue_or (Zx (ha pins s σ H _ I h) λc s1 ⟨H1,I1,q1⟩=>?_);cases c with
 |true=>exact⟨H1,I1,q1⟩|false=>exact hb wh pins s1 σ H1 Q I1 q1
theorem cD(ha:PT X a tA):PT X (.UnaryOp .Not a pos) (pQ tA):=by intro pins s σ H Q I h;exact isTrue_not (ha pins s σ H (λc H1=>Q (!c) H1) I h)
def jH(ta tb:TE):TE:=λσ H Q=>ta σ H λx H1=>∃c,x=.bl c/\if c=true then tb σ H1 Q else Q (.bl false) H1
def pR(ta tb:TE):TE:=λσ H Q=>ta σ H λx H1=>∃c,x=.bl c/\if c=true then Q (.bl true) H1 else tb σ H1 Q
def jI(ta:TE):TE:=λσ H Q=>ta σ H λx H1=>∃c,x=.bl c/\Q (.bl (!c)) H1
theorem cE(h:PE X a t):PE X (.BoolOp op [a] pos) t:=λpins s σ H Q I hw=>BoolOp_one (h pins s σ H Q I hw)
theorem cF(ha:PE X a ta)(hb:PE X (.BoolOp .And (b::rest) pos) tb):PE X (.BoolOp .And (a::b::rest) pos) (jH ta tb):=by
 intro pins s σ H Q I h;refine BoolOp_and (Zx (ha pins s σ H _ I h) λv s1 ⟨x,H1,I1,r1,q1⟩=>?_);obtain⟨c,rfl,q1⟩:=q1;cases r1;refine Tf ?_;cases c with
 |true=>exact hb pins s1 σ H1 Q I1 q1|false=>exact⟨.bl false,H1,I1,rfl,q1⟩
theorem jJ(ha:PE X a ta)(hb:PE X (.BoolOp .Or (b::rest) pos) tb):PE X (.BoolOp .Or (a::b::rest) pos) (pR ta tb):=by
 intro pins s σ H Q I h;refine BoolOp_or (Zx (ha pins s σ H _ I h) λv s1 ⟨x,H1,I1,r1,q1⟩=>?_);obtain⟨c,rfl,q1⟩:=q1;cases r1;refine Tf ?_;cases c with
 |false=>exact hb pins s1 σ H1 Q I1 q1|true=>exact⟨.bl true,H1,I1,rfl,q1⟩
theorem cG(ha:PE X a ta):PE X (.UnaryOp .Not a pos) (jI ta):=by intro pins s σ H Q I h;refine UnaryOp_ (Zx (ha pins s σ H _ I h) λv s1 ⟨x,H1,I1,r1,q1⟩=>?_);obtain⟨c,rfl,q1⟩:=q1;cases r1;exact not_of (Tf ⟨.bl (!c),H1,I1,rfl,q1⟩)
def tD(t:TT)(ta tb:TE):TE:=λσ H Q=>t σ H λc H1=>if c=true then ta σ H1 Q else tb σ H1 Q
theorem Ou(hc:PT X c tA)(ha:PE X a ta)(hb:PE X b tb):PE X (.IfExp c a b pos) (tD tA ta tb):=by
 intro pins s σ H Q I h;refine wpAny_IfExp (Zx (hc pins s σ H _ I h) λd s1 ⟨H1,I1,q1⟩=>?_);cases d with
 |true=>exact ha pins s1 σ H1 Q I1 q1|false=>exact hb pins s1 σ H1 Q I1 q1
end
def SqL(K:Frag)(H:Hp)(a:Addr)(xs:List V):Prop:=Rd H a (.lst xs)\/∃(o:Obj)(its:Array Value)(n:Nat),K.lookup a=some o/\o.cls=.type "list"/\o.dict=none/\o.data=.seq its n/\its.size<=sizeLine/\Vals xs its.toList
def SqT(K:Frag)(H:Hp)(a:Addr)(xs:List V):Prop:=Rd H a (.tup xs)\/∃(o:Obj)(its:Array Value)(n:Nat),K.lookup a=some o/\o.cls=.type "tuple"/\o.data=.seq its n/\its.size<=sizeLine/\Vals xs its.toList
def pS:Value->Option V
 |.none=>some .non|.bool b=>some (.bl b)|.int i _=>some (.int i)|.str x _=>some (.str x)|.bytes b _=>some (.byt b)|.float b _=>some (.flt b)|.ref a=>some (.ref a)|.type n=>some (.ty n)|_=>none
theorem RelV.abs(r:RelV x u):pS u=some x:=by
 cases x with
 |non=>cases r;rfl|bl _=>cases r;rfl|int _=>obtain⟨t,rfl⟩:=r;rfl|str _=>obtain⟨t,rfl⟩:=r;rfl|byt _=>obtain⟨t,rfl⟩:=r;rfl|flt _=>obtain⟨t,rfl⟩:=r;rfl|ref _=>cases r;rfl|ty _=>cases r;rfl
theorem RelV.inj(r:RelV x u)(q:RelV y u):x=y:=Option.some.inj (r.abs.symm.trans q.abs)
theorem Vals.inj:∀{xs ys:List V}{us:List Value},Vals xs us->Vals ys us->xs=ys
 |_,_,_,.nil,.nil=>rfl|_,_,_,.cons r t,.cons r' t'=>by rw[r.inj r',Vals.inj t t']
theorem SqL.of{K:Frag}(h:H a=some (.lst xs)):SqL K H a xs:=.inl (.inl h)
theorem SqT.of{K:Frag}(h:H a=some (.tup xs)):SqT K H a xs:=.inl (.inl h)
theorem Inv.list(I:Inv X pins σ H s)(h:SqL X.K H a xs):∃its:List Value,Vals xs its/\PlainL s.heap a its.toArray/\xs.length<=sizeLine:=by
 rcases h with h|⟨o,its,n,hk,hc,hd,hs,hz,r⟩
 ·obtain⟨z,its,n,r,e⟩:=h.ok I.hok;exact⟨its,r,⟨_,n,e,rfl,rfl,rfl⟩,z⟩
 ·refine⟨its.toList,r,⟨o,n,I.kIn a o hk,hc,hd,by simpa using hs⟩,?_⟩;have e:=r.length;simp only[Uo]at e;omega
theorem Inv.tuple(I:Inv X pins σ H s)(h:SqT X.K H a xs):∃its:List Value,Vals xs its/\IsTup s.heap a its.toArray/\xs.length<=sizeLine:=by
 rcases h with h|⟨o,its,n,hk,hc,hs,hz,r⟩
 ·obtain⟨z,its,r,p⟩:=h.ok I.hok;exact⟨its,r,p,z⟩
 ·refine⟨its.toList,r,⟨o,I.kIn a o hk,hc,n,by simpa using hs⟩,?_⟩;have e:=r.length;simp only[Uo]at e;omega
theorem Inv.list_inj(I:Inv X pins σ H s)(h:SqL X.K H a xs)(h':SqL X.K H a ys):xs=ys:=by
 obtain⟨its,r,⟨o,n,e,_,_,d⟩,_⟩:=I.list h;obtain⟨its',r',⟨o',n',e',_,_,d'⟩,_⟩:=I.list h';rw[e]at e';cases e';rw[d]at d';injection d' with d1 _;have:its=its':=by simpa using TY Array.toList d1
 subst this;exact r.inj r'
theorem Inv.tuple_inj(I:Inv X pins σ H s)(h:SqT X.K H a xs)(h':SqT X.K H a ys):xs=ys:=by
 obtain⟨its,r,⟨o,e,_,n,d⟩,_⟩:=I.tuple h;obtain⟨its',r',⟨o',e',_,n',d'⟩,_⟩:=I.tuple h';rw[e]at e';cases e';rw[d]at d';injection d' with d1 _;have:its=its':=by simpa using TY Array.toList d1
 subst this;exact r.inj r'
abbrev Cx.wish(X:Cx)(E:VP):Cx:={X with xe:=E}
abbrev Cx.nox(X:Cx):Cx:=X.wish λ_ _=>False
theorem Cx.Ok.wish{X:Cx}(ok:X.Ok)(E:VP):(X.wish E).Ok:=⟨ok.mod,ok.kind,ok.glob,ok.blt,ok.above,ok.inj,ok.has,ok.cab,ok.hd,ok.frames,ok.stk,ok.exf,ok.bs,ok.bsz,ok.noex,ok.exfs,ok.funs,ok.frf⟩
theorem Cx.Ok.unwish{X:Cx}{E:VP}(ok:(X.wish E).Ok):X.Ok:=⟨ok.mod,ok.kind,ok.glob,ok.blt,ok.above,ok.inj,ok.has,ok.cab,ok.hd,ok.frames,ok.stk,ok.exf,ok.bs,ok.bsz,ok.noex,ok.exfs,ok.funs,ok.frf⟩
section
variable{X:Cx}{pins:YM}{σ:St}{H:Hp}{s:Shared}{E:VP}
theorem Inv.wish(I:Inv X pins σ H s)(E:VP):Inv (X.wish E) pins σ H s:=⟨I.ok.wish E,I.os,I.bare,I.base,I.loc,I.cell,I.free,I.freeC,I.pin,I.hok,I.len⟩
theorem Inv.unwish(I:Inv (X.wish E) pins σ H s):Inv X pins σ H s:=⟨I.ok.unwish,I.os,I.bare,I.base,I.loc,I.cell,I.free,I.freeC,I.pin,I.hok,I.len⟩
theorem SP.unwish(h:SP (X.wish E) pins D f s'):SP X pins D f s':=by
 cases f with
 |next=>obtain⟨σ',H',I,q⟩:=h;exact⟨σ',H',I.unwish,q⟩|brk=>obtain⟨σ',H',I,q⟩:=h;exact⟨σ',H',I.unwish,q⟩|cont=>obtain⟨σ',H',I,q⟩:=h;exact⟨σ',H',I.unwish,q⟩|ret u=>obtain⟨v,σ',H',I,r,q⟩:=h;exact⟨v,σ',H',I.unwish,r,q⟩
end
section
variable{X:Cx}{st:Stmt}{rest:List Stmt}{t u:TS}{e:Expr}{te:TE}{pos:Pos}
def jK:TS:=λD σ H=>D.nx σ H
def jL(t u:TS):TS:=λD σ H=>t {D with nx:=u D} σ H
theorem Aw:Im X [] jK:=λ_ _ σ H _ I h=>Be ⟨σ,H,I,h⟩
theorem Ov(h1:PS X st t)(h2:Im X rest u):Im X (st::rest) (jL t u):=by
 intro pins s σ H D I h;refine wpAny_execs_cons (Zx (h1 pins s σ H {D with nx:=u D} I h) λf s1 q=>?_);cases f with
 |next =>obtain⟨σ',H',I',q⟩:=q;exact h2 pins s1 σ' H' D I' q|ret v=>exact q|brk=>exact q|cont=>exact q
theorem Ax(h1:PS X st t):Im X [st] t:=by
 intro pins s σ H D I h;refine wpAny_execs_cons (Zx (h1 pins s σ H D I h) λf s1 q=>?_);cases f with
 |next=>exact Be q|ret v=>exact q|brk=>exact q|cont=>exact q
def jM:TS:=λD σ H=>D.ct σ H
theorem GR:PS X (.Continue pos) jM:=λ_ _ σ H _ I h=>wpAny_Continue ⟨σ,H,I,h⟩
theorem Inv.quiet(I:Inv X pins σ H s):interactive X.env=false:=by simp[interactive,I.ok.kind]
def jN(te:TE):TS:=λD σ H=>te σ H λ_ H1=>D.nx σ H1
theorem Ay(he:PE X e te)(hs:swapsWith e none pos.line X.env=pure false:=by rfl):PS X (.Expr e pos) (jN te):=by intro pins s σ H D I h;exact wpAny_Expr_any (Zx (he pins s σ H _ I h) λv s1 ⟨x,H1,I1,r1,q1⟩=>⟨σ,H1,I1,q1⟩) I.quiet hs
def pT(te:TE):TS:=λD σ H=>te σ H D.rt
theorem cH(he:PE X e te):PS X (.Return (some e) pos) (pT te):=by intro pins s σ H D I h;exact wpAny_Return_some (Zx (he pins s σ H _ I h) λv s1 ⟨x,H1,I1,r1,q1⟩=>⟨x,σ,H1,I1,r1,q1⟩)
def jO:TS:=λD _ H=>D.rt .non H
theorem Az:PS X (.Return none pos) jO:=λ_ _ σ H _ I h=>wpAny_Return_none ⟨.non,σ,H,I,rfl,h⟩
def pU(c:TT)(t u:TS):TS:=λD σ H=>c σ H λb H1=>if b=true then t D σ H1 else u D σ H1
theorem jP(hc:PT X c tc)(ha:Im X a t)(hb:Im X b u):PS X (.If c a b pos) (pU tc t u):=by
 intro pins s σ H D I h;refine wpAny_If (Zx (hc pins s σ H _ I h) λd s1 ⟨H1,I1,q1⟩=>?_);cases d with
 |true=>exact ha pins s1 σ H1 D I1 q1|false=>exact hb pins s1 σ H1 D I1 q1
def Ow:TS:=λ_ _ _=>False
theorem Ox:PS X st Ow:=λ_ _ _ _ _ _ h=>h.elim
theorem MR:Im X sts Ow:=λ_ _ _ _ _ _ h=>h.elim
end
abbrev TG:=V->St->Hp->(St->Hp->Prop)->Prop
abbrev aQ:=List V->St->Hp->(St->Hp->Prop)->Prop
def PG(X:Cx)(target:Expr)(t:TG):Prop:=∀(pins:YM)(s:Shared)(σ:St)(H:Hp)(v:V)(u:Value)(Q:St->Hp->Prop),Inv X pins σ H s->RelV v u->t v σ H Q->wpAny (model X.prog X.w) X.A (assign target X.env u) (λ_ s'=>∃σ' H',Inv X pins σ' H' s'/\Q σ' H') X.xe s
def cI(X:Cx)(ts:List Expr)(t:aQ):Prop:=∀(pins:YM)(s:Shared)(σ:St)(H:Hp)(vs:List V)(us:List Value)(Q:St->Hp->Prop),Inv X pins σ H s->Vals vs us->t vs σ H Q->wpAny (model X.prog X.w) X.A (assignInOrder ((assignEach ts X.env).map (·.2)) us) (λ_ s'=>∃σ' H',Inv X pins σ' H' s'/\Q σ' H') X.xe s
abbrev cJ:=V->V->V->Hp->(Hp->Prop)->Prop
def AA(X:Cx)(t:cJ):Prop:=∀(pins:YM)(s:Shared)(σ:St)(H:Hp)(o i v:V)(ov iv u:Value)(Q:Hp->Prop),Inv X pins σ H s->RelV o ov->RelV i iv->RelV v u->t o i v H Q->wpAny (model X.prog X.w) X.A (setItem ov iv u) (λ_ s'=>∃H',Inv X pins σ H' s'/\Q H') X.xe s
def aR(i:Nat):TG:=λv σ H Q=>Q (σ.set i (some v)) H
theorem AB(hN:X.N.Nodup)(hi:X.N[i]?=some x)(hx:Loc X.env.scope x)(hf:X.fn x=true\/X.env.scope.names.lookup x=some .local:=by first|exact .inl rfl|exact .inr rfl|assumption):PG X (.Name x pos) (aR i):=by intro pins s σ H v u Q I r h;exact wpAny_assign_Name (GQ I hN hi hx r (λs' I'=>⟨_,H,I',h⟩) hf)
def pV:aQ:=λvs σ H Q=>vs=[]/\Q σ H
def jQ(t:TG)(u:aQ):aQ:=λvs σ H Q=>∃v r,vs=v::r/\t v σ H λσ' H'=>u r σ' H' Q
theorem AC:cI X [] pV:=by intro pins s σ H vs us Q I r h;obtain⟨e,h⟩:=h;subst e;cases r;exact assignInOrder_nil ⟨σ,H,I,h⟩
theorem Oy{e:Expr}{es:List Expr}{t:TG}{u:aQ}(h1:PG X e t)(h2:cI X es u)(hs:(assignEach (e::es) X.env).map (·.2)=assign e X.env::(assignEach es X.env).map (·.2):=by rfl):cI X (e::es) (jQ t u):=by
 intro pins s σ H vs us Q I r h;obtain⟨v,vr,e1,h⟩:=h;subst e1;cases r with
 |cons r rr =>rw[hs];refine assignInOrder_cons (Zx (h1 pins s σ H _ _ _ I r h) λ_ s1 ⟨σ1,H1,I1,q1⟩=>?_);exact h2 pins s1 σ1 H1 _ _ Q I1 rr q1
def pW(K:Frag)(n:Nat)(t:aQ):TG:=λv σ H Q=>∃a xs,v=.ref a/\SqT K H a xs/\xs.length=n/\t xs σ H Q
theorem cK{es:List Expr}{k:Nat}{t:aQ}{n:Nat}(hc:X.calm=true)(h:cI X es t)(hn:(assignEach es X.env).length=n:=by rfl)(hst:(assignEach es X.env).findIdx? (·.1)=none:=by rfl):PG X (.Tuple es k pos) (pW X.K n t):=by intro pins s σ H v u Q I r hw;obtain⟨a,xs,e1,hq,hl,hw⟩:=hw;subst e1;cases r;obtain⟨its,rv,ht,hz⟩:=I.tuple hq;refine assign_Tuple_tuple (I.ok.hd hc) ht (by simp[hn,<-hl,rv.length]) hst λh' hx=>?_;have I1:Inv X pins σ H {s with heap:=h'}:=I.kept (t':=s.toks) λb o e=>hx b o (UY (UB e)) e;exact h pins _ σ H xs _ Q I1 (by simpa using rv) hw
def pX(to ti:TE)(t:cJ):TG:=λv σ H Q=>to σ H λo H1=>ti σ H1 λi H2=>t o i v H2 λH3=>Q σ H3
theorem Io{o i:Expr}{to ti:TE}{t:cJ}(ho:PE X o to)(hi:PE X i ti)(hs:AA X t)(ha:∀v,assign (.Subscript o i pos) X.env v=(do
   let ov <-holding [v] (eval o X.env)
   let iv <-holding [v,ov] (eval i X.env)
   standAt pos
   holding [v,ov,iv] (setItem ov iv v)
   release [v,ov,iv] []):=by intro _;rfl):PG X (.Subscript o i pos) (pX to ti t):=by
 intro pins s σ H v u Q I r h;rw[ha];refine Ua (Tt (Zx (ho pins s σ H _ I h) λov s1 ⟨x,H1,I1,r1,q1⟩=>?_));refine Ua (Tt (Zx (hi pins s1 σ H1 _ I1 q1) λiv s2 ⟨y,H2,I2,r2,q2⟩=>?_));refine Ua (wpAny_standAt (Ua (Tt (Zx (hs pins s2 σ H2 x y v ov iv u _ I2 r1 r2 r q2) λ_ s3 ⟨H3,I3,q3⟩=>?_))));exact wpAny_release ⟨σ,H3,I3,q3⟩
def cL(te:TE)(g:TG):TS:=λD σ H=>te σ H λx H1=>g x σ H1 D.nx
theorem FK{tg e:Expr}{te:TE}{g:TG}(he:PE X e te)(hg:PG X tg g)(hs:swapsWithSole [tg] e pos.line X.env=pure false:=by rfl)(hw:swappedStores [tg] e X.env=pure none:=by rfl)(h1:(assignEach [tg] X.env).map (·.2)=[assign tg X.env]:=by rfl):PS X (.Assign [tg] e pos) (cL te g):=by intro pins s σ H D I h;refine wpAny_Assign_stores (Zx (he pins s σ H _ I h) λv s1 ⟨x,H1,I1,r1,q1⟩=>?_) hs hw;rw[h1];exact Zx (hg pins s1 σ H1 x v _ I1 r1 q1) λ_ s2 q=>q
theorem cN(hN:X.N.Nodup)(hi:X.N[i]?=some x)(hx:Loc X.env.scope x)(he:PE X e te)(hs:swapsWith e (some (.Name x pos')) pos.line X.env=pure false:=by rfl)(hf:X.fn x=true\/X.env.scope.names.lookup x=some .local:=by first|exact .inl rfl|exact .inr rfl|assumption):
  PS X (.Assign [.Name x pos'] e pos) (cL te (aR i)):=by
 intro pins s σ H D I h;refine wpAny_Assign_Name (Zx (he pins s σ H _ I h) λv s1 ⟨y,H1,I1,r1,q1⟩=>?_) hs;exact GQ I1 hN hi hx r1 (λs2 I2=>⟨_,H1,I2,q1⟩) hf
def cO(c:TT)(tb:TS):TS:=λD σ H=>∃W:Nat->St->Hp->Prop,(∃m,W m σ H)/\∀m σ H,W m σ H->c σ H λb H1=>if b=true then ∃N:St->Hp->Prop,(∀σ' H',N σ' H'->∃m',m'<m/\W m' σ' H')/\tb {D with nx:=N,ct:=N,bk:=D.nx} σ H1 else D.nx σ H1
theorem Oz(hp:PassesOwn (model X.prog X.w) X.A X.env X.xe)(hc:PT X c tc)(hb:Im X body tb):PS X (.While c body [] pos) (cO tc tb):=by
 intro pins s σ H D I h;obtain⟨W,⟨m0,w0⟩,turn⟩:=h;refine wpAny_While (codeAny_whileLoop (λn s'=>∃σ' H',Inv X pins σ' H' s'/\W n σ' H') ?_ m0 ⟨σ,H,I,w0⟩);rintro n s1 ⟨σ1,H1,I1,w1⟩;refine RA hp (Zx (hc pins s1 σ1 H1 _ I1 (turn n σ1 H1 w1)) λb s2 ⟨H2,I2,q2⟩=>?_);cases b with
 |true=>
  obtain⟨N,hN,q2⟩:=q2;rw[Uf rfl];refine RA hp (Zx (hb pins s2 σ1 H2 _ I2 q2) λf s3 q3=>?_);cases f with
  |next =>obtain⟨σ3,H3,I3,n3⟩:=q3;obtain⟨m',hm,w3⟩:=hN σ3 H3 n3;exact⟨m',hm,σ3,H3,I3,w3⟩|cont =>obtain⟨σ3,H3,I3,n3⟩:=q3;obtain⟨m',hm,w3⟩:=hN σ3 H3 n3;exact⟨m',hm,σ3,H3,I3,w3⟩|brk=>exact q3|ret v=>exact q3
 |false =>rw[Uh Uj];exact Be ⟨σ1,H2,I2,q2⟩
structure It where
 go:Nat->Hp->Prop
 yld:Nat->Hp->V->Hp->Prop
 stop:Nat->Hp->Prop
def FpOk(X:Cx)(pins:YM)(H:Hp)(b:Addr):Prop:=H b=none/\b≠X.env.locals/\b∉X.fs/\(b∈X.ex\/X.s₀.heap.objs.size<=b)/\(∀x c,X.env.cells.lookup x=some c->c≠b)/\∀p∈X.pn++pins,p.1≠b
theorem Inv.fpOk(I:Inv X pins σ H s)(hb:s.heap.objs.size<=b)(hn:H' b=none):FpOk X pins H' b:=by
 refine⟨hn,Nat.ne_of_gt (UA I.lt hb),I.nofs hb,.inr (Uk I.sz hb),λx c e z=>?_,λp hp z=>?_⟩
 ·obtain⟨v,q⟩:=I.cell x c e;exact absurd (UA q.lt (by rw[z];exact hb)) (TL _)
 ·exact absurd (UA (UB (I.pin p hp).1) (by rw[z];exact hb)) (TL _)
structure Turn(P:Program)(w:World)(K:Frag)(tg:Expr)(J:It)(fp:List Addr)(it:Addr)(tn:Nat->Heap->Prop):Prop where
 mem:it∈fp
 obj:∀i h,tn i h->∀b∈fp,∃o,h.get? b=some o/\∀v,o.data≠.cell v
 keep:∀i h h',tn i h->(∀b∈fp,∀o,h.get? b=some o->h'.get? b=some o)->tn i h'
 item:∀(X:Cx),X.prog=P->X.w=w->X.K=K->X.calm=true->∀(i:Nat)(pins:YM)(s:Shared)(σ:St)(H:Hp)(E:VP),Inv X pins σ H s->(∀b∈fp,FpOk X pins H b)->tn i s.heap->J.go i H->wpAny (model P w) X.A (pyNext (.ref it)) (λr s1=>∃u,r=some u/\wpAny (model P w) X.A (letOwnedTupleGo tg (.ref it) u) (λ_ s2=>∃x H',Inv X pins σ H' s2/\RelV x u/\J.yld i H x H'/\tn (i+1) s2.heap/\∀b∈fp,H' b=none) E s1) E s
 done:∀(X:Cx),X.prog=P->X.w=w->X.K=K->X.calm=true->∀(i:Nat)(pins:YM)(s:Shared)(σ:St)(H:Hp)(E:VP),Inv X pins σ H s->(∀b∈fp,FpOk X pins H b)->tn i s.heap->J.stop i H->wpAny (model P w) X.A (pyNext (.ref it)) (λr s1=>r=none/\Inv X pins σ H s1) E s
 self:∀(A:Around)(i:Nat)(s:Shared)(Q:VP)(E:VP),tn i s.heap->Q (.ref it) s->wpAny (model P w) A (pyIter (.ref it)) Q E s
abbrev TI:=St->Hp->(It->Hp->Prop)->Prop
def sG(X:Cx)(pins:YM)(σ:St)(tg:Expr)(R:It->Hp->Prop)(itv:Value)(s2:Shared):Prop:=∃(it:Addr)(fp:List Addr)(tn:Nat->Heap->Prop)(J:It)(H':Hp),itv=.ref it/\Inv X pins σ H' s2/\Turn X.prog X.w X.K tg J fp it tn/\tn 0 s2.heap/\(∀b∈fp,FpOk X pins H' b)/\R J H'
def PI(X:Cx)(tg iter:Expr)(wi:TI):Prop:=∀(pins:YM)(s:Shared)(σ:St)(H:Hp)(R:It->Hp->Prop),Inv X pins σ H s->wi σ H R->wpAny (model X.prog X.w) X.A (eval iter X.env) (λv s1=>wpAny (model X.prog X.w) X.A (pyIter v) (sG X pins σ tg R) X.xe s1) X.xe s
theorem LC{M:Model}{A:Around}{E:VP}{s:Shared}{tg:Expr}{it:Addr}{u:Value}{o:Obj}{n:String}{vs:Array Value}{Q:Unit->Shared->Prop}(ho:s.heap.get? it=some o)(hc:o.cls=.type n)(hd:o.data=.fields vs)(hn:["enumerate","zip","dict_itemiterator","dict_reverseitemiterator","odict_iterator","itertools.zip_longest","itertools.pairwise"].contains n=false)(hQ:Q () s):wpAny M A (letOwnedTupleGo tg (.ref it) u) Q E s:=by
  unfold letOwnedTupleGo;cases tg<;>first
    |exact Uc hQ
    | (cases u<;>first
        |exact Uc hQ
        | (refine Ua (wpAny_load ho ?_)
           rw[hc,hd];show wpAny M A (if (["enumerate","zip","dict_itemiterator","dict_reverseitemiterator","odict_iterator","itertools.zip_longest","itertools.pairwise"].contains n&&vs[0]? == some (rawInt _))=true then _ else _) Q E s;rw[Uh (by intro h;rw[hn,Bool.false_and]at h;cases h)];exact Uc hQ))
def oP(K:Frag)(a:Addr):It:=⟨λi H=>∃xs x,SqL K H a xs/\xs[i]?=some x,λi H x H'=>H'=H/\∀xs,SqL K H a xs->xs[i]?=some x,λi H=>∃xs,SqL K H a xs/\xs.length<=i⟩
def pY(K:Frag)(a:Addr):It:=⟨λi H=>∃xs x,SqT K H a xs/\xs[i]?=some x,λi H x H'=>H'=H/\∀xs,SqT K H a xs->xs[i]?=some x,λi H=>∃xs,SqT K H a xs/\xs.length<=i⟩
def jR(lo:Int)(n:Nat):It:=⟨λi _=>i<n,λi H x H'=>H'=H/\x=.int (lo+i),λi _=>n<=i⟩
theorem MU{P:Program}{w:World}{K:Frag}{tg:Expr}(a it:Addr):Turn P w K tg (oP K a) [it] it (λi h=>h.IsListIter it a i) where
 mem:=by simp
 obj:=λi h st b hb=>by
  have e:b=it:=by simpa using hb
  subst e;obtain⟨o,e,c,d⟩:=st;exact⟨o,e,λv z=>by rw[d]at z;cases z⟩
 keep:=λi h h' st k=>st.at λo e=>k it (by simp) o e
 item:=by intro X hP hw hK hc i pins s σ H E I hf st hg;subst hP hw hK;obtain⟨xs,x,hq,hx⟩:=hg;obtain⟨its,rv,p,hz⟩:=I.list hq;obtain⟨u,hu,ru⟩:=rv.get hx;obtain⟨f0,f1,f2,f3,f4,f5⟩:=hf it (by simp);refine wpAny_pyNext_list_item st p.isList (x:=u) (by simpa using hu) λh' st' sb=>?_;have I1:Inv X pins σ H {s with heap:=h'}:=I.turned (t':=s.toks) (λb o hb e=>(sb.2 b hb).trans e) f0 f1 f3 f4 f5;obtain⟨o,e,c,d⟩:=id st';exact⟨u,rfl,LC (s:={s with heap:=h'}) e c d (by decide) ⟨x,H,I1,ru,⟨rfl,λys hy=>by rw[I.list_inj hy hq];exact hx⟩,st',λb hb=>(hf b hb).1⟩⟩
 done:=by intro X hP hw hK hc i pins s σ H E I hf st hg;subst hP hw hK;obtain⟨xs,hq,hx⟩:=hg;obtain⟨its,rv,p,hz⟩:=I.list hq;obtain⟨f0,f1,f2,f3,f4,f5⟩:=hf it (by simp);have hl:=rv.length;exact wpAny_pyNext_list_end (I.ok.hd hc) st p.isList (by simp;omega) λh' eb=>⟨rfl,I.turned (t':=s.toks) (λb o hb e=>eb b o hb e) f0 f1 f3 f4 f5⟩
 self:=λ_ _ _ _ _ st h=>wpAny_pyIter_listiter st h
theorem Ip{P:Program}{w:World}{K:Frag}{tg:Expr}(a it:Addr):Turn P w K tg (pY K a) [it] it (λi h=>h.IsTupleIter it a i) where
 mem:=by simp
 obj:=λi h st b hb=>by
  have e:b=it:=by simpa using hb
  subst e;obtain⟨o,e,c,d⟩:=st;exact⟨o,e,λv z=>by rw[d]at z;cases z⟩
 keep:=λi h h' st k=>st.at λo e=>k it (by simp) o e
 item:=by intro X hP hw hK hc i pins s σ H E I hf st hg;subst hP hw hK;obtain⟨xs,x,hq,hx⟩:=hg;obtain⟨its,rv,p,hz⟩:=I.tuple hq;obtain⟨u,hu,ru⟩:=rv.get hx;obtain⟨f0,f1,f2,f3,f4,f5⟩:=hf it (by simp);refine wpAny_pyNext_tuple_item st (show s.heap.IsTuple a its.toArray from p) (x:=u) (by simpa using hu) λh' st' sb=>?_;have I1:Inv X pins σ H {s with heap:=h'}:=I.turned (t':=s.toks) (λb o hb e=>(sb.2 b hb).trans e) f0 f1 f3 f4 f5;obtain⟨o,e,c,d⟩:=id st';exact⟨u,rfl,LC (s:={s with heap:=h'}) e c d (by decide) ⟨x,H,I1,ru,⟨rfl,λys hy=>by rw[I.tuple_inj hy hq];exact hx⟩,st',λb hb=>(hf b hb).1⟩⟩
 done:=by intro X hP hw hK hc i pins s σ H E I hf st hg;subst hP hw hK;obtain⟨xs,hq,hx⟩:=hg;obtain⟨its,rv,p,hz⟩:=I.tuple hq;obtain⟨f0,f1,f2,f3,f4,f5⟩:=hf it (by simp);have hl:=rv.length;exact wpAny_pyNext_tuple_end (I.ok.hd hc) st (show s.heap.IsTuple a its.toArray from p) (by simp;omega) λh' eb=>⟨rfl,I.turned (t':=s.toks) (λb o hb e=>eb b o hb e) f0 f1 f3 f4 f5⟩
 self:=λ_ _ _ _ _ st h=>wpAny_pyIter_tupleiter st h
theorem Iq{P:Program}{w:World}{K:Frag}{tg:Expr}(it:Addr)(lo:Int)(n:Nat):Turn P w K tg (jR lo n) [it] it (λi h=>IsRangeIter h it (lo+(i:Nat)*1) ((n:Int) - (i:Nat)) 1) where
 mem:=by simp
 obj:=λi h st b hb=>by
  have e:b=it:=by simpa using hb
  subst e;exact⟨_,st,λv z=>by have z':Data.fields _=Data.cell v:=z;cases z'⟩
 keep:=λi h h' st k=>k it (by simp) _ st
 item:=by intro X hP hw hK hc i pins s σ H E I hf st hg;subst hP hw hK;obtain⟨f0,f1,f2,f3,f4,f5⟩:=hf it (by simp);have W:=Walks.range (prog:=X.prog) (w:=X.w) (I.ok.hd hc) it lo 1 n;refine W.item i s _ _ hg st λv h' tk hv st' kk=>?_;obtain⟨t,rfl⟩:=hv;have I1:Inv X pins σ H {s with heap:=h',toks:=tk}:=I.turned (λb o hb e=>kk b o (by simpa using hb) e) f0 f1 f3 f4 f5;refine⟨_,rfl,LC (s:={s with heap:=h',toks:=tk}) (n:="range_iterator") st' rfl rfl (by decide) ⟨.int (lo+i),H,I1,⟨t,?_⟩,⟨rfl,rfl⟩,st',λb hb=>(hf b hb).1⟩⟩;rw[Int.mul_one]
 done:=by intro X hP hw hK hc i pins s σ H E I hf st hg;subst hP hw hK;obtain⟨f0,f1,f2,f3,f4,f5⟩:=hf it (by simp);exact wpAny_pyNext_range_end (I.ok.hd hc) st (by have:n<=i:=hg;omega) λh' eb=>⟨rfl,I.turned (t':=s.toks) (λb o hb e=>eb b o hb e) f0 f1 f3 f4 f5⟩
 self:=λ_ _ _ _ _ st h=>wpAny_pyIter_rangeiter st h
theorem GS{pins:YM}{σ:St}{H:Hp}{s:Shared}{R:It->Hp->Prop}{E:VP}{lo hi:Int}{t u v:Tok}{tk:Nat}(I:Inv X pins σ H s)(h1:-(2^62)<=lo)(h2:lo<2^62)(h3:-(2^62)<=hi)(h4:hi<2^62)(q:R (jR lo (hi-lo).toNat) H):wpAny (model X.prog X.w) X.A (pyIter (.ref s.heap.objs.size)) (sG X pins σ tg R) E {s with heap:=s.heap.push {cls:=.type "range",data:=.fields #[.int lo t,.int hi u,.int 1 v]},toks:=tk}:=by
 refine wpAny_pyIter_range (IsRange.new ..) (small_one h1 h2 h3 h4) ?_;have I1:Inv X pins σ H {s with heap:=s.heap.push {cls:=.type "range",data:=.fields #[.int lo t,.int hi u,.int 1 v]},toks:=tk}:=I.kept λb o e=>Ub _ e;refine⟨(s.heap.push {cls:=.type "range",data:=.fields #[.int lo t,.int hi u,.int 1 v]}).objs.size,[(s.heap.push {cls:=.type "range",data:=.fields #[.int lo t,.int hi u,.int 1 v]}).objs.size],_,_,H,rfl,I1.kept (t':=tk) λb o e=>Ub _ e,Iq _ lo (hi-lo).toNat,?_,λb hb=>?_,q⟩
 ·have e1:lo+((0:Nat):Int)*1=lo:=by simp
  have e2:(((hi-lo).toNat:Nat):Int) - ((0:Nat):Int)=Builtin.Range.rangeSize lo hi 1:=by rw[rangeSize_one];split<;>omega
  show IsRangeIter _ _ (lo+((0:Nat):Int)*1) ((((hi-lo).toNat:Nat):Int) - ((0:Nat):Int)) 1;rw[e1,e2];exact Uu _ rfl
 ·have e:b=(s.heap.push {cls:=.type "range",data:=.fields #[.int lo t,.int hi u,.int 1 v]}).objs.size:=by simpa using hb
  subst e;exact I1.fpOk (Ug _) (I1.hok.fresh (Ug _))
def jS(ta:TA):TI:=λσ H R=>ta σ H λvs H1=>∃j:Int,vs=[.int j]/\-(2^62)<=j/\j<2^62/\R (jR 0 j.toNat) H1
def jT(ta:TA):TI:=λσ H R=>ta σ H λvs H1=>∃i j:Int,vs=[.int i,.int j]/\(-(2^62)<=i/\i<2^62/\-(2^62)<=j/\j<2^62)/\R (jR i (j-i).toNat) H1
theorem MV(hg:Gl X "range")(hm:X.mg "range"=none)(ha:PA X [a] ta)(hs:starEach [a] X.env=[(false,eval a X.env)]:=by rfl):PI X tg (.Call (.Name "range" p) [a] [] pos) (jS ta):=by
 intro pins s σ H R I h;refine Call_ (Xc I hg hm boot_range (U7 (Zx (ha pos pins s σ H _ I h) λus s1 ⟨vs,H1,I1,r1,q1⟩=>?_) hs rfl));obtain⟨j,e,q1,q2,q⟩:=q1;subst e;cases r1 with
 |cons r rr =>cases rr;obtain⟨t,rfl⟩:=r;exact call_range_1 (GS I1 (by omega) (by omega) q1 q2 (by simpa using q))
theorem MW(hg:Gl X "range")(hm:X.mg "range"=none)(ha:PA X [a,b] ta)(hs:starEach [a,b] X.env=[(false,eval a X.env),(false,eval b X.env)]:=by rfl)(hs2:starEach [b] X.env=[(false,eval b X.env)]:=by rfl):
  PI X tg (.Call (.Name "range" p) [a,b] [] pos) (jT ta):=by
 intro pins s σ H R I h;refine Call_ (Xc I hg hm boot_range (U7 (Zx (ha pos pins s σ H _ I h) λus s1 ⟨vs,H1,I1,r1,q1⟩=>?_) (by rw[hs,hs2]) (by rw[hs2];rfl)));obtain⟨i,j,e,⟨q1,q2,q3,q4⟩,q⟩:=q1;subst e;cases r1 with
 |cons r rr=>
  cases rr with
  |cons r' rr =>cases rr;obtain⟨t,rfl⟩:=r;obtain⟨t',rfl⟩:=r';exact call_range_2 (GS I1 q1 q2 q3 q4 q)
def pZ(wi:TI)(g:TG)(tb:TS):TS:=λD σ H=>wi σ H λJ H1=>∃W:Nat->Nat->St->Hp->Prop,(∃m,W 0 m σ H1)/\∀i m σ H,W i m σ H->(J.stop i H/\D.nx σ H)\/(J.go i H/\∃N:St->Hp->Prop,(∀σ' H',N σ' H'->∃m',m'<m/\W (i+1) m' σ' H')/\∀x H',J.yld i H x H'->g x σ H' λσ2 H2=>tb {D with nx:=N,ct:=N,bk:=D.nx} σ2 H2)
def CN(fp:List Addr)(h:Heap):List (Addr×Obj):=fp.filterMap λb=>(h.get? b).map λo=>(b,o)
theorem Xd(hb:b∈fp)(e:h.get? b=some o):(b,o)∈CN fp h:=Br.mpr ⟨b,hb,by rw[e];rfl⟩
theorem MX(hp:p∈CN fp h):p.1∈fp/\h.get? p.1=some p.2:=by
 obtain⟨b,hb,e⟩:=Br.mp hp;cases q:h.get? b with
 |none=>rw[q]at e;cases e|some o =>rw[q]at e;have e':(b,o)=p:=Option.some.inj e;subst e';exact⟨hb,q⟩
theorem Inv.pinned(I:Inv X pins σ H s)(hf:∀b∈fp,FpOk X pins H b)(ho:∀b∈fp,∃o,s.heap.get? b=some o/\∀v,o.data≠.cell v):Inv X (pins++CN fp s.heap) σ H s:=
 I.pins_of λp hp=>(Ut.mp hp).elim (λz=>I.pin p (UX _ z)) λz=>by obtain⟨hb,e⟩:=MX z;obtain⟨f0,f1,f2,_⟩:=hf p.1 hb;obtain⟨o,e',d⟩:=ho p.1 hb;rw[e]at e';cases e';exact⟨e,f0,f1,f2,d⟩
theorem Inv.unpinned(I:Inv X (pins++pl) σ H s):Inv X pins σ H s:=I.pins_of λp hp=>I.pin p (UX _ (Rz _ hp))
theorem cP{iter:Expr}{body:List Stmt}{wi:TI}{g:TG}{tb:TS}{pos:Pos}(hp:PassesOwn (model X.prog X.w) X.A X.env X.xe)(hc:X.calm=true)(hi:PI X tg iter wi)(hg:PG X tg g)(hb:Im X body tb)(hs:∀x,foldedSetIterable iter X.env x=pure x:=by intro _;rfl):PS X (.For tg iter body [] pos) (pZ wi g tb):=by
 intro pins s σ H D I h;refine wpAny_For (Zx (hi pins s σ H _ I h) λv s1 h1=>Zx h1 λitv s2 h2=>?_) hs;obtain⟨it,fp,tn,J,H2,e,I2,T,st2,f2,W,⟨m0,w0⟩,turn⟩:=h2;subst e
 -- what stays true of the iterator's objects through the loop
 have stat:∀{H':Hp},(∀b∈fp,H' b=none)->∀b∈fp,FpOk X pins H' b:=λhn b hb=>⟨hn b hb,(f2 b hb).2⟩;refine codeAny_forLoop_any (λn s'=>∃i σ' H',Inv X pins σ' H' s'/\tn i s'.heap/\(∀b∈fp,H' b=none)/\W i n σ' H') ?_ m0 ⟨0,σ,H2,I2,st2,λb hb=>(f2 b hb).1,w0⟩;rintro n s3 ⟨i,σ3,H3,I3,st3,fr3,w3⟩;rcases turn i n σ3 H3 w3 with⟨stop,qn⟩|⟨go,N,hN,step⟩
 ·refine RA hp (Zx (T.done X rfl rfl rfl hc i pins s3 σ3 H3 X.xe I3 (stat fr3) st3 stop) λr s4 ⟨hr,I4⟩=>?_);subst hr;exact Be ⟨σ3,H3,I4,qn⟩
 ·refine RA hp (Zx (T.item X rfl rfl rfl hc i pins s3 σ3 H3 X.xe I3 (stat fr3) st3 go) λr s4 ⟨u,hr,h4⟩=>?_);subst hr;refine RA hp (Zx h4 λ_ s5 ⟨x,H5,I5,r5,y5,st5,fr5⟩=>?_);have I5':=I5.pinned (stat fr5) (T.obj _ _ st5);refine RA hp (Zx (hg _ s5 σ3 H5 x u _ I5' r5 (step x H5 y5)) λ_ s6 ⟨σ6,H6,I6,q6⟩=>?_);refine RA hp (Zx (hb _ s6 σ6 H6 _ I6 q6) λf s7 q7=>?_);have again:∀{σ7:St}{H7:Hp},Inv X (pins++CN fp s5.heap) σ7 H7 s7->N σ7 H7->∃m,m<n/\∃i σ' H',Inv X pins σ' H' s7/\tn i s7.heap/\(∀b∈fp,H' b=none)/\W i m σ' H':=λ{σ7 H7} I7 n7=>by obtain⟨m',hm,w7⟩:=hN σ7 H7 n7;refine⟨m',hm,i+1,σ7,H7,I7.unpinned,T.keep _ _ _ st5 λb hb o e=>(I7.pin (b,o) (UX _ (UX _ (Xd hb e)))).1,λb hb=>?_,w7⟩;obtain⟨o,e,d⟩:=T.obj _ _ st5 b hb;exact(I7.pin (b,o) (UX _ (UX _ (Xd hb e)))).2.1
  cases f with
  |next=>obtain⟨σ7,H7,I7,n7⟩:=q7;exact again I7 n7|cont=>obtain⟨σ7,H7,I7,n7⟩:=q7;exact again I7 n7|brk=>obtain⟨σ7,H7,I7,q7⟩:=q7;exact⟨σ7,H7,I7.unpinned,q7⟩|ret v=>obtain⟨x7,σ7,H7,I7,r7,q7⟩:=q7;exact⟨x7,σ7,H7,I7.unpinned,r7,q7⟩
abbrev R2:=V->V->Hp->VK->Prop
def OpR(X:Cx)(f:Value->Value->Sem Value)(r:R2):Prop:=∀(pins:YM)(s:Shared)(σ:St)(H:Hp)(x y:V)(v u:Value)(Q:VK),Inv X pins σ H s->RelV x v->RelV y u->r x y H Q->wpAny (model X.prog X.w) X.A (f v u) (EP X pins σ Q) X.xe s
def oQ(X:Cx)(f:Value->Sem Value)(r:V->Hp->VK->Prop):Prop:=∀(pins:YM)(s:Shared)(σ:St)(H:Hp)(x:V)(v:Value)(Q:VK),Inv X pins σ H s->RelV x v->r x H Q->wpAny (model X.prog X.w) X.A (f v) (EP X pins σ Q) X.xe s
def YA(X:Cx)(f:Value)(r:List V->Hp->VK->Prop):Prop:=∀(pins:YM)(s:Shared)(σ:St)(H:Hp)(xs:List V)(us:List Value)(Q:VK),Inv X pins σ H s->Vals xs us->r xs H Q->wpAny (model X.prog X.w) X.A (call f us) (EP X pins σ Q) X.xe s
def jU(r:R2)(ta tb:TE):TE:=λσ H Q=>ta σ H λx H1=>tb σ H1 λy H2=>r x y H2 Q
def tE(r:V->Hp->VK->Prop)(ta:TE):TE:=λσ H Q=>ta σ H λx H1=>r x H1 Q
def rI(C:Int->Int->Prop)(g:Int->Int->V):R2:=λx y H Q=>∃i j,x=.int i/\y=.int j/\C i j/\Q (g i j) H
def Ap(g:Int->Int->V):R2:=λx y H Q=>∃i j,x=.int i/\y=.int j/\Q (g i j) H
def rU(g:Int->V):V->Hp->VK->Prop:=λx H Q=>∃i,x=.int i/\Q (g i) H
theorem cQ(ha:PE X a ta)(hb:PE X b tb){pins:YM}{s:Shared}{σ:St}{H:Hp}{R:V->V->Hp->Prop}(I:Inv X pins σ H s)(h:ta σ H λx H1=>tb σ H1 λy H2=>R x y H2){Q:VP}{f:Value->Value->Sem Value}(hf:∀v u s2 x y H2,Inv X pins σ H2 s2->RelV x v->RelV y u->R x y H2->wpAny (model X.prog X.w) X.A (f v u) Q X.xe s2):
  wpAny (model X.prog X.w) X.A (eval a X.env) (λv s₁=>wpAny (model X.prog X.w) X.A (eval b X.env) (λu s₂=>wpAny (model X.prog X.w) X.A (f v u) Q X.xe s₂) X.xe s₁) X.xe s:=by
 refine Zx (ha pins s σ H _ I h) λv s1 ⟨x,H1,I1,r1,q1⟩=>?_;refine Zx (hb pins s1 σ H1 _ I1 q1) λu s2 ⟨y,H2,I2,r2,q2⟩=>?_;exact hf v u s2 x y H2 I2 r1 r2 q2
theorem jV(ho:OpR X (binaryOp op) r)(ha:PE X a ta)(hb:PE X b tb):PE X (.BinOp a op b pos) (jU r ta tb):=by intro pins s σ H Q I h;exact wpAny_BinOp (cQ ha hb I h λv u s2 x y H2 I2 rx ry q=>ho pins s2 σ H2 x y v u Q I2 rx ry q)
theorem jW(ho:oQ X (unaryOp op) r)(ha:PE X a ta):PE X (.UnaryOp op a pos) (tE r ta):=by intro pins s σ H Q I h;exact UnaryOp_ (Zx (ha pins s σ H _ I h) λv s1 ⟨x,H1,I1,r1,q1⟩=>ho pins s1 σ H1 x v Q I1 r1 q1)
theorem qA{f:Value->Value->Sem Value}{C:Int->Int->Prop}{g:Int->Int->Int}(rule:∀(i j:Int) (t u:Tok) (s:Shared) (Q:VP) (E:VP),C i j->Q (.int (g i j) s.toks) {s with toks:=s.toks+1}->wpAny (model X.prog X.w) X.A (f (.int i t) (.int j u)) Q E s):
  OpR X f (rI C λi j=>.int (g i j)):=by
 intro pins s σ H x y v u Q I rx ry h;obtain⟨i,j,rfl,rfl,hc,q⟩:=h;obtain⟨t,rfl⟩:=rx;obtain⟨t',rfl⟩:=ry;exact rule i j t t' s _ _ hc ⟨.int (g i j),H,I.tok _,⟨_,rfl⟩,q⟩
theorem jX{f:Value->Value->Sem Value}{g:Int->Int->Int}(rule:∀(i j:Int) (t u:Tok) (s:Shared) (Q:VP) (E:VP),Q (.int (g i j) s.toks) {s with toks:=s.toks+1}->wpAny (model X.prog X.w) X.A (f (.int i t) (.int j u)) Q E s):
  OpR X f (Ap λi j=>.int (g i j)):=by
 intro pins s σ H x y v u Q I rx ry h;obtain⟨i,j,rfl,rfl,q⟩:=h;obtain⟨t,rfl⟩:=rx;obtain⟨t',rfl⟩:=ry;exact rule i j t t' s _ _ ⟨.int (g i j),H,I.tok _,⟨_,rfl⟩,q⟩
theorem AD{f:Value->Value->Sem Value}{g:Int->Int->Bool}(rule:∀(i j:Int) (t u:Tok) (s:Shared) (Q:VP) (E:VP),Q (.bool (g i j)) s->wpAny (model X.prog X.w) X.A (f (.int i t) (.int j u)) Q E s):
  OpR X f (Ap λi j=>.bl (g i j)):=by
 intro pins s σ H x y v u Q I rx ry h;obtain⟨i,j,rfl,rfl,q⟩:=h;obtain⟨t,rfl⟩:=rx;obtain⟨t',rfl⟩:=ry;exact rule i j t t' s _ _ ⟨.bl (g i j),H,I,rfl,q⟩
def qB(i j:Int):Prop:=0<j/\j<1073741824
def CMul(i j:Int):Prop:=(-(2^64)<i/\i<2^64)\/(-(2^64)<j/\j<2^64)
theorem CMul.ok(h:CMul i j):IntMulOk i j:=by
 rcases h with⟨h1,h2⟩|⟨h1,h2⟩
 ·exact .of_left (intBits_le_64 h1 h2)
 ·exact .of_right (intBits_le_64 h1 h2)
theorem op_add:OpR X (binaryOp .Add) (Ap λi j=>.int (i+j)):=jX λ_ _ _ _ _ _ _ q=>add_int q
theorem cR:OpR X (binaryOp .Sub) (Ap λi j=>.int (i-j)):=jX λ_ _ _ _ _ _ _ q=>sub_int q
theorem cS:OpR X (binaryOp .Mult) (rI CMul λi j=>.int (i*j)):=qA λ_ _ _ _ _ _ _ hc q=>mul_int q hc.ok
theorem AE:OpR X (binaryOp .FloorDiv) (rI qB λi j=>.int (i/j)):=qA λi j _ _ _ _ _ hc q=>by have h1:(0:Int)<j:=hc.1;have h2:j<1073741824:=hc.2;exact floordiv_int (by omega) (by rw[Int.fdiv_eq_ediv_of_nonneg i (by omega)];exact q) (.inl (PyProof.noPylong_small (by omega)))
theorem cT:OpR X (binaryOp .Mod) (rI (λ_ j=>0<j) λi j=>.int (i%j)):=qA λi j _ _ _ _ _ hc q=>by have h1:(0:Int)<j:=hc;exact mod_int' (by omega) (by rw[Int.fmod_eq_emod_of_nonneg i (by omega)];exact q)
theorem tF{f:Value->Sem Value}{g:Int->Int}(rule:∀(i:Int) (t:Tok) (s:Shared) (Q:VP) (E:VP),Q (.int (g i) s.toks) {s with toks:=s.toks+1}->wpAny (model X.prog X.w) X.A (f (.int i t)) Q E s):
  oQ X f (rU λi=>.int (g i)):=by
 intro pins s σ H x v Q I rx h;obtain⟨i,rfl,q⟩:=h;obtain⟨t,rfl⟩:=rx;exact rule i t s _ _ ⟨.int (g i),H,I.tok _,⟨_,rfl⟩,q⟩
theorem cU:oQ X (unaryOp .USub) (rU λi=>.int (-i)):=tF λ_ _ _ _ _ q=>neg_int q
def jY:V->V->Bool
 |.non,.non=>true | .non,.int _=>true | .int _,.non=>true | .non,.bl _=>true | .bl _,.non=>true | .non,.str _=>true | .str _,.non=>true|.int _,.int _=>true | .bl _,.bl _=>true | .str _,.str _=>true | .byt _,.byt _=>true|.int _,.str _=>true | .str _,.int _=>true | .bl _,.str _=>true | .str _,.bl _=>true|_,_=>false
def sH:R2:=λx y H Q=>jY x y=true/\Q (.bl (decide (x=y))) H
def sI:R2:=λx y H Q=>jY x y=true/\Q (.bl (!decide (x=y))) H
theorem Cj:decide (V.int i=V.int j)=(i==j):=by rw[Ri];simp
theorem OA:decide (V.bl i=V.bl j)=(i==j):=by rw[Ri];simp
theorem Ck:decide (V.str i=V.str j)=(i==j):=by rw[Ri];simp
theorem LD:decide (V.byt i=V.byt j)=(i.toList==j.toList):=by rw[Ri];cases i;cases j;simp
theorem QU(I:Inv X pins σ H s)(q:Q (.bl k) H)(e:k=k'):EP X pins σ Q (.bool k') s:=by subst e;exact⟨.bl k,H,I,rfl,q⟩
theorem aS:OpR X (compareOp .Eq) sH:=by
 intro pins s σ H x y v u Q I rx ry h;obtain⟨hs,q⟩:=h;cases x with
 |non=>
  cases rx;cases y with
  |non=>cases ry;exact PySem.EqNone.eq_none_none (QU I q (by simp))|bl j=>cases ry;exact PySem.EqNone.eq_none_bool (QU I q (by simp))|int j=>obtain⟨t',rfl⟩:=ry;exact PySem.EqNone.eq_none_int (QU I q (by simp))|str j=>obtain⟨t',rfl⟩:=ry;exact PySem.EqNone.eq_none_str (QU I q (by simp))|_=>exact absurd (show false=true from hs) Uj
 |bl i=>
  cases rx;cases y with
  |non=>cases ry;exact PySem.EqNone.eq_bool_none (QU I q (by simp))|bl j=>cases ry;exact eq_bool (QU I q OA)|str j=>obtain⟨t',rfl⟩:=ry;exact PySem.EqMixed.eq_bool_str (QU I q (by simp))|_=>exact absurd (show false=true from hs) Uj
 |int i=>
  obtain⟨t,rfl⟩:=rx;cases y with
  |non=>cases ry;exact PySem.EqNone.eq_int_none (QU I q (by simp))|int j=>obtain⟨t',rfl⟩:=ry;exact eq_int (QU I q Cj)|str j=>obtain⟨t',rfl⟩:=ry;exact PySem.EqMixed.eq_int_str (QU I q (by simp))|_=>exact absurd (show false=true from hs) Uj
 |str i=>
  obtain⟨t,rfl⟩:=rx;cases y with
  |non=>cases ry;exact PySem.EqNone.eq_str_none (QU I q (by simp))|bl j=>cases ry;exact PySem.EqMixed.eq_str_bool (QU I q (by simp))|int j=>obtain⟨t',rfl⟩:=ry;exact PySem.EqMixed.eq_str_int (QU I q (by simp))|str j=>obtain⟨t',rfl⟩:=ry;exact eq_str (QU I q Ck)|_=>exact absurd (show false=true from hs) Uj
 |byt i=>
  obtain⟨t,rfl⟩:=rx;cases y with
  |byt j=>obtain⟨t',rfl⟩:=ry;exact eq_bytes (QU I q LD)|_=>exact absurd (show false=true from hs) Uj
 |_=>cases y<;>exact absurd (show false=true from hs) Uj
theorem jZ:OpR X (compareOp .NotEq) sI:=by
 intro pins s σ H x y v u Q I rx ry h;obtain⟨hs,q⟩:=h;cases x with
 |non=>
  cases rx;cases y with
  |non=>cases ry;exact PySem.EqNone.ne_none_none (QU I q (by simp))|bl j=>cases ry;exact PySem.EqNone.ne_none_bool (QU I q (by simp))|int j=>obtain⟨t',rfl⟩:=ry;exact PySem.EqNone.ne_none_int (QU I q (by simp))|str j=>obtain⟨t',rfl⟩:=ry;exact PySem.EqNone.ne_none_str (QU I q (by simp))|_=>exact absurd (show false=true from hs) Uj
 |bl i=>
  cases rx;cases y with
  |non=>cases ry;exact PySem.EqNone.ne_bool_none (QU I q (by simp))|bl j=>cases ry;exact ne_bool (QU I q (TY not OA))|str j=>obtain⟨t',rfl⟩:=ry;exact PySem.EqMixed.ne_bool_str (QU I q (by simp))|_=>exact absurd (show false=true from hs) Uj
 |int i=>
  obtain⟨t,rfl⟩:=rx;cases y with
  |non=>cases ry;exact PySem.EqNone.ne_int_none (QU I q (by simp))|int j=>obtain⟨t',rfl⟩:=ry;exact ne_int (QU I q (TY not Cj))|str j=>obtain⟨t',rfl⟩:=ry;exact PySem.EqMixed.ne_int_str (QU I q (by simp))|_=>exact absurd (show false=true from hs) Uj
 |str i=>
  obtain⟨t,rfl⟩:=rx;cases y with
  |non=>cases ry;exact PySem.EqNone.ne_str_none (QU I q (by simp))|bl j=>cases ry;exact PySem.EqMixed.ne_str_bool (QU I q (by simp))|int j=>obtain⟨t',rfl⟩:=ry;exact PySem.EqMixed.ne_str_int (QU I q (by simp))|str j=>obtain⟨t',rfl⟩:=ry;exact ne_str (QU I q (TY not Ck))|_=>exact absurd (show false=true from hs) Uj
 |byt i=>
  obtain⟨t,rfl⟩:=rx;cases y with
  |byt j=>obtain⟨t',rfl⟩:=ry;exact ne_bytes (QU I q (TY not LD))|_=>exact absurd (show false=true from hs) Uj
 |_=>cases y<;>exact absurd (show false=true from hs) Uj
theorem aT:OpR X (compareOp .Lt) (Ap λi j=>.bl (decide (i<j))):=AD λ_ _ _ _ _ _ _ q=>lt_int q
theorem aU:OpR X (compareOp .LtE) (Ap λi j=>.bl (decide (i<=j))):=AD λ_ _ _ _ _ _ _ q=>le_int q
theorem aV:OpR X (compareOp .Gt) (Ap λi j=>.bl (decide (j<i))):=AD λ_ _ _ _ _ _ _ q=>gt_int q
theorem kA:OpR X (compareOp .GtE) (Ap λi j=>.bl (decide (j<=i))):=AD λ_ _ _ _ _ _ _ q=>ge_int q
theorem cV:OpR X (compareOp .Is) (λx y H Q=>y=.non/\Q (.bl (decide (x=.non))) H):=by
 intro pins s σ H x y v u Q I rx ry h;obtain⟨rfl,q⟩:=h;cases ry;refine is_none_gen (QU I q ?_);cases x<;>first
  | (cases rx;rfl)
  | (obtain⟨t,rfl⟩:=rx;rfl)
theorem OpR.or(h:OpR X f r)(h':OpR X f r'):OpR X f (λx y H Q=>r x y H Q\/r' x y H Q):=by
 intro pins s σ H x y v u Q I rx ry q;rcases q with q|q
 ·exact h pins s σ H x y v u Q I rx ry q
 ·exact h' pins s σ H x y v u Q I rx ry q
theorem JN(b:Expr)(h:op≠.In:=by decide)(h2:op≠.NotIn:=by decide):behindInMarks op b=false:=by
 have e1:(op==CmpOp.In)=false:=by cases op<;>first|rfl|exact absurd rfl h
 have e2:(op==CmpOp.NotIn)=false:=by cases op<;>first|rfl|exact absurd rfl h2
 cases b<;>simp[behindInMarks,e1,e2]
theorem AF(ho:OpR X (compareOp op) r)(ha:PE X a ta)(hb:PE X b tb)(hm:behindInMarks op b=false):PE X (.Compare a [op] [b] pos) (jU r ta tb):=by intro pins s σ H Q I h;exact wpAny_Compare1 (cQ ha hb I h λv u s2 x y H2 I2 rx ry q=>ho pins s2 σ H2 x y v u Q I2 rx ry q) hm
def kB(t:TE):TT:=λσ H Q=>t σ H λx H'=>∃k,x=.bl k/\Q k H'
theorem AG(ho:OpR X (compareOp op) r)(ha:PE X a ta)(hb:PE X b tb)(hm:behindInMarks op b=false):PT X (.Compare a [op] [b] pos) (kB (jU r ta tb)):=by
 intro pins s σ H Q I h;refine wpAny_isTrue_Compare1 (Zx (ha pins s σ H _ I h) λv s1 ⟨x,H1,I1,r1,q1⟩=>Zx (hb pins s1 σ H1 _ I1 q1) λu s2 ⟨y,H2,I2,r2,q2⟩=>
  Zx (ho pins s2 σ H2 x y v u _ I2 r1 r2 q2) λc s3 ⟨z,H3,I3,r3,k,e,q3⟩=>?_) hm
 subst e;cases r3;exact Tf ⟨H3,I3,q3⟩
def OB(r r':R2)(ta tb tc:TE):TE:=λσ H Q=>ta σ H λx H1=>tb σ H1 λy H2=>r x y H2 λz H3=>∃k,z=.bl k/\(if k=true then tc σ H3 λw' H4=>r' y w' H4 Q else Q (.bl false) H3)
theorem OC{op op':CmpOp}{r r':R2}(ho:OpR X (compareOp op) r)(ho':OpR X (compareOp op') r')(ha:PE X a ta)(hb:PE X b tb)(hc:PE X c tc)(hm:lastMarks [op,op'] [b,c]=false:=by with_unfolding_all rfl):PE X (.Compare a [op,op'] [b,c] pos) (OB r r' ta tb tc):=by
 intro pins s σ H Q I h;refine Compare_chain (Zx (ha pins s σ H _ I h) λv s1 ⟨x,H1,I1,r1,q1⟩=>chain_link (Zx (hb pins s1 σ H1 _ I1 q1) λu s2 ⟨y,H2,I2,r2,q2⟩=>
  Zx (ho pins s2 σ H2 x y v u _ I2 r1 r2 q2) λd s3 ⟨z,H3,I3,r3,k,e,q3⟩=>?_)) hm
 subst e;cases r3;refine Tf ?_;cases k with
 |false=>exact ite_ff ⟨.bl false,H3,I3,rfl,q3⟩|true=>exact ite_tt (chain_last (Zx (hc pins s3 σ H3 _ I3 q3) λw' s4 ⟨z',H4,I4,r4,q4⟩=>ho' pins s4 σ H4 y z' u w' Q I4 r2 r4 q4))
theorem Vo:(sizeLine:Nat)<2^63:=by rw[TU];decide
theorem LE(r:Vals [x] us):∃u,us=[u]/\RelV x u:=by
 cases r with
 |cons r1 r2=>cases r2;exact⟨_,rfl,r1⟩
theorem kC(r:Vals [x,y] us):∃u w',us=[u,w']/\RelV x u/\RelV y w':=by
 cases r with
 |cons r1 r2=>
  cases r2 with
  |cons r3 r4=>cases r4;exact⟨_,_,rfl,r1,r3⟩
theorem MY(hc:X.calm=true):YA X (.builtin "min") (λxs H Q=>∃i j,xs=[.int i,.int j]/\Q (.int (if j<i then j else i)) H):=by
 intro pins s σ H xs us Q I r h;obtain⟨i,j,rfl,q⟩:=h;obtain⟨u,w',rfl,⟨t,rfl⟩,⟨t',rfl⟩⟩:=kC r;refine min_two_ints (I.ok.hd hc) λh' tk k=>⟨_,H,I.kept k,?_,q⟩;by_cases hj:j<i
 ·rw[Uf hj,Uf hj];exact⟨_,rfl⟩
 ·rw[Uh hj,Uh hj];exact⟨_,rfl⟩
theorem MZ:YA X (.type "int") (λxs H Q=>(∃i,xs=[.int i]/\Q (.int i) H)\/∃k,xs=[.bl k]/\Q (.int (if k then 1 else 0)) H):=by
 intro pins s σ H xs us Q I r h;rcases h with⟨i,rfl,q⟩|⟨k,rfl,q⟩
 ·obtain⟨u,rfl,t,rfl⟩:=LE r;exact call_int_int ⟨.int i,H,I,⟨_,rfl⟩,q⟩
 ·obtain⟨u,rfl,r1⟩:=LE r;cases r1;exact call_int_bool ⟨.int (if k then 1 else 0),H,I.tok _,⟨_,rfl⟩,q⟩
structure ObjM(h:Heap)(x dx C:Addr)(mA:Xa):Prop where
 obj:h.get? x=some (instObj C dx)
 ns:h.Ns1 dx mA
 ne:dx≠x
theorem M4{h:Heap}{dx:Addr}{mA:Xa}(n:h.Ns1 dx mA):∃od,h.get? dx=some od/\∀name,lookIn name od=some (mA name):=by
 obtain⟨o,es,ep,ho,hd,hk,_,hm⟩:=n;refine⟨o,ho,λname=>?_⟩;have e:=hm name;unfold nsFind findBy at e;rw[<-Array.find?_toList]at e;unfold lookIn;rw[hd];dsimp only;split
 ·rename_i y q;rw[q]at e;exact TY some e
 ·rename_i q;rw[q]at e;have a:es.toList.any (·.refKey)=false:=by rw[List.any_eq_false];intro y hy;obtain⟨z,t,hkey⟩:=hk y (Tx.mp hy);simp[DictEntry.refKey,hkey]
  have a':¬es.toList.any (·.refKey)=true:=by rw[a];exact Uj
  rw[Uh a'];exact TY some e
theorem ObjM.look(I:ObjM h x dx C mA):∃od,PySem.W.InstAt h x (instObj C dx) C (some od)/\∀name,lookIn name od=some (mA name):=
 let ⟨od,ho,hl⟩:=M4 I.ns
 ⟨od,⟨I.obj,rfl,rfl,ho⟩,hl⟩
section
variable{prog:Program}{w:World}{A:Around}{E:VP}{s:Shared}{K:Frag}{x dx C f:Addr}{mA:Xa}{name:Str}{v:Value}
theorem AH{expr:Bool}{Q:VP}(X:K.In s.heap)(I:ObjM s.heap x dx C mA)(hg:plainGet K C name=true)(hh:hasDictIn K C=true)(ha:findIn K (.ref C) name=some none)(hv:mA name=some v)(hv':handedIn v=true)(h:Q v {s with toks:=s.toks+1}):
  wpAny (model prog w) A (getAttr (.ref x) name expr) Q E s:=by
 obtain⟨od,J,hl⟩:=I.look;exact get_value X J (Bi hg).1 (findObj_own hh ha rfl (by rw[hl,hv])) hv' h
theorem OD{pl:Sem Bool}{Q:Value×List Value->Shared->Prop}(X:K.In s.heap)(I:ObjM s.heap x dx C mA)(hg:plainGet K C name=true)(hf:findIn K (.ref C) name=some (some (.ref f)))(ht:isFn K (.ref f)=true)(hv:mA name=none)(h:Q (.ref f,[.ref x]) s):
  wpAny (model prog w) A (getMethod (.ref x) name pl) Q E s:=by
 obtain⟨od,J,hl⟩:=I.look;exact method_fn X J (Bi hg).1 (Bi hg).2 hf (RM.mp ht) (by show(lookIn name od).map (·.isSome)=some false;rw[hl,hv];rfl) h
theorem AI{ns:List Str}{Q:Unit->Shared->Prop}(X:K.In s.heap)(I:ObjM s.heap x dx C mA)(hs:findIn K (.ref C) "__setattr__"=some (some (.builtin "object.__setattr__")))(hp:plainOver K C=true)(ht:takerIn K C name=some none)(hh:hasDictIn K C=true)(hw:PySem.Within mA ns)(hsz:ns.length<=sizeLine)(h:∀h',ObjM h' x dx C (λy=>if y=name then some v else mA y)->Heap.SameBut dx s.heap h'->Q () {s with heap:=h',toks:=s.toks+2}):
  wpAny (model prog w) A (setAttr (.ref x) name v) Q E s:=by
 obtain⟨od,J,hl⟩:=I.look;refine set_plain X J hs (osa_open (s:={s with toks:=s.toks+1}) (r:=none) X J hp ht λb=>?_);obtain⟨cd,hc,hd'⟩:=any_some hh;have hx:s.heap.get? x=some ⟨.ref C,some dx,.plain,#[]⟩:=I.obj;refine Ua (Uc (Ua (Ua (wpAny_loadPart hx (Ua (Looks.here (s:={s with toks:=s.toks+1}) (looks_clsIn X hc) ?_))))));rw[hd'];refine Uc (a:=some dx) (Ua (Uc (Ua ?_)));refine wpAny_nsSet1 (s:={s with toks:=s.toks+1}) I.ns λh' hn2 hs2=>?_;obtain⟨oD,esD,epD,hoD,hdD,hcD⟩:=hn2.count (PySem.Within.cons name v hw);refine Ua (wpAny_lookBehind hoD (by rw[hdD];exact pastItsLine_dict (Uk hcD (by rw[UJ];omega))) ?_);exact Uc (h _ ⟨(hs2.2 _ (Ne.symm I.ne)).trans I.obj,hn2,I.ne⟩ hs2)
theorem OE{R:Result->Shared->Prop}{vs:List Value}{kw:List (Str×Value)}(X:K.In s.heap)(hm:makesIn K C=true)(hi:findIn K (.ref C) "__init__"=some (some (.ref f)))(hf:typeIn K (.ref f)=some (.type "function"))(h:codeAny (model prog w) (A.under (.builtin "type.__call__" ⟨.ref C::vs,kw⟩)) (.call (.ref f) ⟨.ref (s.heap.objs.size+1)::vs,kw⟩) (InitBack (s.heap.objs.size+1) R)
   {s with heap:=(s.heap.push emptyDict).push (instObj C s.heap.objs.size)}):
  codeAny (model prog w) A (.call (.ref C) ⟨vs,kw⟩) R s:=by
 obtain⟨hh,g,d,t,os⟩:=s;exact make_core (makes_of X hm) (looks_findIn X hi) (λself=>bind_fn X self hf) (.inl rfl) h
end
def Xe(f:Str)(v:V):List (Str×V)->List (Str×V)
 |[]=>[(f,v)]| (g,x)::r=>if g=f then (g,v)::r else (g,x)::Xe f v r
theorem KM(f g:Str)(v:V):∀fs:List (Str×V),(Xe f v fs).lookup g=if g=f then some v else fs.lookup g
 |[]=>by
  show List.lookup g [(f,v)]=_;by_cases h:g=f
  ·have hb:(g==f)=true:=RM.mpr h;simp only[List.lookup,hb,Uf h]
  ·have hb:(g==f)=false:=Ta.mpr h;simp only[List.lookup,hb,Uh h]
 | (k,x)::r=>by
  have ih:=KM f g v r;rw[show Xe f v ((k,x)::r)=(if k=f then (k,v)::r else (k,x)::Xe f v r) from rfl];by_cases hk:k=f
  ·rw[Uf hk];by_cases h:g=k
   ·have hb:(g==k)=true:=RM.mpr h;simp only[List.lookup,hb,Uf (h.trans hk)]
   ·have hb:(g==k)=false:=Ta.mpr h;simp only[List.lookup,hb,Uh (λe:g=f=>h (e.trans hk.symm))]
  ·rw[Uh hk];by_cases h:g=k
   ·have hb:(g==k)=true:=RM.mpr h;simp only[List.lookup,hb,Uh (λe:g=f=>hk (h.symm.trans e))]
   ·have hb:(g==k)=false:=Ta.mpr h;simp only[List.lookup,hb];exact ih
theorem Ki(f:Str)(v:V):∀fs:List (Str×V),f∈(Xe f v fs).map (·.1)/\∀g,g∈fs.map (·.1)->g∈(Xe f v fs).map (·.1)
 |[]=>⟨by simp[Xe],λg h=>by simp at h⟩| (k,x)::r=>by
  obtain⟨i1,i2⟩:=Ki f v r;rw[show Xe f v ((k,x)::r)=(if k=f then (k,v)::r else (k,x)::Xe f v r) from rfl];by_cases hk:k=f
  ·rw[Uf hk];subst hk;exact⟨by simp,λg h=>by simpa using h⟩
  ·rw[Uh hk];refine⟨?_,λg h=>?_⟩
   ·rw[UH];exact Uz _ i1
   ·rw[UH]at h ⊢;rcases UG.mp h with e|e
    ·exact UG.mpr (.inl e)
    ·exact Uz _ (i2 g e)
theorem KN(f:Str)(v:V):∀fs:List (Str×V),(Xe f v fs).length<=fs.length+1
 |[]=>by simp[Xe]
 | (k,x)::r=>by
  have ih:=KN f v r;rw[show Xe f v ((k,x)::r)=(if k=f then (k,v)::r else (k,x)::Xe f v r) from rfl];by_cases hk:k=f
  ·rw[Uf hk,UJ,UJ];omega
  ·rw[Uh hk,UJ,UJ];omega
theorem RelO.some_of(r:RelO (some v) o):∃u,o=some u/\RelV v u:=by
 cases o with
 |none=>exact(show False from r).elim|some u=>exact⟨u,rfl,r⟩
theorem RelO.none_of(r:RelO none o):o=none:=by
 cases o with
 |none=>rfl|some u=>exact(show False from r).elim
theorem M5(r:RelV v u):handedIn u=true:=by
 cases v with
 |non=>cases (show u=Value.none from r);rfl|bl b=>cases (show u=Value.bool b from r);rfl|int i=>obtain⟨t,e⟩:=(show ∃t,u=Value.int i t from r);cases e;rfl|str x=>obtain⟨t,e⟩:=(show ∃t,u=Value.str x t from r);cases e;rfl|byt b=>obtain⟨t,e⟩:=(show ∃t,u=Value.bytes b t from r);cases e;rfl|flt b=>obtain⟨t,e⟩:=(show ∃t,u=Value.float b t from r);cases e;rfl|ref a=>cases (show u=Value.ref a from r);rfl|ty n=>cases (show u=Value.type n from r);rfl
theorem Cm(hok:HOk P w H h)(e:H a=some (.ins C dx fs)):∃mA,ObjM h a dx C mA/\(∀f,RelO (fs.lookup f) (mA f))/\PySem.Within mA (fs.map (·.1))/\fs.length<=1000/\H dx=some (.own a):=by obtain⟨d,z,ne,ob,mA,n,r,q⟩:=(show ObjOk P w H h a (.ins C dx fs) from hok a _ e);exact⟨mA,⟨ob,n,ne⟩,r,q,z,d⟩
structure Cls(K:Frag)(C:Addr):Prop where
 pg:plainGet K C Str.empty=true
 hd:hasDictIn K C=true
 po:plainOver K C=true
 sa:findIn K (.ref C) "__setattr__"=some (some (.builtin "object.__setattr__"))
theorem Cls.get{K:Frag}{C:Addr}(c:Cls K C)(f:Str):plainGet K C f=true:=c.pg
def NoAttr(K:Frag)(C:Addr)(f:Str):Prop:=findIn K (.ref C) f=some none
theorem NoAttr.taker{K:Frag}{C:Addr}{f:Str}(n:NoAttr K C f):takerIn K C f=some none:=by unfold takerIn;rw[show findIn K (.ref C) f=some none from n];rfl
structure Meth(K:Frag)(C:Addr)(m:Str)(f:Addr):Prop where
 at_:findIn K (.ref C) m=some (some (.ref f))
 fn:isFn K (.ref f)=true
 kp:keepIn K (.ref f)=true
theorem Ir{b:Bool}{Q:VP}(I:Inv X pins σ H s)(e:H a=some (.ins C dx fs))(c:Cls X.K C)(n:NoAttr X.K C f)(l:fs.lookup f=some v)(h:∀u s',Inv X pins σ H s'->RelV v u->Q u s'):wpAny (model X.prog X.w) A (getAttr (.ref a) f b) Q E s:=by obtain⟨mA,O,r,_,_,_⟩:=Cm I.hok e;obtain⟨u,hu,ru⟩:=RelO.some_of (v:=v) (o:=mA f) (by rw[<-l];exact r f);exact AH I.kIn O (c.get f) c.hd n hu (M5 ru) (h u _ (I.tok _) ru)
theorem CO{m:Str}{g:Addr}{pl:Sem Bool}{Q:Value×List Value->Shared->Prop}(I:Inv X pins σ H s)(e:H a=some (.ins C dx fs))(c:Cls X.K C)(k:Meth X.K C m g)(l:fs.lookup m=none)(h:Q (.ref g,[.ref a]) s):wpAny (model X.prog X.w) A (getMethod (.ref a) m pl) Q E s:=by obtain⟨mA,O,r,_,_,_⟩:=Cm I.hok e;have hn:mA m=none:=RelO.none_of (by rw[<-l];exact r m);exact OD I.kIn O (c.get m) k.at_ k.fn hn h
theorem setattr_ok{y:V}{u:Value}{Q:Unit->Shared->Prop}(I:Inv X pins σ H s)(e:H a=some (.ins C dx fs))(c:Cls X.K C)(n:NoAttr X.K C f)(hl:fs.length<1000)(ry:RelV y u)(h:∀s',Inv X pins σ (Za H a (.ins C dx (Xe f y fs))) s'->Q () s'):wpAny (model X.prog X.w) A (setAttr (.ref a) f u) Q E s:=by
 obtain⟨mA,O,r,wi,_,ho⟩:=Cm I.hok e;have hz:(fs.map (·.1)).length<=sizeLine:=by rw[Ue,TU];omega
 refine AI I.kIn O c.sa c.po n.taker c.hd wi hz λh' O' sb=>h _ ?_;have hd:∃o,h'.get? dx=some o:=let ⟨o,_,_,e',_⟩:=O'.ns;⟨o,e'⟩;refine I.write (x:=a) (e:=dx) (by rw[e];exact True.intro) (.inr ho) (λb q hb z=>(sb.2 b hb).trans z) hd ?_;refine⟨by rw[QH O.ne];exact ho,?_,O.ne,O'.obj,_,O'.ns,λg=>?_,λg hg=>?_⟩
 ·have:=KN f y fs;omega
 ·show RelO ((Xe f y fs).lookup g) (if g=f then some u else mA g);rw[KM];by_cases q:g=f
  ·rw[Uf q,Uf q];exact ry
  ·rw[Uh q,Uh q];exact r g
 ·by_cases q:g=f
  ·rw[q];exact(Ki f y fs).1
  ·refine(Ki f y fs).2 g (wi g λz=>hg ?_);show(if g=f then some u else mA g)=none;rw[Uh q];exact z
theorem Inv.made(I:Inv X pins σ H s):Inv X pins σ (Za (Za H s.heap.objs.size (.own (s.heap.objs.size+1))) (s.heap.objs.size+1) (.ins C s.heap.objs.size []))
  {s with heap:=(s.heap.push emptyDict).push (instObj C s.heap.objs.size)}:=by
 have e1:(s.heap.push emptyDict).get? s.heap.objs.size=some emptyDict:=Uu s.heap rfl;have e2:((s.heap.push emptyDict).push (instObj C s.heap.objs.size)).get? (s.heap.objs.size+1)=some (instObj C s.heap.objs.size):=by have:=Uu (s.heap.push emptyDict) (o:=instObj C s.heap.objs.size) rfl;rwa[Rv]at this
 have e3:(s.heap.push emptyDict).Ns s.heap.objs.size (λ_=>none):=⟨emptyDict,#[],_,e1,rfl,(λe he=>absurd he (by simp)),λ_=>rfl⟩;have I1:=I.laid (a:=s.heap.objs.size) (o:=.own (s.heap.objs.size+1)) (h':=s.heap.push emptyDict) (t':=s.toks) (λb u q=>Ub _ q) (Ug _) ⟨_,e1⟩;refine I1.laid (a:=s.heap.objs.size+1) (o:=.ins C s.heap.objs.size []) (t':=s.toks) (λb u q=>Ub _ q) (WP (Rv _ _)) ?_;have ne:s.heap.objs.size≠s.heap.objs.size+1:=UY (T6 _);refine⟨by rw[QH ne,Qr],Tv _,ne,e2,λ_=>none,(Heap.Ns1.of_empty e3).at λo q=>Ub _ q,λ_=>True.intro,λy hy=>absurd rfl hy⟩
theorem AJ{prog:Program}{w:World}{env:Env}{e:Expr}{f:Str}{pos:Pos}{s:Shared}{Q:VP}(hb:attributeBase e f env (eval e env)=eval e env)(h:wpAny (model prog w) A (eval e env) (λo s₁=>wpAny (model prog w) A (getAttr o f true) Q E s₁) E s):wpAny (model prog w) A (eval (.Attribute e f pos) env) Q E s:=Attribute_any_ h (by rw[arm_eval_Attribute,hb])
def qC(K:Frag)(ta:TE)(f:Str):TE:=λσ H Q=>ta σ H λx H1=>∃a C dx fs v,x=.ref a/\H1 a=some (.ins C dx fs)/\Cls K C/\NoAttr K C f/\fs.lookup f=some v/\Q v H1
def qD(K:Frag)(ta tv:TE)(f:Str):TS:=λD σ H=>tv σ H λy H1=>ta σ H1 λx H2=>∃a C dx fs,x=.ref a/\H2 a=some (.ins C dx fs)/\Cls K C/\NoAttr K C f/\fs.length<1000/\D.nx σ (Za H2 a (.ins C dx (Xe f y fs)))
theorem cW(he:PE X e ta)(hb:attributeBase e f X.env (eval e X.env)=eval e X.env):PE X (.Attribute e f pos) (qC X.K ta f):=by intro pins s σ H Q I h;refine AJ hb (Zx (he pins s σ H _ I h) λu s1 ⟨x,H1,I1,rx,a,C,dx,fs,v,ex,ea,c,n,l,q⟩=>?_);subst ex;obtain rfl:u=Value.ref a:=rx;exact Ir I1 ea c n l λu' s2 I2 ru=>⟨v,H1,I2,ru,q⟩
theorem cX(ha:PE X o ta)(hv:PE X value tv)(hs:swapsWith value (some (.Attribute o f pos')) pos.line X.env=pure false):PS X (.Assign [.Attribute o f pos'] value pos) (qD X.K ta tv f):=by intro pins s σ H D I h;refine plainObj_wpAny_Assign_Attribute (Zx (hv pins s σ H _ I h) λu s1 ⟨y,H1,I1,ry,q⟩=>Zx (ha pins s1 σ H1 _ I1 q) λov s2 ⟨x,H2,I2,rx,a,C,dx,fs,ex,ea,c,n,l,q2⟩=>?_) hs;subst ex;obtain rfl:ov=Value.ref a:=rx;exact setattr_ok I2 ea c n l ry λs3 I3=>⟨σ,_,I3,q2⟩
inductive TyOf(K:Frag)(H:Hp):V->Value->Prop where
 |non:TyOf K H .non (.type "NoneType")
 |bl (x:Bool):TyOf K H (.bl x) (.type "bool")
 |int (i:Int):TyOf K H (.int i) (.type "int")
 |str (x:Str):TyOf K H (.str x) (.type "str")
 |flt (x:UInt64):TyOf K H (.flt x) (.type "float")
 |lst {a:Addr} {xs:List V} (e:H a=some (.lst xs)):TyOf K H (.ref a) (.type "list")
 |frz {a:Addr} {o:Obj} {xs:List V} (e:H a=some (.frz o (.lst xs))):TyOf K H (.ref a) (.type "list")
 |tup {a:Addr} {xs:List V} (e:H a=some (.tup xs)):TyOf K H (.ref a) (.type "tuple")
 |dK {a:Addr} {kvs:List (X6×V)} (e:H a=some (.dK kvs)):TyOf K H (.ref a) (.type "dict")
 |dT {a:Addr} {kvs:List (List X6×V)} (e:H a=some (.dT kvs)):TyOf K H (.ref a) (.type "dict")
 |ins {a C dx:Addr} {fs:List (Str×V)} (e:H a=some (.ins C dx fs)) (cl:Cls K C) (ha:findIn K (.ref C) "__class__"=some (some (.builtin "object.__class__")))
   (hn:specialIn K (.builtin "object.__class__") "__get__"=some (some (.builtin "getset_descriptor.__get__"))) (htk:takesIn K (.builtin "object.__class__")=some true)
   (hm:mroIn K C (.type "object")=some true):TyOf K H (.ref a) (.ref C)
theorem Jl(I:Inv X pins σ H s)(rx:RelV x u)(ty:TyOf X.K H x t)(e:kitOne X.K t c=some b)(h:∀tk,Q (.bool b) {s with toks:=tk}):
  wpAny (model X.prog X.w) A (call (.builtin "isinstance") [u,c]) Q E s:=by
 cases ty with
 |non=>cases (show u=Value.none from rx);exact Tc kitx_none I.kIn True.intro e (λz=>nomatch z) h|bl y=>cases (show u=Value.bool y from rx);exact Tc kitx_bool I.kIn True.intro e (λz=>nomatch z) h|int i=>obtain⟨t,q⟩:=(show ∃t,u=Value.int i t from rx);cases q;exact Tc kitx_int I.kIn True.intro e (λz=>nomatch z) h|str y=>obtain⟨t,q⟩:=(show ∃t,u=Value.str y t from rx);cases q;exact Tc kitx_str I.kIn True.intro e (λz=>nomatch z) h|flt y=>obtain⟨t,q⟩:=(show ∃t,u=Value.float y t from rx);cases q;exact Tc kitx_float I.kIn True.intro e (λz=>nomatch z) h|@lst a xs ea =>cases (show u=Value.ref a from rx);obtain⟨_,_,n,_,h1⟩:=(show ObjOk X.prog X.w H s.heap a (.lst xs) from I.hok a _ ea);exact Tc Wd I.kIn ⟨_,h1,rfl⟩ e (λz=>nomatch z) h|@frz a ob xs ea =>cases (show u=Value.ref a from rx);obtain⟨_,_,_,n,_,h1⟩:=(show ObjOk X.prog X.w H s.heap a (.frz ob (.lst xs)) from I.hok a _ ea);exact Tc Wd I.kIn ⟨_,h1,rfl⟩ e (λz=>nomatch z) h|@tup a xs ea =>cases (show u=Value.ref a from rx);obtain⟨_,_,_,p⟩:=(show ObjOk X.prog X.w H s.heap a (.tup xs) from I.hok a _ ea);obtain⟨o,h1,h2,_⟩:=p;exact Tc Bs I.kIn ⟨o,h1,h2⟩ e (λz=>nomatch z) h|@dK a kvs ea =>cases (show u=Value.ref a from rx);obtain⟨_,_,vs,_,p⟩:=(show ObjOk X.prog X.w H s.heap a (.dK kvs) from I.hok a _ ea);obtain⟨o,es,ep,h1,h2,_⟩:=p;exact Tc BI I.kIn ⟨o,h1,h2.1⟩ e (λz=>nomatch z) h|@dT a kvs ea =>cases (show u=Value.ref a from rx);obtain⟨_,_,xs,_,o,es,ep,h1,h2,_⟩:=(show ObjOk X.prog X.w H s.heap a (.dT kvs) from I.hok a _ ea);exact Tc BI I.kIn ⟨o,h1,h2.1⟩ e (λz=>nomatch z) h|@ins a C dx fs ea cl ha hn htk hm =>cases (show u=Value.ref a from rx);obtain⟨mA,O,_⟩:=Cm I.hok ea;obtain⟨od,J,_⟩:=O.look;exact Tc (kitx_own (cl.get _) cl.hd ha hn htk hm) I.kIn J e (λz=>nomatch z) h
structure Room(k:Nat)(A:Around):Prop where
 hd:A.handled=none
 dp:A.depth+3*k+5<recursionLimit
 un:A.units+16*k+200<cLine
theorem Room.mono(r:Room k A)(h:j<=k):Room j A:=⟨r.hd,by have:=r.dp;omega,by have:=r.un;omega⟩
theorem Room.deeper(r:Room (k+1) A)(env:Env):Room k (A.deeper env):=⟨r.hd,by have:=r.dp;show A.depth+1+3*k+5<_;omega,by have:=r.un;show A.units+3+16*k+200<_;omega⟩
theorem Iu{A:Around}{C:Addr}{us:List Value}{kw:List (Str×Value)}:(A.under (.builtin "type.__call__" ⟨.ref C::us,kw⟩)).depth=A.depth+1:=by first|rfl|simp[Around.under,Code.weight,Code.isCreation,Code.isGuard,Code.isCaller,Code.frames,Code.isFrame,guardIds]
theorem Iv{A:Around}{C:Addr}{us:List Value}{kw:List (Str×Value)}:(A.under (.builtin "type.__call__" ⟨.ref C::us,kw⟩)).units=A.units+1:=by first|rfl|simp[Around.under,Code.cUnits,Code.frames,Code.isFrame]
theorem Room.make(r:Room (k+1) A)(C:Addr)(us:List Value)(kw:List (Str×Value)):Room k (A.under (.builtin "type.__call__" ⟨.ref C::us,kw⟩)):=⟨r.hd,by have:=r.dp;rw[Iu];omega,by have:=r.un;rw[Iv];omega⟩
theorem Room.depth(r:Room k A):A.depth<recursionLimit:=by have:=r.dp;omega
theorem Room.units(r:Room k A):A.units+64<cLine:=by have:=r.un;omega
def qE:TA:=λ_ H Q=>Q [] H
def kE(ta:TE)(tr:TA):TA:=λσ H Q=>ta σ H λx H1=>tr σ H1 λxs H2=>Q (x::xs) H2
theorem FL:PA X [] qE:=λ_ _ _ _ H Q I h=>Calls.spliced_nil ⟨[],H,I,.nil,h⟩
theorem Xf(ha:PE X e te)(hr:PA X es t)(hs:starEach (e::es) X.env=(false,eval e X.env)::starEach es X.env:=by rfl):PA X (e::es) (kE te t):=by intro pos pins s σ H Q I h;rw[hs];show wpAny _ _ (spliced ((false,eval e X.env)::backTo pos (starEach es X.env))) _ _ s;refine Calls.spliced_cons (Zx (ha pins s σ H _ I h) λu s1 ⟨x,H1,I1,r1,q1⟩=>?_);exact Zx (hr pos pins s1 σ H1 _ I1 q1) λus s2 ⟨xs,H2,I2,r2,q2⟩=>⟨x::xs,H2,I2,.cons r1 r2,q2⟩
def qG(t:TA):TE:=λσ H Q=>t σ H λxs H1=>xs.length<=sizeLine/\∀p,H1 p=none->Q (.ref p) (Za H1 p (.tup xs))
def qH(t:TA):TE:=λσ H Q=>t σ H λxs H1=>xs.length<=sizeLine/\∀p,H1 p=none->Q (.ref p) (Za H1 p (.lst xs))
theorem OF(h:PA X es t):PE X (.Tuple es x1 pos) (qG t):=by intro pins s σ H Q I hq;refine wpAny_Tuple_spliced (Zx (h pos pins s σ H _ I hq) λus s1 ⟨xs,H1,I1,r,z,q⟩=>⟨by rw[<-r.length];exact z,?_⟩);have hf:H1 s1.heap.objs.size=none:=I1.hok.fresh (Ug _);refine⟨.ref s1.heap.objs.size,Za H1 s1.heap.objs.size (.tup xs),I1.laid (t':=s1.toks) (λb u e=>Ub _ e) (Ug _) ?_,rfl,q _ hf⟩;exact⟨z,us,r,⟨_,Uu _ rfl,rfl,_,rfl⟩⟩
theorem cY(h:PA X es t):PE X (.List es pos) (qH t):=by intro pins s σ H Q I hq;refine wpAny_List_spliced (Zx (h pos pins s σ H _ I hq) λus s1 ⟨xs,H1,I1,r,z,q⟩=>⟨by rw[<-r.length];exact z,?_⟩);have hf:H1 s1.heap.objs.size=none:=I1.hok.fresh (Ug _);refine⟨.ref s1.heap.objs.size,Za H1 s1.heap.objs.size (.lst xs),I1.laid (t':=s1.toks) (λb u e=>Ub _ e) (Ug _) ?_,rfl,q _ hf⟩;exact⟨z,us,0,r,Uu _ rfl⟩
abbrev Sp:=List V->Hp->VK->XK->Prop
abbrev AK:=List Env->Hp->Shared->XK->Value->Shared->Prop
structure Env0(P:Program)(w:World)(K:Frag)(mg:Xa)(base:Heap)(A:Around)(outer:List Env)(s:Shared)(H:Hp):Prop where
 frames:A.frames=some outer
 mod:Mod K mg base
 bs:∀b o,base.get? b=some o->s.heap.get? b=some o/\H b=none
 bsz:base.objs.size<=s.heap.objs.size
 funs:s.heap.FunFrames base outer
 frf:∀b∈MP outer,H b=none
 hok:HOk P w H s.heap
 bare:AllBare s.gens
def CE(outer:List Env)(P:Program)(w:World)(H:Hp)(s:Shared)(Q:VK)(u:Value)(s':Shared):Prop:=∃v H',s'.os=s.os/\AllBare s'.gens/\Un (MP outer) [] H H' s.heap s'.heap/\HOk P w H' s'.heap/\RelV v u/\Q v H'
def CR(CX:AK)(outer:List Env)(P:Program)(w:World)(H:Hp)(s:Shared)(Q:VK)(E:XK)(r:Result)(s':Shared):Prop:=
 match r with
 |.ok (.ret u)=>CE outer P w H s Q u s'|.ok _=>False|.error e=>CX outer H s E e s'
structure FnOk(P:Program)(w:World)(K:Frag)(mg:Xa)(base:Heap)(CX:AK)(k:Nat)(f:Addr)(fd:FuncData)(ps:List Str)(sp:Sp):Prop where
 len:∀vs H Q E,sp vs H Q E->vs.length=ps.length
 run:∀(A:Around)(outer:List Env)(s:Shared)(H:Hp)(args:Args)(us:List Value)(vs:List V)(Q:VK)(E:XK),Room k A->Env0 P w K mg base A outer s H->BindsTo s fd args (ps.zip us)->Vals vs us->sp vs H Q E->codeAny (model P w) A (.call (.ref f) args) (CR CX outer P w H s Q E) s
theorem Env0.make{P:Program}{w:World}{K:Frag}{mg:Xa}{base:Heap}{A:Around}{outer:List Env}{s:Shared}{H:Hp}(e:Env0 P w K mg base A outer s H)(C:Addr)(us:List Value)(kw:List (Str×Value)):
  Env0 P w K mg base (A.under (.builtin "type.__call__" ⟨.ref C::us,kw⟩)) outer s H:=⟨by first|exact e.frames|(simpa[Around.under,Code.envs,Code.isFrame,pushEnvs]using e.frames),e.mod,e.bs,e.bsz,e.funs,e.frf,e.hok,e.bare⟩
theorem Inv.env0(I:Inv X pins σ H s):Env0 X.prog X.w X.K X.mg X.base X.A X.stack s H:=⟨I.ok.frames,I.ok.mod,I.bs,Uk I.ok.bsz I.sz,I.stack,I.stkFree,I.hok,I.bare⟩
theorem Inv.after(I:Inv X pins σ H s)(h:CE X.stack X.prog X.w H s Q u s'):EP X pins σ Q u s':=by obtain⟨v,H',os,bare,un,hok,r,q⟩:=h;obtain⟨hh,g,d,t,os'⟩:=s';obtain rfl:os'=s.os:=os;exact⟨v,H',I.call (h':=hh) (g':=g) (d':=d) (t':=t) (ch:=[]) un hok bare (λb z=>absurd z (by simp)),r,q⟩
def Binds(K:Frag)(fd:FuncData)(ps:List Str)(ds:List Value):Prop:=∀(s:Shared)(us:List Value),K.In s.heap->(us++ds).length=ps.length->BindsTo s fd ⟨us,[]⟩ (ps.zip (us++ds))
theorem Binds.all{K:Frag}{fd:FuncData}{ps:List Str}(h:∀us:List Value,us.length=ps.length->bindArgs fd ⟨us,[]⟩=pure (ps.zip us)):Binds K fd ps []:=λs us _ hl=>by rw[U6]at hl ⊢;exact .of_eq (h us hl)
structure Mk(K:Frag)(C f:Addr):Prop where
 makes:makesIn K C=true
 init:findIn K (.ref C) "__init__"=some (some (.ref f))
 fn:isFn K (.ref f)=true
 kp:keepIn K (.ref C)=true
structure FnScope(N P:List Str)(sc:Scope):Prop where
 kind:sc.kind=.function
 co:sc.isCoroutine=false
 gen:sc.isGenerator=false
 nd:N.Nodup
 pre:N.take P.length=P
 par:∀x∈P,sc.names.lookup x=some .local\/sc.names.lookup x=some .cell
 nofree:∀y∈sc.names,y.2≠.free
theorem E9{kindOf:Str->Option NameKind}{x:Str}:∀{binds:List (Str×Value)}{m:Xa},(∀v,(x,v)∉binds)->bindL kindOf binds m x=m x
 |[],_,_=>rfl| (n,v)::r,m,h=>by
  unfold bindL;rw[E9 λw hw=>h w (Uz _ hw)];split
  ·have:x≠n:=by rintro rfl;exact h v Uy
   simp[this]
  ·rfl
theorem Fa{kindOf:Str->Option NameKind}{x:Str}:∀{binds:List (Str×Value)}{m:Xa},(∀v,(x,v)∉binds)->bindC kindOf binds m x=m x
 |[],_,_=>rfl| (n,v)::r,m,h=>by
  unfold bindC;rw[Fa λw hw=>h w (Uz _ hw)];split
  ·rfl
  ·have:x≠n:=by rintro rfl;exact h v Uy
   simp[this]
theorem Fb{kindOf:Str->Option NameKind}{x:Str}{v:Value}:∀{P:List Str}{vs:List Value}{i:Nat}{m:Xa},P.Nodup->P[i]?=some x->vs[i]?=some v->kindOf x=some .local->bindL kindOf (P.zip vs) m x=some v
 |[],_,_,_,_,h,_,_=>by simp at h
 |_::_,[],_,_,_,_,h,_=>by simp at h
 |p::P,w::vs,0,m,nd,h1,h2,hk=>by simp at h1 h2;subst h1;subst h2;show bindL kindOf ((p,w)::P.zip vs) m p=_;unfold bindL;rw[E9 λv hv=>(RB.mp nd).1 (pH hv).1,Uf hk];simp
 |p::P,w::vs,i+1,m,nd,h1,h2,hk=>by show bindL kindOf ((p,w)::P.zip vs) m x=_;unfold bindL;exact Fb (i:=i) (RB.mp nd).2 (by simpa using h1) (by simpa using h2) hk
theorem Fc{kindOf:Str->Option NameKind}{x:Str}{v:Value}:∀{P:List Str}{vs:List Value}{i:Nat}{m:Xa},P.Nodup->P[i]?=some x->vs[i]?=some v->kindOf x≠some .local->bindC kindOf (P.zip vs) m x=some v
 |[],_,_,_,_,h,_,_=>by simp at h
 |_::_,[],_,_,_,_,h,_=>by simp at h
 |p::P,w::vs,0,m,nd,h1,h2,hk=>by simp at h1 h2;subst h1;subst h2;show bindC kindOf ((p,w)::P.zip vs) m p=_;unfold bindC;rw[Fa λv hv=>(RB.mp nd).1 (pH hv).1,Uh hk];simp
 |p::P,w::vs,i+1,m,nd,h1,h2,hk=>by show bindC kindOf ((p,w)::P.zip vs) m x=_;unfold bindC;exact Fc (i:=i) (RB.mp nd).2 (by simpa using h1) (by simpa using h2) hk
def start(N:List Str)(vs:List V):St:=vs.map some++List.replicate (N.length-vs.length) none
def VF(CX:AK)(P:Program)(w:World)(K:Frag)(mg:Xa)(base:Heap)(N:List Str)(qual:Str)(scope:Scope)(f:Addr)(cd:Value)(A:Around)(outer:List Env)(s:Shared)(H:Hp)(E:XK):Cx where
 prog:=P
 w:=w
 K:=K
 mg:=mg
 base:=base
 A:=A.deeper (envOfC qual scope s.heap.objs.size f cd)
 N:=N
 s₀:=s
 H₀:=H
 env:=envOfC qual scope s.heap.objs.size f cd
 outer:=outer
 stack:=envOfC qual scope s.heap.objs.size f cd::outer
 ex:=[]
 calm:=true
 fn:=λ_=>true
 pn:=[]
 xe:=λe s'=>wpAny (model P w) (A.deeper (envOfC qual scope s.heap.objs.size f cd)) (leaving (envOfC qual scope s.heap.objs.size f cd) e) (λ_ s''=>CX outer H s E e s'') (λe' s''=>CX outer H s E e' s'') s'
theorem GT{sc:Scope}{n:Nat}{x:Str}(h:sc.names.lookup x=some .cell):∃c,(cellsFrom n sc.names []).lookup x=some c:=by have q:=B2 sc.names n [] (.inl h);exact Option.isSome_iff_exists.mp q
theorem M6{CX:AK}{P:Program}{w:World}{K:Frag}{mg:Xa}{base:Heap}{N ps:List Str}{qual:Str}{scope:Scope}{f:Addr}{cd:Value}{A:Around}{outer:List Env}{s s1:Shared}{H:Hp}{E:XK}{us:List Value}{vs:List V}(S:FnScope N ps scope)(hd:A.handled=none)(e0:Env0 P w K mg base A outer s H)(hl:vs.length=ps.length)(r:Vals vs us)(x:InCallC s s.heap.objs.size (bindL (envOfC qual scope s.heap.objs.size f cd).kindOf (ps.zip us) λ_=>none) (cellsFrom (s.heap.objs.size+1) scope.names []) (bindC (envOfC qual scope s.heap.objs.size f cd).kindOf (ps.zip us) λ_=>none) s1):
  Inv (VF CX P w K mg base N qual scope f cd A outer s H E) [] (start N vs) H s1:=by
 have hpl:ps.length<=N.length:=by have:=TY List.length S.pre;rw[Ti]at this;omega
 obtain⟨h1,tk,rfl,hk⟩:=x.done;have noA:∀b:Addr,b∉(VF CX P w K mg base N qual scope f cd A outer s H E).ex:=λb z=>absurd (show b∈([]:List Addr) from z) (by simp);refine⟨⟨e0.mod,S.kind,rfl,rfl,Ug _,λy z c h1 h2=>?_,λy hy=>?_,λy c _ h=>?_,λ_=>hd,Around.frames_deeper e0.frames,.inr ⟨rfl,rfl⟩,λb z=>absurd z (noA b),e0.bs,e0.bsz,λb _ _=>noA b,λb z=>absurd z (noA b),e0.funs,e0.frf⟩,rfl,e0.bare,Un.kept hk,⟨_,x.toInCall.ns,λi y v h1 h2 h3=>?_⟩,λy c h=>⟨_,x.cell y c h⟩,e0.hok.fresh (Ug _),λy c h=>?_,λp hp=>absurd (show p∈([]:YM) from hp) (by simp),e0.hok.kept hk,?_⟩
 ·exact name_of_addr x.apart (Rm h1) (Rm h2)
 ·have hy:scope.names.lookup y=some .cell\/scope.names.lookup y=some .free:=hy;rcases hy with hy|hy
  ·exact GT hy
  ·exact absurd rfl (S.nofree _ (Rm hy))
 ·exact Rf (x.above y c (Rm h))
 ·have hi:i<vs.length:=by
   unfold start at h2;by_cases hi:i<vs.length
   ·exact hi
   ·rw[UD (by simpa using hi)]at h2;rw[RP]at h2;split at h2<;>cases h2
  have ha:vs[i]?=some v:=by
   unfold start at h2;rw[Ul (by simpa using hi),UL]at h2;cases e:vs[i]? with
   |none=>rw[e]at h2;cases h2|some a=>rw[e]at h2;cases h2;rfl
  obtain⟨u,hu,rv⟩:=r.get ha;have hp:ps[i]?=some y:=by rw[<-S.pre,BN (by omega)];exact h1
  have ndP:ps.Nodup:=by rw[<-S.pre];exact S.nd.sublist (List.take_sublist _ _)
  refine⟨u,rv,?_⟩;rcases S.par y (TN hp) with k|k
  ·exact .inl ⟨k,Fb ndP hp hu k⟩
  ·obtain⟨c,e⟩:=GT (n:=s.heap.objs.size+1) k;refine .inr ⟨.inl k,c,e,?_⟩;have q:=x.cell y c e;rw[Fc ndP hp hu (by show scope.names.lookup y≠_;rw[k];decide)]at q;exact q
 ·exact e0.hok.fresh (Rf (x.above y c (Rm h)))
 ·unfold start;show _=N.length;rw[Uq,Ue,U9];omega
theorem kF{CX:AK}{P:Program}{w:World}{K:Frag}{mg:Xa}{base:Heap}{k:Nat}{f:Addr}{name qual:Str}{params:Arguments}{body:List Stmt}{scope:Scope}{dV kV doc pm cdv ct oc:Value}{an od:Option Addr}{osl:Array (Option Value)}{N ps:List Str}{sp:Sp}(lk:K.lookup f=some ⟨oc,od,.func (fnOf name qual params body scope dV kV doc pm an cdv ct),osl⟩)(hcd:codeIn K cdv qual=true)(S:FnScope N ps scope)(len:∀vs H Q E,sp vs H Q E->vs.length=ps.length)(hbody:∀(A:Around) (outer:List Env) (s:Shared) (H:Hp) (vs:List V) (Q:VK) (E:XK),Room k (A.deeper (envOfC qual scope s.heap.objs.size f cdv))->sp vs H Q E->∃t,Im (VF CX P w K mg base N qual scope f cdv A outer s H E) body t/\t {nx:=λ_ H'=>Q .non H',rt:=Q} (start N vs) H):
  FnOk P w K mg base CX (k+1) f (fnOf name qual params body scope dV kV doc pm an cdv ct) ps sp:=by
 refine⟨len,λA outer s H args us vs Q E hr e0 hb r hsp=>?_⟩;have hl:=len _ _ _ _ hsp;have KX:K.In s.heap:=e0.mod.kin.keeps λb o e=>(e0.bs b o e).1;have lim:s.heap.NoLimit:=e0.mod.nolimit.keeps λb o e=>(e0.bs b o e).1;have hkind:∀y∈ps.zip us,scope.names.lookup y.1=some .local\/(scope.names.lookup y.1=some .cell/\((cellsFrom (s.heap.objs.size+1) scope.names []).lookup y.1).isSome=true):=λ⟨n,v⟩ hy=>by
  rcases S.par n (pH hy).1 with q|q
  ·exact .inl q
  ·exact .inr ⟨q,B2 _ _ _ (.inl q)⟩
 refine codeAny_call_function hr.depth (KX _ _ lk) rfl S.co S.gen rfl (codeRec_of KX hcd) (hb _ _ _ _ ?_);refine wpAny_newFunctionEnv_cells S.kind hkind λenv he s1 x=>?_;subst he;refine⟨lim.keeps x.toInCall.keep,codeAny_func ?_⟩;obtain⟨t,ht,hq⟩:=hbody A outer s H vs Q E (hr.deeper _) hsp;have I:Inv (VF CX P w K mg base N qual scope f cdv A outer s H E) [] (start N vs) H s1:=M6 S hr.hd e0 hl r x;refine Rw (ht [] s1 (start N vs) H _ I hq) (λfl s' hs=>?_) λe s' hs=>hs;have fin:∀{σ':St}{H':Hp}{v:V}{u:Value},Inv (VF CX P w K mg base N qual scope f cdv A outer s H E) [] σ' H' s'->RelV v u->Q v H'->CE outer P w H s Q u s':=λ{σ' H' v u} J rv q=>⟨v,H',J.os,J.bare,J.base,J.hok,rv,q⟩
 cases fl with
 |ret u =>obtain⟨v,σ',H',J,rv,q⟩:=hs;exact fin J rv q|next =>obtain⟨σ',H',J,q⟩:=hs;exact fin (v:=V.non) (u:=Value.none) J rfl q|brk =>obtain⟨_,_,_,q⟩:=hs;exact False.elim q|cont =>obtain⟨_,_,_,q⟩:=hs;exact False.elim q
section
variable{X:Cx}{x:Str}{p pos:Pos}{e:Expr}{es:List Expr}{t:TA}{id T:String}{r:List V->Hp->VK->Prop}
def sJ(r:List V->Hp->VK->Prop)(t:TA):TE:=λσ H Q=>t σ H λvs H1=>r vs H1 Q
theorem VG(hc:YA X (.builtin id) r)(hg:Gl X x)(hm:X.mg x=none)(hv:bootBuiltins x=some (.builtin id))(ha:PA X (e::es) t)(hn:x ≠"__name__":=by decide)(hdb:(x==("__debug__" : Str))=false:=by decide)(he:starEach (e::es) X.env=(false,eval e X.env)::starEach es X.env:=by rfl)(hpl:(backTo pos (starEach es X.env)).any (·.1)=false:=by rfl):PE X (.Call (.Name x p) (e::es) [] pos) (sJ r t):=by intro pins s σ H Q I h;refine RT (Xc I hg hm hv ?_ hn hdb);exact PyProof.Rows.callWith_builtin1 (Zx (ha pos pins s σ H _ I h) λus s1 ⟨vs,H1,I1,r1,q1⟩=>hc pins s1 σ H1 vs us Q I1 r1 q1) he hpl
theorem M7(hc:YA X (.type T) r)(hg:Gl X x)(hm:X.mg x=none)(hv:bootBuiltins x=some (.type T))(ha:PA X (e::es) t)(hn:x ≠"__name__":=by decide)(hdb:(x==("__debug__" : Str))=false:=by decide)(he:starEach (e::es) X.env=(false,eval e X.env)::starEach es X.env:=by rfl)(hpl:(backTo pos (starEach es X.env)).any (·.1)=false:=by rfl):PE X (.Call (.Name x p) (e::es) [] pos) (sJ r t):=by intro pins s σ H Q I h;refine RT (Xc I hg hm hv ?_ hn hdb);exact U7 (Zx (ha pos pins s σ H _ I h) λus s1 ⟨vs,H1,I1,r1,q1⟩=>hc pins s1 σ H1 vs us Q I1 r1 q1) he hpl
end
end L2
namespace HT
open PySem PyProof.Rows
theorem cat_tup{t b:Addr}{vs ws:List Value}{Q:VP}(ht:IsTup s.heap t vs.toArray)(hb:IsTup s.heap b ws.toArray)(hv:vs≠[])(h1:ws=[]->Q (.ref t) s)(h2:ws≠[]->Q (.ref s.heap.objs.size) {s with heap:=s.heap.push {cls:=.type "tuple",data:=.seq (vs++ws).toArray} })(hsz:vs.length+ws.length<=sizeLine):wpAny (model prog w) A (binaryOp .Add (.ref t) (.ref b)) Q E s:=by
 obtain⟨⟨cls,dd,data,sl⟩,ho,hc,n,hd⟩:=id ht;obtain⟨⟨cls2,dd2,data2,sl2⟩,ho2,hc2,n2,hd2⟩:=id hb;simp only at hc hd hc2 hd2;subst hc hd hc2 hd2;have e:vs.toArray++ws.toArray=(vs++ws).toArray:=by simp
 by_cases hw:ws=[]
 ·exact concat_meets ⟨_,ho,rfl⟩ ⟨_,ho2,rfl⟩ BY seq_tuple_add WE Ww (Wq _ _)
   (tuple_addW1 t b vs.toArray ws.toArray n n2 dd dd2 sl sl2 (by simpa using hv) (by simp[hw])) ⟨ho,ho2,h1 hw⟩
 ·refine concat_meets ⟨_,ho,rfl⟩ ⟨_,ho2,rfl⟩ BY seq_tuple_add WE Ww (Wq _ _)
   (tuple_addW2 t b vs.toArray ws.toArray n n2 dd dd2 sl sl2 (by simpa using hv) (by simpa using hw) (by rw[Ux,Ux];exact hsz)) ⟨ho,ho2,?_⟩
  rw[e];exact h2 hw
def sIx(n d:Nat):Option Int->Nat
 |none=>d|some v=>if v<0 then (v+(n:Int)).toNat else min v.toNat n
theorem cZ(n d:Nat)(hd:d<=n)(o:Option Int):sIx n d o<=n:=by
 cases o with
 |none=>exact hd|some v=>
  show(if v<0 then (v+(n:Int)).toNat else min v.toNat n)<=n;by_cases hv:v<0
  ·rw[Uf hv];omega
  ·rw[Uh hv];exact Nat.min_le_right _ _
theorem LF(v:Int)(n d:Nat):(if v<0 then max (v+(n:Int)) 0 else min v (n:Int))=((sIx n d (some v):Nat):Int):=by
 show(if v<0 then max (v+(n:Int)) 0 else min v (n:Int))=(((if v<0 then (v+(n:Int)).toNat else min v.toNat n):Nat):Int);by_cases hv:v<0
 ·simp only[Uf hv];omega
 ·simp only[Uh hv];omega
theorem Iw(lo hi:Option Int)(n:Nat):Builtin.Slice.sliceAdjust lo hi 1 (n:Int)=(((sIx n 0 lo:Nat):Int),((sIx n n hi:Nat):Int)):=by
 have h1:¬((1:Int)<0):=by omega
 unfold Builtin.Slice.sliceAdjust;simp only[h1,Rn];refine jC ?_ ?_
 ·cases lo with
  |none=>rfl|some v=>exact LF v n 0
 ·cases hi with
  |none=>rfl|some v=>exact LF v n n
theorem Iy(i j:Nat):Builtin.Slice.slicePlaces (i:Int) (j:Int) 1=j-i:=by
 unfold Builtin.Slice.slicePlaces;have h1:(1:Int)>0:=by omega
 simp only[h1,W6,Int.ediv_one];split<;>omega
theorem CP(p:IsPart v o)(h:Q o s):wpAny (model prog w) A (Builtin.Slice.slicePartIndex v) Q E s:=by
 cases p with
 |none=>exact slicePart_none h|int i t=>exact slicePart_int h
theorem sliceApplied_gen{sl:Addr}{vl vu:Value}{lo hi:Option Int}{n:Nat}{Q:Int×Int×Nat->Shared->Prop}(hs:s.heap.IsSliceOf sl vl vu .none)(pl:IsPart vl lo)(pu:IsPart vu hi)(h:Q (((sIx n 0 lo:Nat):Int),1,sIx n n hi-sIx n 0 lo) s):wpAny (model prog w) A (Builtin.Slice.sliceApplied (.ref sl) (pure (n:Int))) Q E s:=by obtain⟨os,hos,hcs,hds⟩:=id hs;unfold Builtin.Slice.sliceApplied Builtin.Slice.sliceFields;refine Ua (Ua (Rh hos hds (x:=vl) rfl (Ua (Rh hos hds (x:=vu) rfl (Ua (Rh hos hds (x:=.none) rfl (Uc ?_)))))));refine Ua (slicePart_none ?_);show wpAny _ _ (if ((1:Int)==0)=true then _ else _) _ _ s;rw[Uh (by decide)];refine Ua (CP pl (Ua (CP pu (Ua (Uc ?_)))));show wpAny _ _ (match Builtin.Slice.sliceAdjust lo hi 1 (n:Int) with|(lo,hi)=>pure (lo,(1:Int),Builtin.Slice.slicePlaces lo hi 1)) _ _ s;rw[Iw lo hi n];show wpAny _ _ (pure (((sIx n 0 lo:Nat):Int),(1:Int),Builtin.Slice.slicePlaces ((sIx n 0 lo:Nat):Int) ((sIx n n hi:Nat):Int) 1)) _ _ s;rw[Iy];exact Uc h
theorem OG(xs:Array Value)(i k:Nat):((List.range k).filterMap λ(m:Nat)=>xs[((i:Int)+(m:Int)*1).toNat]?).toArray=((xs.toList.drop i).take k).toArray:=by
 have e:(λ(m:Nat)=>xs[((i:Int)+(m:Int)*1).toNat]?)=λm=>xs[i+m]?:=by
  funext m;have:((i:Int)+(m:Int)*1).toNat=i+m:=by omega
  rw[this]
 rw[e];have:=pick_run xs i k;rw[List.filterMap_map]at this;have e2:((λx=>xs[x]?)∘λx=>i+x)=λm=>xs[i+m]?:=rfl;rw[e2]at this;rw[this]
theorem getItem_tuple_cut{t sl:Addr}{items:Array Value}{vl vu:Value}{lo hi:Option Int}{Q:VP}(ht:IsTup s.heap t items)(hs:s.heap.IsSliceOf sl vl vu .none)(pl:IsPart vl lo)(pu:IsPart vu hi)(hw:¬(sIx items.size 0 lo=0/\sIx items.size items.size hi=items.size))(h:Q (.ref s.heap.objs.size) {s with heap:=s.heap.push {cls:=.type "tuple",data:=.seq ((items.toList.drop (sIx items.size 0 lo)).take (sIx items.size items.size hi-sIx items.size 0 lo)).toArray} })(hsz:items.size<=sizeLine):wpAny (model prog w) A (getItem (.ref t) (.ref sl)) Q E s:=by
 have htake:sizeOk (.seq ((items.toList.drop (sIx items.size 0 lo)).take (sIx items.size items.size hi-sIx items.size 0 lo)).toArray):=by show((items.toList.drop (sIx items.size 0 lo)).take (sIx items.size items.size hi-sIx items.size 0 lo)).toArray.size<=sizeLine;rw[Ux,Ti,Rs,Uo];omega
 have hj:sIx items.size items.size hi<=items.size:=cZ _ _ (Ug _) hi;obtain⟨os,hos,hcs,hds⟩:=id hs;have hTs:s.TypeIs (.ref sl) "slice":=⟨os,hos,hcs⟩;unfold getItem;try with_reducible refine Tt ?_
 first|refine Ua (Uc ?_)|skip
 refine Ua (wpAny_sequenceKey ht.typeIs (by decide) ?_);refine Ua (U0 (name:=Str.ofString "__getitem__") ht.typeIs U8
  (UW U8 ht.typeIs entry_tuple_getitem ?_ (args_tuple_getitem _ _)))
 show wpAny _ _ (Builtin.Tuple.tupleItemsOf (.ref t) >>= _) _ _ s;refine Ua (tupleItemsOf_ ht ?_);refine Ua (Rr hTs ?_);rw[Uf (by decide)];refine Ua (sliceApplied_gen hs pl pu ?_);have hno:¬((((sIx items.size 0 lo:Nat):Int)==0&&(1:Int)==1&&(sIx items.size items.size hi-sIx items.size 0 lo)==items.size)=true):=by intro q;rw[UN,UN]at q;have q1:((sIx items.size 0 lo:Nat):Int)=0:=eq_of_beq q.1.1;have q2:sIx items.size items.size hi-sIx items.size 0 lo=items.size:=eq_of_beq q.2;exact hw ⟨by omega,by omega⟩
 show wpAny _ _ (if (((sIx items.size 0 lo:Nat):Int)==0&&(1:Int)==1&&(sIx items.size items.size hi-sIx items.size 0 lo)==items.size)=true then _ else _) _ _ s;rw[Uh hno,OG];first
  |exact Ua (m:=Builtin.Tuple.tupleExact _) (UP (Uc ⟨_,rfl,Uc h⟩) htake)
  |exact Ua (m:=Builtin.Tuple.tupleExact _) (UP (Ua (Uc (Uc ⟨_,rfl,Uc h⟩))) htake)
  |exact Ua (Ua (m:=Builtin.Tuple.tupleExact _) (UP (Uc (Uc ⟨_,rfl,Uc h⟩)) htake))
  |exact Ua (Ua (m:=Builtin.Tuple.tupleExact _) (UP (Uc ⟨_,rfl,Uc h⟩) htake))
end HT
namespace L2
open PySem PySem.Spec PyProof.Rows
abbrev TO:=St->Hp->(Option Int->Hp->Prop)->Prop
def PO(X:Cx)(e:Option Expr)(t:TO):Prop:=∀(pins:YM)(s:Shared)(σ:St)(H:Hp)(Q:Option Int->Hp->Prop),Inv X pins σ H s->t σ H Q->wpAny (model X.prog X.w) X.A (evalPart e X.env) (λu s'=>∃o H',Inv X pins σ H' s'/\IsPart u o/\Q o H') X.xe s
def AL:TO:=λ_ H Q=>Q none H
def kG(t:TE):TO:=λσ H Q=>t σ H λx H1=>∃i,x=.int i/\Q (some i) H1
theorem CQ:∀{us:List Value},Vals (ns.map V.int) us->IntsAre us ns:=by
 induction ns with
 |nil=>intro us r;rw[List.map_nil]at r;cases r;exact .nil|cons n ns ih=>
  intro us r;rw[UH]at r;cases r with
  |cons r1 r2 =>obtain⟨t,e⟩:=r1;subst e;exact .cons n t (ih r2)
section
variable{X:Cx}{e:Expr}{te:TE}{lo hi:Option Expr}{tl th:TO}{pos p2:Pos}
theorem AM:PO X none AL:=by intro pins s σ H Q I h;rw[evalPart_none];exact Uc ⟨none,H,I,.none,h⟩
theorem AN(h:PE X e te):PO X (some e) (kG te):=by intro pins s σ H Q I hw;rw[evalPart_some];refine Zx (h pins s σ H _ I hw) λu s1 ⟨x,H1,I1,r1,q1⟩=>?_;obtain⟨i,rfl,q⟩:=q1;obtain⟨t,rfl⟩:=r1;exact⟨some i,H1,I1,.int i t,q⟩
def SlR(X:Cx)(r:V->Option Int->Option Int->Hp->VK->Prop):Prop:=∀(pins:YM)(s:Shared)(σ:St)(H:Hp)(x:V)(v vl vu:Value)(lo hi:Option Int)(sl:Addr)(Q:VK),Inv X pins σ H s->RelV x v->s.heap.IsSliceOf sl vl vu .none->IsPart vl lo->IsPart vu hi->r x lo hi H Q->∃T id,typeLookup (.type T) "__getitem__"=pure (some (.builtin id))/\s.TypeIs v T/\wpAny (model X.prog X.w) X.A (getItem v (.ref sl)) (EP X pins σ Q) X.xe s
theorem SlR.or(h:SlR X r)(h':SlR X r'):SlR X (λx lo hi H Q=>r x lo hi H Q\/r' x lo hi H Q):=by
 intro pins s σ H x v vl vu lo hi sl Q I rx hs pl pu q;rcases q with q|q
 ·exact h pins s σ H x v vl vu lo hi sl Q I rx hs pl pu q
 ·exact h' pins s σ H x v vl vu lo hi sl Q I rx hs pl pu q
def tG(r:V->Option Int->Option Int->Hp->VK->Prop)(te:TE)(tl th:TO):TE:=λσ H Q=>te σ H λx H1=>tl σ H1 λl H2=>th σ H2 λu H3=>r x l u H3 Q
theorem OH{r:V->Option Int->Option Int->Hp->VK->Prop}(hr:SlR X r)(he:PE X e te)(hl:PO X lo tl)(hu:PO X hi th):PE X (.Subscript e (.Slice lo hi none p2) pos) (tG r te tl th):=by intro pins s σ H Q I h;refine Subscript_ (Zx (he pins s σ H _ I h) λv s1 ⟨x,H1,I1,r1,q1⟩=>?_);refine wpAny_Slice (Zx (hl pins s1 σ H1 _ I1 q1) λvl s2 ⟨l,H2,I2,pl,q2⟩=>Zx (hu pins s2 σ H2 _ I2 q2) λvu s3 ⟨u,H3,I3,pu,q3⟩=>?_);rw[evalPart_none];refine Uc ?_;have I4:Inv X pins σ H3 {s3 with heap:=s3.heap.push {cls:=.type "slice",data:=.fields #[vl,vu,.none]} }:=I3.kept (t':=s3.toks) λb ob q=>Ub _ q;obtain⟨T,id,hT,ht,hg⟩:=hr pins {s3 with heap:=s3.heap.push {cls:=.type "slice",data:=.fields #[vl,vu,.none]} } σ H3 x v vl vu l u s3.heap.objs.size Q I4 r1 (Heap.IsSliceOf.new ..) pl pu q3;show wpAny (model X.prog X.w) X.A (subscriptTail e (.Slice lo hi none p2) v (.ref s3.heap.objs.size)) (EP X pins σ Q) X.xe {s3 with heap:=s3.heap.push {cls:=.type "slice",data:=.fields #[vl,vu,.none]} };exact tail_any (ops:=[.ref s3.heap.objs.size,v]) ht hT hg (by with_unfolding_all rfl)
def M8(xs:List V)(lo hi:Option Int):List V:=(xs.drop (HT.sIx xs.length 0 lo)).take (HT.sIx xs.length xs.length hi-HT.sIx xs.length 0 lo)
theorem GU(xs:List V)(lo hi:Option Int):(M8 xs lo hi).length<=xs.length:=by unfold M8;rw[Ti,Rs];omega
def qI(K:Frag):V->Option Int->Option Int->Hp->VK->Prop:=λx lo hi H Q=>∃a xs,x=.ref a/\SqT K H a xs/\¬(HT.sIx xs.length 0 lo=0/\HT.sIx xs.length xs.length hi=xs.length)/\∀p,H p=none->Q (.ref p) (Za H p (.tup (M8 xs lo hi)))
theorem sl_tup:SlR X (qI X.K):=by
 intro pins s σ H x v vl vu lo hi sl Q I rx hs pl pu h;obtain⟨a,xs,rfl,hx,hw,q⟩:=h;cases rx;obtain⟨its,r,ht,hz⟩:=I.tuple hx;have hlen:its.toArray.size=xs.length:=by rw[Ux];exact r.length.symm
 refine⟨"tuple",_,U8.lookup,ht.typeIs,?_⟩;refine HT.getItem_tuple_cut ht hs pl pu (by rw[hlen];exact hw) ?_ (by rw[hlen];exact hz);rw[hlen];refine⟨.ref s.heap.objs.size,_,I.laid (t':=s.toks) (o:=.tup (M8 xs lo hi)) (λb ob q=>Ub _ q) (Ug _) ?_,rfl,q _ (I.hok.fresh (Ug _))⟩;exact⟨Uk (GU xs lo hi) hz,_,(r.drop (HT.sIx xs.length 0 lo)).take (HT.sIx xs.length xs.length hi-HT.sIx xs.length 0 lo),IsTup.new _ _⟩
def aW(K:Frag):R2:=λx y H Q=>∃a b xs ys,x=.ref a/\y=.ref b/\SqT K H a xs/\SqT K H b ys/\xs≠[]/\xs.length+ys.length<=sizeLine/\(ys=[]->Q (.ref a) H)/\(ys≠[]->∀p,H p=none->Q (.ref p) (Za H p (.tup (xs++ys))))
theorem Vals.nil_iff(r:Vals xs us):us=[]↔xs=[]:=by
 cases r with
 |nil=>simp|cons _ _=>simp
theorem AO:OpR X (binaryOp .Add) (aW X.K):=by intro pins s σ H x y v u Q I rx ry h;obtain⟨a,b,xs,ys,rfl,rfl,ha,hb,hx,hz,q1,q2⟩:=h;cases rx;cases ry;obtain⟨its,r1,p1,_⟩:=I.tuple ha;obtain⟨its2,r2,p2,_⟩:=I.tuple hb;refine HT.cat_tup p1 p2 (λz=>hx (r1.nil_iff.mp z)) (λz=>⟨.ref a,H,I,rfl,q1 (r2.nil_iff.mp z)⟩) (λz=>?_) (by rw[<-r1.length,<-r2.length];exact hz);refine⟨.ref s.heap.objs.size,_,I.laid (t':=s.toks) (o:=.tup (xs++ys)) (λb ob q=>Ub _ q) (Ug _) ?_,rfl,q2 (λw=>z (r2.nil_iff.mpr w)) _ (I.hok.fresh (Ug _))⟩;exact⟨by rw[Uq];exact hz,_,r1.append r2,IsTup.new _ _⟩
end
def iT(n:Nat)(i:Int):Option Nat:=if 0<=i then (if i<n then some i.toNat else none) else if -(n:Int)<=i then some (i+n).toNat else none
def dA(xs:List α)(i:Int):Option α:=(iT xs.length i).bind λj=>xs[j]?
theorem LG(h:iT n i=some j):seqIndex? i n=some j/\j<n/\-(n:Int)<=i/\i<n:=by
 unfold iT at h;by_cases h0:0<=i
 ·rw[Uf h0]at h;by_cases h1:i<n
  ·rw[Uf h1]at h;have e:i.toNat=j:=Option.some.inj h;exact⟨by rw[seqIndex_of h0 h1,e],by omega,by omega,h1⟩
  ·rw[Uh h1]at h;cases h
 ·rw[Uh h0]at h;by_cases h1 : -(n:Int)<=i
  ·rw[Uf h1]at h;have e:(i+n).toNat=j:=Option.some.inj h;exact⟨by rw[seqIndex_neg (by omega) h1,e],by omega,h1,by omega⟩
  ·rw[Uh h1]at h;cases h
theorem FN(h:dA xs i=some v):∃j,seqIndex? i xs.length=some j/\xs[j]?=some v/\j<xs.length/\-(xs.length:Int)<=i/\i<xs.length:=by
 unfold dA at h;cases e:iT xs.length i with
 |none=>rw[e]at h;cases h|some j =>rw[e]at h;obtain⟨h1,h2,h3,h4⟩:=LG e;exact⟨j,h1,h,h2,h3,h4⟩
def Co(b:Expr):Prop:=∀o i,subscripted b false o i=operate [o,i] (getItem o i)
def IxR(X:Cx)(r:R2):Prop:=∀(value slice:Expr)(pins:YM)(s:Shared)(σ:St)(H:Hp)(x y:V)(v u:Value)(Q:VK),Inv X pins σ H s->RelV x v->RelV y u->r x y H Q->subscripted slice false v u=operate [v,u] (getItem v u)->wpAny (model X.prog X.w) X.A (subscriptTail value slice v u) (EP X pins σ Q) X.xe s
def dB(X:Cx)(id:String)(r:V->List V->Hp->VK->Prop):Prop:=∀(pins:YM)(s:Shared)(σ:St)(H:Hp)(x:V)(xs:List V)(v:Value)(us:List Value)(Q:VK),Inv X pins σ H s->RelV x v->Vals xs us->r x xs H Q->wpAny (model X.prog X.w) X.A (call (.builtin id) (v::us)) (EP X pins σ Q) X.xe s
section
variable{X:Cx}{a b:Expr}{ta tb:TE}{pos:Pos}
theorem IxR.or(h:IxR X r)(h':IxR X r'):IxR X (λx y H Q=>r x y H Q\/r' x y H Q):=by
 intro value slice pins s σ H x y v u Q I rx ry q hs;rcases q with q|q
 ·exact h value slice pins s σ H x y v u Q I rx ry q hs
 ·exact h' value slice pins s σ H x y v u Q I rx ry q hs
theorem kH(hr:IxR X r)(ha:PE X a ta)(hb:PE X b tb)(hs:Co b):PE X (.Subscript a b pos) (jU r ta tb):=by intro pins s σ H Q I h;exact Subscript_ (cQ ha hb I h λv u s2 x y H2 I2 rx ry q=>hr a b pins s2 σ H2 x y v u Q I2 rx ry q (hs _ _))
def kI(K:Frag):R2:=λx y H Q=>∃p xs i v,x=.ref p/\y=.int i/\SqL K H p xs/\dA xs i=some v/\Q v H
def kJ(K:Frag):R2:=λx y H Q=>∃p xs i v,x=.ref p/\y=.int i/\SqT K H p xs/\dA xs i=some v/\Q v H
def kK:R2:=λx y H Q=>∃z i c,x=.str z/\y=.int i/\z.length<=sizeLine/\dA z.cps.toList i=some c/\Q (.str ⟨#[c]⟩) H
theorem ix_list:IxR X (kI X.K):=by
 intro value slice pins s σ H x y v u Q I rx ry h hs;obtain⟨p,xs,i,z,rfl,rfl,hq,he,q⟩:=h;cases rx;obtain⟨t,rfl⟩:=ry;obtain⟨its,r,pl,hz⟩:=I.list hq;obtain⟨j,h1,h2,h3,h4,h5⟩:=FN he;obtain⟨w,ew,rw'⟩:=r.get h2;have hl:=r.length;have hn:=Vo;have fin:EP X pins σ Q w s:=⟨z,H,I,rw',q⟩;by_cases h0:0<=i
 ·have hj:i.toNat=j:=by rw[seqIndex_of h0 h5]at h1;exact Option.some.inj h1
  exact item_listR pl.isList h0 (by omega) (by rw[hj];simpa using ew) fin hs
 ·have hj:(i+(its.toArray.size:Int)).toNat=j:=by rw[seqIndex_neg (by omega) h4]at h1;rw[Ux,<-hl];exact Option.some.inj h1
  exact subscriptTail_builtinR (x:=w) pl.isList.typeIs slot_list_getitem.lookup
   (wpAny_getItem_list_neg (Q:=λr s'=>r=w/\EP X pins σ Q r s') pl.isList (by omega) (by rw[Ux]<;>omega) (by omega) (by rw[hj];simpa using ew) ⟨rfl,fin⟩) hs
theorem ix_tup:IxR X (kJ X.K):=by
 intro value slice pins s σ H x y v u Q I rx ry h hs;obtain⟨p,xs,i,z,rfl,rfl,hq,he,q⟩:=h;cases rx;obtain⟨t,rfl⟩:=ry;obtain⟨its,r,pl,hz⟩:=I.tuple hq;obtain⟨j,h1,h2,h3,h4,h5⟩:=FN he;obtain⟨w,ew,rw'⟩:=r.get h2;have hl:=r.length;have hn:=Vo;have fin:EP X pins σ Q w s:=⟨z,H,I,rw',q⟩;exact subscriptTail_builtinR (x:=w) pl.typeIs slot_tuple_getitem.lookup
  (getItem_tuple (j:=j) (Q:=λr s'=>r=w/\EP X pins σ Q r s') pl (by omega) (by omega) (by rw[Ux,<-hl];exact h1) (by simpa using ew) ⟨rfl,fin⟩) hs
theorem dC:IxR X kK:=by
 intro value slice pins s σ H x y v u Q I rx ry h hs;obtain⟨z,i,c,rfl,rfl,hz,he,q⟩:=h;obtain⟨t,rfl⟩:=rx;obtain⟨t',rfl⟩:=ry;obtain⟨j,h1,h2,h3,h4,h5⟩:=FN he;have hl:z.cps.toList.length=z.length:=by simp[Str.length]
 rw[hl]at h1 h4 h5;have hn:=Vo;exact tail_any (typeIs_str s z t) slot_str_getitem.lookup (getItem_str (c:=c) (by have e1:decide (i < -(2^63:Int))=false:=Uv (by omega);have e2:decide (i>=2^63)=false:=Uv (by omega);rw[e1,e2,pL]) (by rw[h1];simpa using h2) ⟨.str ⟨#[c]⟩,H,I.tok _,⟨_,rfl⟩,q⟩) hs
def sK(K:Frag):R2:=λx y H Q=>kI K x y H Q\/kJ K x y H Q\/kK x y H Q
theorem dD:IxR X (sK X.K):=ix_list.or (ix_tup.or dC)
theorem Iz(its:List Value)(n j:Nat)(u:Value):Obj.mapSeq (·.setIfInBounds j u) {cls:=.type "list",data:=.seq its.toArray n} = {cls:=.type "list",data:=.seq (its.set j u).toArray n}:=by simp[Obj.mapSeq]
theorem Inv.lst(I:Inv X pins σ H s)(h:H p=some (.lst xs)):
  ∃(its:List Value)(n:Nat),Vals xs its/\s.heap.get? p=some {cls:=.type "list",data:=.seq its.toArray n}/\xs.length<=sizeLine:=by
 obtain⟨z,its,n,r,e⟩:=I.hok p _ h;exact⟨its,n,r,e,z⟩
theorem Inv.lstUpd{pins:YM}{σ:St}{H:Hp}{s:Shared}{p:Addr}{xs ys:List V}{its its':List Value}{n n':Nat}{f:Obj->Obj}(I:Inv X pins σ H s)(h:H p=some (.lst xs))(ho:s.heap.get? p=some {cls:=.type "list",data:=.seq its.toArray n})(hf:f {cls:=.type "list",data:=.seq its.toArray n} = {cls:=.type "list",data:=.seq its'.toArray n'})(r:Vals ys its')(hz:ys.length<=sizeLine)(t:Nat):
  Inv X pins σ (Za H p (.lst ys)) {s with heap:=s.heap.update p f,toks:=t}:=by
 have e:(s.heap.update p f).get? p=some {cls:=.type "list",data:=.seq its'.toArray n'}:=by rw[RY f ho (by rw[hf]<;>rfl),hf]
 refine I.write (x:=p) (e:=p) (by rw[h];trivial) (.inl rfl) (λb u hb q=>(WF _ _ (Ne.symm hb)).trans q) ⟨_,e⟩ ?_;exact⟨hz,its',n',r,e⟩
def kL:V->V->V->Hp->(Hp->Prop)->Prop:=λo i v H Q=>∃p xs k j,o=.ref p/\i=.int k/\H p=some (.lst xs)/\iT xs.length k=some j/\Q (Za H p (.lst (xs.set j v)))
theorem OI:AA X kL:=by
 intro pins s σ H o i v ov iv u Q I ro ri rv h;obtain⟨p,xs,k,j,rfl,rfl,hp,hj,q⟩:=h;cases ro;obtain⟨t,rfl⟩:=ri;obtain⟨its,n,r,ho,hz⟩:=I.lst hp;obtain⟨h1,h2,h3,h4⟩:=LG hj;have hl:=r.length;have hn:=Vo;have I':Inv X pins σ (Za H p (.lst (xs.set j v))) {s with heap:=s.heap.update p (Obj.mapSeq (·.setIfInBounds j u))}:=I.lstUpd hp ho (Iz its n j u) (r.set rv j) (by rw[UQ];exact hz) s.toks
 by_cases h0:0<=k
 ·have hk:k.toNat=j:=by rw[seqIndex_of h0 h4]at h1;exact Option.some.inj h1
  exact ki_setAt ho h0 (by omega) (by rw[Ux,<-hl];exact h4) (by rw[hk];exact⟨_,I',q⟩)
 ·have hk:(k+(its.toArray.size:Int)).toNat=j:=by rw[seqIndex_neg (by omega) h3]at h1;rw[Ux,<-hl];exact Option.some.inj h1
  exact ki_setBack ho (by omega) (by rw[Ux,<-hl];exact h3) (by omega) (by rw[hk];exact⟨_,I',q⟩)
def Vc:V->Bool
 |.non=>true|.bl _=>true|.int _=>true|.str _=>true|_=>false
def Aq:V->V->Bool
 |.non,.non=>true|.bl a,.bl b=>a==b|.bl a,.int b=>(if a then 1 else 0)==b|.int a,.bl b=>a==(if b then 1 else 0)|.int a,.int b=>a==b|.str a,.str b=>a==b|_,_=>false
theorem dE(ry:RelV y u)(rx:RelV x v)(fy:Vc y=true)(fx:Vc x=true):SeqAt.EqAt A s u v (Aq y x):=by
 cases y with
 |non=>
  cases ry;cases x with
  |non=>cases rx;exact SeqAt.EqAt.same _|bl b=>cases rx;exact SeqAt.EqAt.none_bool b|int b=>obtain⟨t,rfl⟩:=rx;exact SeqAt.EqAt.none_int b t|str b=>obtain⟨t,rfl⟩:=rx;exact SeqAt.EqAt.none_str b t|_=>exact absurd (show false=true from fx) Uj
 |bl a=>
  cases ry;cases x with
  |non=>cases rx;exact SeqAt.EqAt.bool_none a|bl b=>cases rx;exact SeqAt.EqAt.bool_bool a b|int b=>obtain⟨t,rfl⟩:=rx;exact SeqAt.EqAt.bool_int a b t|str b=>obtain⟨t,rfl⟩:=rx;exact SeqAt.EqAt.bool_str a b t|_=>exact absurd (show false=true from fx) Uj
 |int a=>
  obtain⟨t',rfl⟩:=ry;cases x with
  |non=>cases rx;exact SeqAt.EqAt.int_none a t'|bl b=>cases rx;exact SeqAt.EqAt.int_bool a t' b|int b=>obtain⟨t,rfl⟩:=rx;exact SeqAt.EqAt.int_int a t' b t|str b=>obtain⟨t,rfl⟩:=rx;exact SeqAt.EqAt.int_str a t' b t|_=>exact absurd (show false=true from fx) Uj
 |str a=>
  obtain⟨t',rfl⟩:=ry;cases x with
  |non=>cases rx;exact SeqAt.EqAt.str_none a t'|bl b=>cases rx;exact SeqAt.EqAt.str_bool a t' b|int b=>obtain⟨t,rfl⟩:=rx;exact SeqAt.EqAt.str_int a t' b t|str b=>obtain⟨t,rfl⟩:=rx;exact SeqAt.EqAt.str_str a t' b t|_=>exact absurd (show false=true from fx) Uj
 |_=>exact absurd (show false=true from fy) Uj
def AQ(x:V)(u:Value):Bool:=match u with
 |.none=>Aq .non x|.bool b=>Aq (.bl b) x|.int i _=>Aq (.int i) x|.str z _=>Aq (.str z) x|_=>false
theorem OJ(r:RelV y u)(f:Vc y=true):AQ x u=Aq y x:=by
 cases y with
 |non=>cases r;rfl|bl b=>cases r;rfl|int i=>obtain⟨t,rfl⟩:=r;rfl|str z=>obtain⟨t,rfl⟩:=r;rfl|_=>exact absurd (show false=true from f) Uj
theorem FO:∀{xs:List V}{us:List Value},Vals xs us->xs.all Vc=true->us.any (AQ x)=xs.any λy=>Aq y x
 |_,_,.nil,_=>rfl|y::xs,u::us,.cons r t,f=>by rw[Ws,UN]at f;rw[Tu,Tu,OJ r f.1,FO t f.2]
theorem CS(rx:RelV x v)(fx:Vc x=true):∀{xs:List V}{us:List Value},Vals xs us->xs.all Vc=true->∀u∈us,SeqAt.EqAt A s u v (AQ x u)
 |_,_,.nil,_=>λu hu=>by cases hu
 |y::xs,u::us,.cons r t,f=>λu' hu=>by
  rw[Ws,UN]at f;rcases UG.mp hu with rfl|hu
  ·rw[OJ r f.1];exact dE r rx f.1 fx
  ·exact CS rx fx t f.2 u' hu
def inV(x:V)(xs:List V):Bool:=xs.any λy=>Aq y x
def sL(K:Frag)(neg:Bool):R2:=λx y H Q=>∃p xs,y=.ref p/\(SqL K H p xs\/SqT K H p xs)/\Vc x=true/\xs.all Vc=true/\Q (.bl (if neg then !inV x xs else inV x xs)) H
theorem M9:OpR X (compareOp .In) (sL X.K false):=by
 intro pins s σ H x y v u Q I rx ry h;obtain⟨p,xs,rfl,hq,fx,fs,q⟩:=h;cases ry;rcases hq with hq|hq
 ·obtain⟨its,r,pl,hz⟩:=I.list hq;refine SeqAt.in_listAt (AQ x) pl.isList (λw hw=>CS rx fx r fs w (by simpa using hw)) ⟨.bl _,H,I,rfl,?_⟩;rw[show its.toArray.any (AQ x)=its.any (AQ x) by simp,FO r fs];exact q
 ·obtain⟨its,r,pl,hz⟩:=I.tuple hq;refine SeqAt.in_tupleAt (AQ x) pl (λw hw=>CS rx fx r fs w (by simpa using hw)) ⟨.bl _,H,I,rfl,?_⟩;rw[show its.toArray.any (AQ x)=its.any (AQ x) by simp,FO r fs];exact q
theorem FP:YA X (.builtin "len") (λxs H Q=>∃p ys,xs=[.ref p]/\(SqL X.K H p ys\/SqT X.K H p ys)/\Q (.int ys.length) H):=by
 intro pins s σ H xs us Q I r h;obtain⟨p,ys,rfl,hq,q⟩:=h;obtain⟨u,rfl,rx⟩:=LE r;cases rx;have hn:=Vo;rcases hq with hq|hq
 ·obtain⟨its,r',pl,hz⟩:=I.list hq;have hlen:=r'.length;exact Calls.call_len_list pl.isList (by simp only[Ux]<;>omega) ⟨.int ys.length,H,I.tok _,⟨s.toks+1,by rw[Ux,hlen]⟩,q⟩
 ·obtain⟨its,r',pl,hz⟩:=I.tuple hq;have hlen:=r'.length;exact len_tuple pl (by simp only[Ux]<;>omega) ⟨.int ys.length,H,I.tok _,⟨s.toks+1,by rw[Ux,hlen]⟩,q⟩
theorem ER:YA X (.type "tuple") (λxs H Q=>∃p ys,xs=[.ref p]/\((SqL X.K H p ys/\∀l,H l=none->Q (.ref l) (Za H l (.tup ys)))\/(SqT X.K H p ys/\Q (.ref p) H))):=by
 intro pins s σ H xs us Q I r h;obtain⟨p,ys,rfl,h⟩:=h;obtain⟨u,rfl,rx⟩:=LE r;cases rx;rcases h with⟨hq,q⟩|⟨hq,q⟩
 ·obtain⟨its,r',pl,hz⟩:=I.list hq;have hlen:=r'.length;refine call_tuple_list pl.isList (λh' kp=>?_) (by simp only[Ux]<;>omega);have I1:Inv X pins σ H {s with heap:=h'}:=I.kept (t':=s.toks) kp;have I2:Inv X pins σ (Za H h'.objs.size (.tup ys)) {s with heap:=h'.push {cls:=.type "tuple",data:=.seq its.toArray} }:=I1.laid (t':=s.toks) (λb o e=>Ub _ e) (Ug _) (show ObjOk X.prog X.w _ _ _ (.tup ys) from ⟨hz,its,r',IsTup.new _ _⟩)
  exact⟨.ref h'.objs.size,_,I2,rfl,q _ (I1.hok.fresh (Ug _))⟩
 ·obtain⟨its,r',pl,hz⟩:=I.tuple hq;exact call_tuple_same pl ⟨.ref p,H,I,rfl,q⟩
def qJ(K:Frag)(T:String)(x:V)(H:Hp):Prop:=match x with
 |.str _=>T ="str"|.int _=>T ="int"|.ref p=>(T ="list"/\∃xs,SqL K H p xs)\/(T ="tuple"/\∃o,K.lookup p=some o/\o.cls=.type "tuple"/\o.dict=none)\/(T ="dict"/\((∃kvs,H p=some (.dK kvs))\/∃kvs,H p=some (.dT kvs)))\/(T ="set"/\∃S n,H p=some (.set S n))
 |_=>False
theorem OK(I:Inv X pins σ H s)(r:RelV x v)(ty:qJ X.K T x H):
  s.TypeIs v T/\∀a,v=.ref a->∃ob,s.heap.get? a=some ob/\ob.dict=none:=by
 cases x with
 |str z =>obtain⟨t,rfl⟩:=r;cases (show T ="str" from ty);exact⟨typeIs_str s z t,λ_ e=>nomatch e⟩|int i =>obtain⟨t,rfl⟩:=r;cases (show T ="int" from ty);exact⟨typeIs_int s i t,λ_ e=>nomatch e⟩|ref p=>
  cases r;rcases ty with⟨rfl,xs,hq⟩|⟨rfl,o,hk,hc,hd⟩|⟨rfl,hk⟩|⟨rfl,S,n,hk⟩
  ·obtain⟨its,_,pl,_⟩:=I.list hq;refine⟨pl.isList.typeIs,λa e=>?_⟩;cases e;obtain⟨o,n,e,c,hd,_⟩:=pl;exact⟨o,e,hd⟩
  ·refine⟨⟨o,I.kIn p o hk,hc⟩,λa e=>?_⟩;cases e;exact⟨o,I.kIn _ o hk,hd⟩
  ·have z:∃o,s.heap.get? p=some o/\o.ExactDict:=by
    rcases hk with⟨kvs,hk⟩|⟨kvs,hk⟩
    ·obtain⟨_,_,_,_,o,_,_,e,ex,_⟩:=I.hok p _ hk;exact⟨o,e,ex⟩
    ·obtain⟨_,_,_,_,o,_,_,e,ex,_⟩:=I.hok p _ hk;exact⟨o,e,ex⟩
   obtain⟨o,e,ex⟩:=z;refine⟨⟨o,e,ex.1⟩,λa e2=>?_⟩;cases e2;exact⟨o,e,ex.2.1⟩
  ·obtain⟨o,_,_,_,e,ex,_⟩:=I.hok p _ hk;refine⟨⟨o,e,ex.1⟩,λa e2=>?_⟩;cases e2;exact⟨o,e,ex.2.1⟩
 |_=>exact False.elim ty
def qK(K:Frag)(T:String)(r:V->List V->Hp->VK->Prop)(to:TE):TE:=λσ H Q=>to σ H λx H1=>qJ K T x H1/\r x [] H1 Q
def tH(K:Frag)(T:String)(r:V->List V->Hp->VK->Prop)(to:TE)(t:TA):TE:=λσ H Q=>to σ H λx H1=>qJ K T x H1/\t σ H1 λxs H2=>r x xs H2 Q
variable{o e:Expr}{es:List Expr}{to:TE}{t:TA}{name:Str}{apos cpos:Pos}{T id:String}{r:V->List V->Hp->VK->Prop}
theorem dF(pa:PlainAttrs T)(slot:Slot T name id)(hty:typeOf (.builtin id)=pure (.type "method_descriptor"))(hm:dB X id r)(ho:PE X o to)(hbase:attributeBase o name X.env (eval o X.env)=eval o X.env:=by rfl)(hline:(apos.endLine==cpos.line)=true:=by rfl):PE X (.Call (.Attribute o name apos) [] [] cpos) (qK X.K T r to):=by intro pins s σ H Q I h;refine wpAny_Call_method0_late hbase hline (Zx (ho pins s σ H _ I h) λv s1 ⟨x,H1,I1,r1,ty,q1⟩=>?_);obtain⟨h1,h2⟩:=OK I1 r1 ty;exact⟨T,id,pa,slot,hty,h1,h2,RS rfl (PySem.evalArgs_none (hm pins s1 σ H1 x [] v [] Q I1 r1 .nil q1))⟩
theorem OL(pa:PlainAttrs T)(slot:Slot T name id)(hty:typeOf (.builtin id)=pure (.type "method_descriptor"))(hm:dB X id r)(ho:PE X o to)(ha:PA X (e::es) t)(hbase:attributeBase o name X.env (eval o X.env)=eval o X.env:=by rfl)(hfew:((backTo cpos (starEach (e::es) X.env)).all (λx=>!x.1)&&(backToKw cpos (keywordEach [] X.env)).all (λx=>x.1.isSome)
   && decide ((e::es).length+([]:List Keyword).length+(if ([]:List Keyword).isEmpty then 0 else 1)<30))=true:=by rfl)(hline:(apos.endLine==cpos.line)=true:=by rfl)(hs:starEach (e::es) X.env=(false,eval e X.env)::starEach es X.env:=by rfl)(hplain:(backTo cpos (starEach es X.env)).any (·.1)=false:=by rfl):
  PE X (.Call (.Attribute o name apos) (e::es) [] cpos) (tH X.K T r to t):=by
 intro pins s σ H Q I h;refine wpAny_Call_method_late hbase hfew hline rfl (Zx (ho pins s σ H _ I h) λv s1 ⟨x,H1,I1,r1,ty,q1⟩=>?_);obtain⟨h1,h2⟩:=OK I1 r1 ty;refine⟨T,id,pa,slot,hty,h1,h2,?_⟩;have hA:=ha cpos pins s1 σ H1 _ I1 q1;rw[hs]at hA ⊢;refine RS (by show(false||(backTo cpos (starEach es X.env)).any (·.1))=false;rw[hplain]<;>rfl) (Calls.evalArgs_plain ?_);exact Zx hA λus s2 ⟨vs,H2,I2,r2,q2⟩=>hm pins s2 σ H2 x vs v us Q I2 r1 r2 q2
end
def qL(X:Cx)(id:String)(r:V->List V->Hp->VK->Prop):Prop:=∀(pins:YM)(s:Shared)(σ:St)(H:Hp)(x:V)(xs:List V)(v:Value)(us:List Value)(Q:VK),Inv X pins σ H s->RelV x v->Vals xs us->r x xs H Q->wpAny (model X.prog X.w) X.A (call (.builtin id) (v::us)) (EP X pins σ Q) X.xe s
theorem Vals.one{us:List Value}(h:Vals [x] us):∃u,us=[u]/\RelV x u:=by rcases h with _|⟨r,_|_⟩;exact⟨_,rfl,r⟩
theorem Vals.two{us:List Value}(h:Vals [x,y] us):∃u v,us=[u,v]/\RelV x u/\RelV y v:=by rcases h with _|⟨r,_|⟨q,_|_⟩⟩;exact⟨_,_,rfl,r,q⟩
theorem Vals.zero:∀{us:List Value},Vals [] us->us=[]
 |_,.nil=>rfl
theorem Vals.dropLast(h:Vals xs us):Vals xs.dropLast us.dropLast:=by
 induction h with
 |nil=>exact .nil|cons r t ih=>
  cases t with
  |nil=>exact .nil|cons q t'=>exact .cons r ih
theorem IA(l:List α):l.eraseIdx (l.length-1)=l.dropLast:=by
 induction l with
 |nil=>rfl|cons a r ih=>
  cases r with
  |nil=>rfl|cons b r=>
   have e:(a::b::r).length-1=((b::r).length-1)+1:=by have h1:(a::b::r).length=r.length+2:=rfl;have h2:(b::r).length=r.length+1:=rfl;omega
   rw[e,BR,ih];all_goals rfl
theorem Inv.lset{its its':List Value}{n:Nat}{f:Array Value->Array Value}{t':Nat}(I:Inv X pins σ H s)(hH:H l=some (.lst xs))(e:s.heap.get? l=some {cls:=.type "list",data:=.seq its.toArray n})(hf:f its.toArray=its'.toArray)(hv:Vals ys its')(hz:ys.length<=sizeLine):
  Inv X pins σ (Za H l (.lst ys)) {s with heap:=s.heap.update l (Obj.mapSeq f),toks:=t'}:=by
 have q:=PySem.IsL.update e f;rw[hf]at q;refine I.write (x:=l) (e:=l) (by rw[hH];exact trivial) (.inl rfl) (λb' u hb hu=>(WF s.heap (Obj.mapSeq f) (Ne.symm hb)).trans hu) ⟨_,q⟩ ?_;exact⟨hz,its',_,hv,q⟩
theorem Inv.lnew(I:Inv X pins σ H s)(hv:Vals ys its)(hz:ys.length<=sizeLine):
  Inv X pins σ (Za H s.heap.objs.size (.lst ys)) {s with heap:=s.heap.push {cls:=.type "list",data:=.seq its.toArray},toks:=t'}:=I.laid (λ_ _ q=>Ub _ q) (Ug _) ⟨hz,its,0,hv,Uu _ rfl⟩
theorem Inv.fresh(I:Inv X pins σ H s):H s.heap.objs.size=none:=I.hok.fresh (Ug _)
theorem Inv.lstM(I:Inv X pins σ H s)(hH:H l=some (.lst xs)):xs.length<=sizeLine/\∃(its:List Value)(n:Nat),Vals xs its/\xs.length=its.length/\s.heap.get? l=some {cls:=.type "list",data:=.seq its.toArray n}:=by obtain⟨z,its,n,r,e⟩:=I.hok l _ hH;exact⟨z,its,n,r,r.length,e⟩
theorem OM(h:n<=sizeLine):Builtin.List.listTooLong n=false:=by unfold Builtin.List.listTooLong;exact Uv (by omega)
def AR:V->List V->Hp->VK->Prop:=λx vs H Q=>∃l xs y,x=.ref l/\vs=[y]/\H l=some (.lst xs)/\xs.length<sizeLine/\Q .non (Za H l (.lst (xs++[y])))
theorem Na:qL X "list.append" AR:=by intro pins s σ H x vs v us Q I rx rv h;obtain⟨l,xs,y,rfl,rfl,hH,hz,q⟩:=h;cases rx;obtain⟨u,rfl,ru⟩:=rv.one;obtain⟨z,its,n,r,hl,e⟩:=I.lstM hH;refine BC F.slot_list_append ⟨_,e,rfl⟩ F.entry_list_append (F.args_list_append_2 _ _) (PySem.list_append l its.toArray n u (by rw[Ux];omega)) ⟨e,?_⟩;refine⟨.non,_,I.lset (its':=its++[u]) hH e (by simp) (r.append (.cons ru .nil)) ?_,rfl,q⟩;rw[Uq,Tq];omega
def AS:V->List V->Hp->VK->Prop:=λx vs H Q=>∃l b xs zs,x=.ref l/\vs=[.ref b]/\H l=some (.lst xs)/\H b=some (.lst zs)/\xs.length+zs.length<=sizeLine/\Q .non (Za H l (.lst (xs++zs)))
theorem Nc:qL X "list.extend" AS:=by
 intro pins s σ H x vs v us Q I rx rv h;obtain⟨l,b,xs,zs,rfl,rfl,hH,hB,hz,q⟩:=h;cases rx;obtain⟨u,rfl,ru⟩:=rv.one;cases ru;obtain⟨z,its,n,r,hl,e⟩:=I.lstM hH;obtain⟨z2,its2,n2,r2,hl2,e2⟩:=I.lstM hB;have hsz:its.toArray.size+its2.toArray.size<=sizeLine:=by rw[Ux,Ux];omega
 have hlong:¬(!its.toArray.isEmpty&&Builtin.List.listTooLong (its.toArray.size+its2.toArray.size))=true:=by rw[OM hsz,Bool.and_false];exact Uj
 refine BC F.slot_list_extend ⟨_,e,rfl⟩ F.entry_list_extend (F.args_list_extend_2 _ _)
  (AutoSeq1.list_extend_list_list_0 l its.toArray n b its2.toArray n2 hlong (by rw[Ux];omega) (by omega)) ⟨e,e2,?_⟩
 refine⟨.non,_,I.lset (its':=its++its2) hH e (by simp) (r.append r2) ?_,rfl,q⟩;rw[Uq];omega
def qM:V->List V->Hp->VK->Prop:=λx vs H Q=>∃l xs y,x=.ref l/\vs=[]/\H l=some (.lst xs)/\xs[xs.length-1]?=some y/\Q y (Za H l (.lst xs.dropLast))
theorem dG:qL X "list.pop" qM:=by
 intro pins s σ H x vs v us Q I rx rv h;obtain⟨l,xs,y,rfl,rfl,hH,hy,q⟩:=h;cases rx;have hus:=rv.zero;subst hus;obtain⟨z,its,n,r,hl,e⟩:=I.lstM hH;obtain⟨u,hu,ru⟩:=r.get hy;have hy':its.toArray[its.toArray.size-1]?=some u:=by show its.toArray[its.length-1]?=some u;rw[<-Tr,<-hl];exact hu
 refine BC F.slot_list_pop ⟨_,e,rfl⟩ F.entry_list_pop (F.args_list_pop_1 _) (MeetsSeq.list_pop_last l its.toArray n u hy' (by rw[Ux];omega)) ⟨e,?_⟩;refine⟨y,_,I.lset (its':=its.dropLast) hH e ?_ r.dropLast ?_,ru,q⟩
 ·show its.toArray.eraseIdxIfInBounds (its.toArray.size-1)=its.dropLast.toArray;rw[Ux,List.eraseIdxIfInBounds_toArray,IA]
 ·rw[Rb];omega
def kM:R2:=λx y H Q=>∃l b xs zs,x=.ref l/\y=.ref b/\H l=some (.lst xs)/\H b=some (.lst zs)/\xs.length+zs.length<=sizeLine/\∀p,H p=none->Q (.ref p) (Za H p (.lst (xs++zs)))
theorem dH:OpR X (binaryOp .Add) kM:=by
 intro pins s σ H x y v u Q I rx ry h;obtain⟨l,b,xs,zs,rfl,rfl,hH,hB,hz,q⟩:=h;cases rx;cases ry;obtain⟨z,its,n,r,hl,e⟩:=I.lstM hH;obtain⟨z2,its2,n2,r2,hl2,e2⟩:=I.lstM hB;refine PySem.P.add_list e e2 ?_ (by rw[Ux,Ux];omega);have ea:its.toArray++its2.toArray=(its++its2).toArray:=by simp
 rw[ea];exact⟨.ref _,_,I.lnew (t':=s.toks) (r.append r2) (by rw[Uq];omega),rfl,q _ I.fresh⟩
end L2
namespace Att
open PySem PySem.W PySem.Calls PyProof.Rows
theorem BP  : ∀(ns:List Int)(vs:List Value),WellAll P h vs (ns.map WData.int)->IntsAre vs ns:=by
 intro ns;induction ns with
 |nil =>intro vs w;rw[List.map_nil]at w;cases w;exact .nil|cons n ns ih=>
  intro vs w;rw[UH]at w;cases w with
  |cons a b =>cases a;exact .cons _ _ (ih _ b)
theorem Nd{l:OpenLaw}{n:Nat}(hn:l.most=some n){P:Params}{h:Heap}{args:List WData}{vals:List Value}(hpre:l.row.toRowW.claim.pre args=true)(hwl:WellAll P h vals args):
  ∃a vs ns,vals=[Value.ref a]/\args=[WData.list (ns.map WData.int)]/\h.get? a=some {cls:=.type "list",data:=.seq vs.toArray}/\IntsAre vs ns/\ns.length<=n:=by
 have hsh:WShape.hasAll [] args [.list .int]=true:=(pre_splitW hpre).1;have hc:l.pre.holds [] {args:=args}=true:=(pre_splitW hpre).2;obtain⟨d,r,rfl,h1,h2⟩:=hasAllW_cons hsh;obtain rfl:=hasAllW_nil h2;obtain⟨xs,rfl,h3⟩:=hasW_list h1;obtain⟨ns,rfl⟩:=items_int h3;have hlen:ns.length<=n:=by
  unfold OpenLaw.pre at hc;have h4:(WTm.not (.lt (.lit (.int (n:Int))) (.len (.arg 0)))).holds [] {args:=[.list (ns.map .int)]}=true:=by have h4:=(holds_andW hc).1;rw[hn]at h4;exact h4
  have h5:=condW_of h4 (w_not (w_lt w_lit (w_len_list (w_arg rfl))));rw[Ue]at h5;refine Wj λq=>?_;have q':(n:Int)<((ns.length:Nat):Int):=by omega
  first
   | (rw[Us q']at h5;exact absurd h5 (by decide))
   | (simp at h5;omega)
 cases hwl with
 |cons w1 w2=>
  cases w2;cases w1 with
  |list ho hall=>exact⟨_,_,ns,rfl,rfl,ho,BP ns _ hall,hlen⟩
theorem Nf(l:OpenLaw)(args:List WData):l.row.toRowW.claim.post args (.bool true) args=true:=postW_of (r:=l.row.toRowW) (X:=(true==true))
  (show WShape.has [] (.bool true) .bool=true by first|rfl|decide|simp[WShape.has,WShape.arms,WShape.armsAll])
  (show(WTm.eq .res (.lit (.bool true))).value [] {args:=args,res:=some (.bool true),after:=args}=some (.bool (true==true)) from w_eq_bool (w_res rfl) w_lit) rfl
theorem attach_call{l:OpenLaw}{n:Nat}{q:Program}{loose:List Str}{XP:Xa->Heap->Prop}{YP:World->Heap->Prop}{d:DefRec}(hn:l.most=some n)(hdf:d.params.defaults=[])(call:∀(w:World) (s₀ s₁:Shared) (mg mb:Xa) (fa:Addr) (o:Obj) (pm cd doc:Value) (a:Addr) (vs:List Value) (ns:List Int),Ground q loose [] XP w s₀ mg mb s₁.heap->YP w s₁.heap->s₁.heap.get? fa=some o->o.data=.func (docDef d.name d.params d.body d.scope pm cd doc)->s₁.heap.CodeRec cd d.name->mg d.name=some (.ref fa)->s₁.heap.get? a=some {cls:=.type "list",data:=.seq vs.toArray}->IntsAre vs ns->ns.length<=n->s₁.gens = #[]->codeAny (model l.prog w) callerA (.call (.ref fa) ⟨[.ref a],[]⟩) (λr s'=>r=.ok (.ret (.bool true))/\OldK s₁.heap s'.heap/\s'.os=s₁.os/\AllBare s'.gens) s₁):
  WalkO q loose XP YP l.row.toRowW d [] (λf vs=>PySem.call f vs):=by
 intro w s₀ s₁ mg mb G Y fa o pm cd doc dV kV ho hd hcd hD hmg hg args vals as hpre hlay hrd hwl hlo;obtain rfl:dV=.none:=Dflts.none hD hdf;obtain rfl:kV=.none:=Dflts.noKw hD;obtain⟨a,vs,ns,rfl,rfl,hobj,hints,hlen⟩:=Nd hn hpre hwl;refine enter_call (oM (call w s₀ s₁ mg mb fa o pm cd doc a vs ns G Y ho (fd_plain hd) hcd hmg hobj hints hlen hg) λr s' hq=>?_);obtain⟨rfl,h2,h3,h4⟩:=hq;exact⟨.inl ⟨.bool true,.bool true,[],rfl,λ_=>rfl,.bool true,Nf l _,λ_=>⟨List.Pairwise.nil,λ_ hm=>(nomatch hm)⟩⟩,h2,h3,h4⟩
end Att
namespace L2
open PySem PySem.Spec PyProof.Rows
theorem Fd:∀{vs:List Value}{ns:List Int},IntsAre vs ns->Vals (ns.map V.int) vs
 |_,_,.nil=>.nil|_,_,.cons n t h=>.cons ⟨t,rfl⟩ (Fd h)
def AT(H:Hp):Prop:=∀b,H b=none\/∃o xs,H b=some (.frz o (.lst xs))
theorem ON{P:Program}{w:World}{K:Frag}{mg mb:Xa}{CX:AK}{k:Nat}{fa a:Addr}{fd:FuncData}{x:Str}{sp:Sp}{s₁:Shared}{vs:List Value}{ns:List Int}(KX:K.In s₁.heap)(hns:s₁.heap.Ns mainGlobals mg)(hb:s₁.heap.Ns builtinsNs mb)(hbb:∀x:Str,x ≠"__name__"->mb x=bootBuiltins x)(hlim:s₁.heap.NoLimit)(hg:s₁.gens = #[])(ha:s₁.heap.get? a=some {cls:=.type "list",data:=.seq vs.toArray})(hi:IntsAre vs ns)(hl:ns.length<=sizeLine)(hr:Room k callerA)(F:∀base:Heap,K.In base->base.Ns mainGlobals mg->FnOk P w K mg base CX k fa fd [x] sp)(hbind:∀(s:Shared) (u:Value),BindsTo s fd ⟨[u],[]⟩ [(x,u)])(hsp:∀H:Hp,AT H->SqL K H a (ns.map V.int)->sp [.ref a] H (λv _=>v=.bl true) λ_ _ _=>False)(hCX:∀H e s',CX [] H s₁ (λ_ _ _=>False) e s'->False):
  codeAny (model P w) callerA (.call (.ref fa) ⟨[.ref a],[]⟩) (λr s'=>r=.ok (.ret (.bool true))/\OldK s₁.heap s'.heap/\s'.os=s₁.os/\AllBare s'.gens) s₁:=by
 have rv:=Fd hi;have lenV:=hi.length
 -- from an abstract heap in which nothing but the script may be tracked
 have core:∀H:Hp,AT H->SqL K H a (ns.map V.int)->HOk P w H s₁.heap->(∀b,H b≠none->b=a)->(H a≠none->K.lookup a=none)->codeAny (model P w) callerA (.call (.ref fa) ⟨[.ref a],[]⟩) (λr s'=>r=.ok (.ret (.bool true))/\OldK s₁.heap s'.heap/\s'.os=s₁.os/\AllBare s'.gens) s₁:=by
  intro H hO hS hok hA hK;have base_of:∀{b:Addr}{o:Obj},s₁.heap.get? b=some o->H b=none->(FI s₁.heap H).get? b=some o:=λe n=>Ot e n;have noA:∀{b:Addr}{o:Obj}{es:Array DictEntry}{ep:Nat},s₁.heap.get? b=some o->o.data=.dict es ep->H b=none:=λ{b o es ep} e d=>by
   cases q:H b with
   |none=>rfl|some u =>have e':b=a:=hA b (by rw[q];simp);subst e';rw[ha]at e;cases e;have d':Data.seq vs.toArray _=Data.dict es ep:=d;cases d'
  have nsK:∀{b:Addr}{m:Xa},s₁.heap.Ns b m->(FI s₁.heap H).Ns b m:=λ{b m} ⟨o,es,ep,e,d,r⟩=>⟨o,es,ep,base_of e (noA e d),d,r⟩;have hKb:K.In (FI s₁.heap H):=λb o e=>base_of (KX b o e) (by
   cases q:H b with
   |none=>rfl|some u =>have e':b=a:=hA b (by rw[q];simp);subst e';rw[hK (by rw[q];simp)]at e;cases e)
  have hM:Mod K mg (FI s₁.heap H):=⟨hKb,nsK hns,⟨mb,nsK hb,hbb⟩,let ⟨mc,h1,h2⟩:=hlim;⟨mc,nsK h1,h2⟩⟩;have e0:Env0 P w K mg (FI s₁.heap H) callerA [] s₁ H:=⟨rfl,hM,λb o e=>As e,WP (MN _ _),trivial,λb hb=>absurd (show b∈([]:List Addr) from hb) (by simp),hok,.of_eq hg⟩;refine oM ((F _ hKb (nsK hns)).run callerA [] s₁ H ⟨[.ref a],[]⟩ [.ref a] [.ref a] _ _ hr e0 (hbind s₁ (.ref a)) (.cons rfl .nil) (hsp H hO hS)) λr s' h=>?_;cases r with
  |error e=>exact(hCX H e s' h).elim|ok fl=>
   cases fl with
   |next=>exact False.elim h|brk=>exact False.elim h|cont=>exact False.elim h|ret u=>
    obtain⟨v,H',os,bare,un,hok',r',q⟩:=h;have q':v=.bl true:=q;subst q';obtain rfl:u=Value.bool true:=r';refine⟨rfl,OldK.of_keep λb o e=>?_,os,bare⟩;cases q:H b with
    |none=>exact un.keep b o e q (by intro z;exact absurd (show b∈([]:List Addr) from z) (by simp)) (by simp)|some u=>
     rcases hO b with z|⟨ob,xs,z⟩
     ·rw[q]at z;cases z
     ·have z2:=un.frzs b ob _ z;obtain⟨e1,_⟩:=hok b _ z;obtain⟨e2,_⟩:=hok' b _ z2;rw[e]at e1;cases e1;exact e2
 cases hk:K.lookup a with
 |some o=>
  -- the script is one of the module's own objects
  have e:=KX a o hk;rw[ha]at e;cases e;refine core (λ_=>none) (λ_=>.inl rfl) (.inr ⟨_,vs.toArray,_,hk,rfl,rfl,rfl,by rw[Ux,lenV];exact hl,by simpa using rv⟩) (λb u z=>by have z':(none:Option HO)=some u:=z;cases z') (λb z=>absurd rfl z) λz=>absurd rfl z
 |none=>
  refine core (λb=>if b=a then some (.frz {cls:=.type "list",data:=.seq vs.toArray} (.lst (ns.map V.int))) else none) (λb=>?_) (.inl (.inr ⟨{cls:=.type "list",data:=.seq vs.toArray},Uf rfl⟩)) (λb u z=>?_) (λb z=>?_) λ_=>hk
  ·by_cases hb:b=a
   ·exact .inr ⟨_,_,Uf hb⟩
   ·exact .inl (Uh hb)
  ·by_cases hb:b=a
   ·have z':=(Uf hb).symm.trans z;cases z';subst hb;exact⟨ha,by rw[Ue];exact hl,vs,_,rv,ha⟩
   ·have z':=(Uh hb).symm.trans z;cases z'
  ·by_cases hb:b=a
   ·exact hb
   ·exact absurd (Uh hb) z
theorem walk_of{l:PySem.W.OpenLaw}{n k:Nat}{q:Program}{loose:List Str}{XP:Xa->Heap->Prop}{YP:World->Heap->Prop}{d:DefRec}{K:Params->Frag}{CX:World->AK}{sp:World->Sp}{x:Str}(hn:l.most=some n)(hn2:n<=sizeLine)(hdf:d.params.defaults=[])(hr:Room k callerA)(hY:∀(w:World) (h:Heap),YP w h->(K w.params).In h)(F:∀(w:World) (mg:Xa) (fa:Addr) (h:Heap),(K w.params).In h->h.Ns mainGlobals mg->mg d.name=some (.ref fa)->∃fd:FuncData,(∀(s:Shared) (u:Value),BindsTo s fd ⟨[u],[]⟩ [(x,u)])/\∀base:Heap,(K w.params).In base->base.Ns mainGlobals mg->FnOk l.prog w (K w.params) mg base (CX w) k fa fd [x] (sp w))(hsp:∀(w:World) (H:Hp) (a:Addr) (ns:List Int),ns.length<=n->AT H->SqL (K w.params) H a (ns.map V.int)->sp w [.ref a] H (λv _=>v=.bl true) λ_ _ _=>False)(hCX:∀(w:World) (H:Hp) (s:Shared) (e:Value) (s':Shared),CX w [] H s (λ_ _ _=>False) e s'->False):
  PySem.W.WalkO q loose XP YP l.row.toRowW d [] (λf vs=>PySem.call f vs):=by
 refine Att.attach_call hn hdf λw s₀ s₁ mg mb fa o pm cd doc a vs ns G Y ho hd hcd hmg hobj hints hlen hg=>?_;have KX:=hY w _ Y;obtain⟨fd,hb,hF⟩:=F w mg fa _ KX G.T.g hmg;exact ON KX G.T.g G.T.b G.T.builtins G.T.nolimit hg hobj hints (Uk hlen hn2) hr hF hb (λH hO hS=>hsp w H a ns hlen hO hS) λH e s'=>hCX w H s₁ e s'
def Qk(s:Stmt)(j:Nat):Stmt:=match s with
 |.ClassDef _ _ _ body _ _ _ _ _ _ _=>body.getD j (.Pass ⟨0,0,0,0⟩)|_=>.Pass ⟨0,0,0,0⟩
def YZ(s:Stmt):Arguments:=match s with
 |.FunctionDef _ a _ _ _ _ _ _ _ _=>a|_=>{posonlyargs:=[],args:=[],vararg:=none,kwonlyargs:=[],kw_defaults:=[],kwarg:=none,defaults:=[]}
def Z3(s:Stmt):List Stmt:=match s with
 |.FunctionDef _ _ b _ _ _ _ _ _ _=>b|_=>[]
def QE(s:Stmt):Scope:=match s with
 |.FunctionDef _ _ _ _ _ _ sc _ _ _=>sc|_=>{kind:=.function,names:=[],isGenerator:=false,isCoroutine:=false}
abbrev tR:AK:=λ_ _ _ _ _ _=>False
abbrev E0:XK:=λ_ _ _=>False
structure Fun(K:Frag)(x qual:Str)(st:Stmt)(f:Addr)(fd:FuncData):Prop where
 ex:∃(oc:Value)(od:Option Addr)(kV doc pm:Value)(an:Option Addr)(cdv ct:Value)(osl:Array (Option Value)),fd=fnOf x qual (YZ st) (Z3 st) (QE st) .none kV doc pm an cdv ct/\K.lookup f=some ⟨oc,od,.func fd,osl⟩/\codeIn K cdv qual=true
 kp:keepIn K (.ref f)=true
section
variable{P:Program}{w:World}{K:Frag}{mg:Xa}{base:Heap}
theorem Fun.binds{x qual:Str}{st:Stmt}{f:Addr}{fd:FuncData}{ps:List Str}(F:Fun K x qual st f fd)(h:∀(kV doc pm:Value) (an:Option Addr) (cdv ct:Value) (us:List Value),us.length=ps.length->bindArgs (fnOf x qual (YZ st) (Z3 st) (QE st) .none kV doc pm an cdv ct) ⟨us,[]⟩=pure (ps.zip us)):Binds K fd ps []:=by obtain⟨oc,od,kV,doc,pm,an,cdv,ct,osl,rfl,lk,hcd⟩:=F.ex;exact .all (h kV doc pm an cdv ct)
theorem IB{x qual:Str}{st:Stmt}{f:Addr}{oc:Value}{od an:Option Addr}{osl:Array (Option Value)}{kV doc pm cdv ct:Value}(l:K.lookup f=some ⟨oc,od,.func (fnOf x qual (YZ st) (Z3 st) (QE st) .none kV doc pm an cdv ct),osl⟩)(c:codeIn K cdv qual=true)(k:keepIn K (.ref f)=true):Fun K x qual st f (fnOf x qual (YZ st) (Z3 st) (QE st) .none kV doc pm an cdv ct):=⟨⟨oc,od,kV,doc,pm,an,cdv,ct,osl,rfl,l,c⟩,k⟩
end
def tI(H H':Hp):Prop:=∀b o,H b=some o->H' b=some o
end L2
set_option maxHeartbeats 4000000
namespace SO
open PySem PyProof PyProof.Rows
class Rk where
 rk:Value->Int
 ok:Keyed->Prop
 kd:SortKind
abbrev KI[Rk](x:Keyed):Prop:=Rk.ok x
noncomputable abbrev nk[Rk](x:Keyed):Int:=Rk.rk x.1
class Cmp [Rk] (prog:Program) (w:World) (A:Around) (s:Shared):Prop where
 lt:∀x y,KI x->KI y->∀{E:VP}{Q:Bool->Shared->Prop},Q (decide (nk x<nk y)) s->wpAny (model prog w) A (keyLt' Rk.kd x.1 y.1) Q E s
variable[Rk]
noncomputable def K(xs:Array Keyed)(i:Nat):Int:=match xs[i]? with
 |some p=>nk p|none=>0
def JU(xs:Array Keyed)(k:Nat):Prop:=∀i j,i<=j->j<k->K xs i<=K xs j
theorem Cq(h:xs[i]?=ys[j]?):K xs i=K ys j:=by unfold K;rw[h]
theorem qN(hi:i<xs.size):K xs i=nk xs[i]:=by unfold K;rw[oN xs i hi]
theorem OO(hs:src<xs.size)(hd:d<=src)(k:Nat):K (bubble xs src d) k=if k=src-d then K xs src else if src-d<k/\k<=src then K xs (k-1) else K xs k:=by
 have e:=getElem?_bubble hs d hd k
 repeat' split
 all_goals (first|rw[Uf (by assumption)]at e|(rw[Uh (by assumption)]at e;first|rw[Uf (by assumption)]at e|rw[Uh (by assumption)]at e))
 all_goals exact Cq e
theorem VH(hj:j<=xs.size)(k:Nat):K (mirror xs i j ((j-i) / 2)) k=if i<=k/\k<j then K xs (i+j-1-k) else K xs k:=by
 have e:=getElem?_mirror_all (i:=i) hj k;split
 ·rw[Uf (by assumption)]at e;exact Cq e
 ·rw[Uh (by assumption)]at e;exact Cq e
theorem ZU(hj:j<=xs.size)(heq:∀k,i<=k->k<j->K xs k=K xs (j-1))(k:Nat):K (mirror xs i j ((j-i) / 2)) k=K xs k:=by
 rw[VH hj];split
 ·rw[heq _ (by omega) (by omega),heq k (by omega) (by omega)]
 ·rfl
noncomputable def FQ:Bool->Keyed->Array Keyed->Nat->Nat->Nat->StateT SortSt Sem (Option Nat):=sortPriv% PySem.Builtin.gallop
noncomputable def look(lf:Bool)(ky:Keyed)(ar:Array Keyed)(bs i:Nat):StateT SortSt Sem (Option Bool):=do
 let z <-elem' ar (bs+i)
 if lf then lt' z ky else return (<-lt' ky z).map (!·)
theorem AU(lf:Bool)(ky:Keyed)(ar:Array Keyed)(bs n hn:Nat):FQ lf ky ar bs n hn=(do
 let mut lst:=0
 let mut o:=1
 let mut lo:=0
 let mut hi:=0
 let some r <-look lf ky ar bs hn|return none
 if r then
  let mx:=n-hn
  for _ in [0:n] do
   if o>=mx then break
   let some m <-look lf ky ar bs (hn+o)|return none
   if !m then break
   lst:=o
   o:=2*o+1
  lo:=hn+lst+1
  hi:=hn+min o mx
 else
  let mx:=hn+1
  for _ in [0:n] do
   if o>=mx then break
   let some f <-look lf ky ar bs (hn-o)|return none
   if f then break
   lst:=o
   o:=2*o+1
  lo:=hn+1-min o mx
  hi:=hn-lst
 for _ in [0:n] do
  if lo>=hi then break
  let m:=lo+(hi-lo) / 2
  let some y <-look lf ky ar bs m|return none
  if y then lo:=m+1 else hi:=m
 return some hi):=rfl
section
variable{A:Around}{E:VP}{s:Shared}
theorem Qu{σ α:Type}{M:Model}{c:Prop}[Decidable c]{m1 m2:StateT σ Sem α}{Q:α->σ->Prop}{st:σ}(h:c)(k:wpS M A E s m1 Q st):wpS M A E s (if c then m1 else m2) Q st:=by rw[Uf h];exact k
theorem Qx{σ α:Type}{M:Model}{c:Prop}[Decidable c]{m1 m2:StateT σ Sem α}{Q:α->σ->Prop}{st:σ}(h:¬c)(k:wpS M A E s m2 Q st):wpS M A E s (if c then m1 else m2) Q st:=by rw[Uh h];exact k
theorem KO{σ α:Type}{M:Model}{c:Prop}[Decidable c]{m1 m2:StateT σ Sem α}{Q:α->σ->Prop}{st:σ}(k1:wpS M A E s m1 Q st)(k2:wpS M A E s m2 Q st):wpS M A E s (if c then m1 else m2) Q st:=by
 split
 ·exact k1
 ·exact k2
theorem Zt{x y:Nat}(h:¬x=y):¬(x==y)=true:=λe=>h (RM.mp e)
theorem Q7{x y:Nat}(h:x=y):(x==y)=true:=RM.mpr h
theorem Vp[Decidable p](h:¬p):¬decide p=true:=λe=>h (UC e)
end
section
variable{prog:Program}{w:World}{A:Around}{E:VP}{s:Shared}[Cmp prog w A s]
theorem GV{st:SortSt}{x y:Keyed}{Q:Option Bool->SortSt->Prop}(hk:kindOf st=Rk.kd)(hx:KI x)(hy:KI y)(h:Q (some (decide (nk x<nk y))) st):wpS (model prog w) A E s (lt' x y) Q st:=by rw[lt'_eq];refine Ur (BD ?_);rw[hk];exact Ur (wpS_lift (Wb (Cmp.lt x y hx hy ⟨rfl,Uw h⟩)))
theorem Q0{st:SortSt}{ar:Array Keyed}{i:Nat}{Q:Keyed->SortSt->Prop}(hi:i<ar.size)(h:Q ar[i] st):
  wpS (model prog w) A E s (elem' ar i) Q st:=by
 rw[elem'_eq,oN ar i hi];exact Uw h
noncomputable def LK(lf:Bool)(kv v:Int):Bool:=if lf then decide (v<kv) else decide (v<=kv)
theorem AV{st:SortSt}{lf:Bool}{ky:Keyed}{ar:Array Keyed}{bs i:Nat}{Q:Option Bool->SortSt->Prop}(hk:kindOf st=Rk.kd)(hky:KI ky)(ha:∀x∈ar,KI x)(hi:bs+i<ar.size)(h:Q (some (LK lf (nk ky) (nk ar[bs+i]))) st):
  wpS (model prog w) A E s (look lf ky ar bs i) Q st:=by
 unfold look;refine Ur (Q0 hi ?_);have hz:=ha _ (U3 hi);cases lf with
 |true =>rw[Uf rfl];exact GV hk hz hky (by unfold LK at h;rw[Uf rfl]at h;exact h)|false=>
  rw[Uh (by decide)];refine Ur (GV hk hky hz (Uw ?_));have e:(some (decide (nk ky<nk ar[bs+i]))).map (!·)=some (decide (nk ar[bs+i]<=nk ky)):=by show some (!decide _)=_;rw[<-decide_not];exact TY some (Tj.mpr WC)
  rw[e];unfold LK at h;rw[Uh (by decide)]at h;exact h
theorem dI{st:SortSt}{lf:Bool}{ky:Keyed}{ar:Array Keyed}{bs n hn:Nat}{Q:Option Nat->SortSt->Prop}(hk:kindOf st=Rk.kd)(hky:KI ky)(ha:∀x∈ar,KI x)(hb:bs+n<=ar.size)(hh:hn<n)(p:Nat->Bool)(hp:∀i (h:bs+i<ar.size),i<n->p i=LK lf (nk ky) (nk ar[bs+i]))(mono:∀i j,i<=j->j<n->p j=true->p i=true)(h:∀k,k<=n->(∀i,i<k->p i=true)->(∀i,k<=i->i<n->p i=false)->Q (some k) st):
  wpS (model prog w) A E s (FQ lf ky ar bs n hn) Q st:=by
 have ask:∀{i:Nat}{R:Option Bool->SortSt->Prop},i<n->R (some (p i)) st->wpS (model prog w) A E s (look lf ky ar bs i) R st:=by intro i R hi hR;exact AV hk hky ha (by omega) (by rw[<-hp i (by omega) hi];exact hR)
 have bin:∀{lo hi:Nat}{R:Option (Option Nat)×Nat×Nat->SortSt->Prop},lo<=hi->hi<=n->(∀i,i<lo->p i=true)->(∀i,hi<=i->i<n->p i=false)->(∀l k,k<=n->(∀i,i<k->p i=true)->(∀i,k<=i->i<n->p i=false)->R (none,l,k) st)->
   wpS (model prog w) A E s (forIn [0:n] ((none,lo,hi):Option (Option Nat)×Nat×Nat) λ_ c=>do
    if c.2.1>=c.2.2 then pure (ForInStep.done (none,c.2.1,c.2.2)) else do
     let z <-look lf ky ar bs (c.2.1+(c.2.2-c.2.1) / 2)
     match z with
     |some y=>if y=true then pure (ForInStep.yield (none,c.2.1+(c.2.2-c.2.1) / 2+1,c.2.2)) else pure (ForInStep.yield (none,c.2.1,c.2.1+(c.2.2-c.2.1) / 2))
     |_=>pure (ForInStep.done (some none,c.2.1,c.2.2))) R st:=by
  intro lo hi R h1 h2 h3 h4 hR;refine Th (I:=λx c st'=>st'=st/\∃l r,c=(none,l,r)/\l<=r/\r<=n/\r-l<=n-x/\(∀i,i<l->p i=true)/\(∀i,r<=i->i<n->p i=false)) ?step ?fin ⟨rfl,lo,hi,rfl,h1,h2,by omega,h3,h4⟩;case fin=>
   rintro c st' ⟨rfl,l,r,rfl,a1,a2,a3,a4,a5⟩;have e:l=r:=by omega
   subst e;exact hR l l a2 a4 a5
  case step=>
   rintro x c st' _ hx ⟨rfl,l,r,rfl,a1,a2,a3,a4,a5⟩;dsimp only;by_cases hge:l>=r
   ·refine Qu hge ?_;have e:l=r:=by omega
    subst e;exact Uw (hR l l a2 a4 a5)
   ·refine Qx hge ?_;refine Ur (ask (by omega) ?_);dsimp only;cases hm:p (l+(r-l) / 2) with
    |true =>refine Qu rfl ?_;exact Uw ⟨rfl,_,r,rfl,by omega,a2,by omega,λi hi=>mono i _ (by omega) (by omega) hm,a5⟩|false=>
     refine Qx (by decide) ?_;refine Uw ⟨rfl,l,_,rfl,by omega,by omega,by omega,a4,λi q1 q2=>?_⟩;cases hi:p i with
     |false=>rfl|true=>rw[mono _ i q1 q2 hi]at hm;cases hm
 rw[AU];refine Ur (ask hh ?_);dsimp only;cases hq:p hn with
 |true=>
  refine Qu rfl ?_;refine Ur (Th (I:=λx c st'=>st'=st/\∃l o,c=(none,l,o)/\l+1<=o/\x+1<=o/\hn+l<n/\p (hn+l)=true) ?step ?fin ⟨rfl,0,1,rfl,by omega,by omega,by omega,hq⟩);case fin =>rintro c st' ⟨rfl,l,o,rfl,a1,a2,a3,a4⟩;dsimp only;refine Ur (bin (by omega) (by omega) (λi hi=>mono i _ (by omega) a3 a4) (λi q1 q2=>absurd q2 (by omega)) λl' k b1 b2 b3=>Uw (h k b1 b2 b3))
  case step=>
   rintro x c st' _ hx ⟨rfl,l,o,rfl,a1,a2,a3,a4⟩;dsimp only;by_cases hge:o>=n-hn
   ·refine Qu hge ?_;refine Uw ?_;dsimp only;exact(Ur (bin (by omega) (by omega) (λi hi=>mono i _ (by omega) a3 a4) (λi q1 q2=>absurd q2 (by omega)) λl' k b1 b2 b3=>Uw (h k b1 b2 b3)))
   ·refine Qx hge ?_;refine Ur (ask (by omega) ?_);dsimp only;cases hm:p (hn+o) with
    |true =>refine Qx (by decide) ?_;exact Uw ⟨rfl,o,_,rfl,by omega,by omega,by omega,hm⟩|false=>
     refine Qu (by decide) ?_;refine Uw ?_;dsimp only;refine(Ur (bin (by omega) (by omega) (λi hi=>mono i _ (by omega) a3 a4) (λi q1 q2=>?_) λl' k b1 b2 b3=>Uw (h k b1 b2 b3)));cases hi:p i with
     |false=>rfl|true=>rw[mono (hn+o) i (by omega) q2 hi]at hm;cases hm
 |false=>
  rw[Uh (by decide)];have lowF:∀{l:Nat},l<=hn->p (hn-l)=false->∀i,hn-l<=i->i<n->p i=false:=by
   intro l _ hl i q1 q2;cases hi:p i with
   |false=>rfl|true=>rw[mono (hn-l) i q1 q2 hi]at hl;cases hl
  refine Ur (Th (I:=λx c st'=>st'=st/\∃l o,c=(none,l,o)/\l+1<=o/\x+1<=o/\l<=hn/\p (hn-l)=false) ?step ?fin ⟨rfl,0,1,rfl,by omega,by omega,by omega,hq⟩);case fin =>rintro c st' ⟨rfl,l,o,rfl,a1,a2,a3,a4⟩;dsimp only;refine Ur (bin (by omega) (by omega) (λi hi=>absurd hi (by omega)) (lowF a3 a4) λl' k b1 b2 b3=>Uw (h k b1 b2 b3))
  case step=>
   rintro x c st' _ hx ⟨rfl,l,o,rfl,a1,a2,a3,a4⟩;dsimp only;by_cases hge:o>=hn+1
   ·refine Qu hge ?_;refine Uw ?_;dsimp only;exact(Ur (bin (by omega) (by omega) (λi hi=>absurd hi (by omega)) (lowF a3 a4) λl' k b1 b2 b3=>Uw (h k b1 b2 b3)))
   ·refine Qx hge ?_;refine Ur (ask (by omega) ?_);dsimp only;cases hm:p (hn-o) with
    |true =>refine Qu rfl ?_;refine Uw ?_;dsimp only;exact(Ur (bin (by omega) (by omega) (λi hi=>mono i (hn-o) (by omega) (by omega) hm) (lowF a3 a4) λl' k b1 b2 b3=>Uw (h k b1 b2 b3)))|false =>refine Qx (by decide) ?_;exact Uw ⟨rfl,o,_,rfl,by omega,by omega,by omega,hm⟩
end
noncomputable def dJ:Array Keyed->Array Keyed->StateT SortSt Sem (Array Keyed):=sortPriv% PySem.Builtin.mergeLo
noncomputable def dL:Array Keyed->Array Keyed->StateT SortSt Sem (Array Keyed):=sortPriv% PySem.Builtin.mergeHi
noncomputable def GW(g:Nat):StateT SortSt Sem Unit:=modify λz=>SortSt.mk' (kindOf z) (arrOf z) (pendingOf z) g (failedOf z)
abbrev dM(l:List Keyed):Prop:=l.Pairwise λx y=>nk x<=nk y
structure JL(o p q t:List Keyed):Prop where
 perm:(o++(p++q)).Perm t
 sp:dM (o++p)
 sq:dM (o++q)
theorem JL.swap(h:JL o p q t):JL o q p t:=⟨(WT o WU).trans h.perm,h.sq,h.sp⟩
theorem JL.take(h:JL o (x++p) q t)(c:∀u∈x,∀v∈q,nk u<=nk v):JL (o++x) p q t:=by
 refine⟨by rw[UE,<-UE x];exact h.perm,by rw[UE];exact h.sp,?_⟩;have h1:=h.sp;rw[<-UE]at h1;have h2:=Rc.mp h.sq;refine Rc.mpr ⟨(Rc.mp h1).1,h2.2.1,λu hu v hv=>?_⟩;rcases Ut.mp hu with hu|hu
 ·exact h2.2.2 u hu v hv
 ·exact c u hu v hv
abbrev Fe(out a b:Array Keyed):Prop:=out.toList.Perm (a.toList++b.toList)/\dM out.toList
theorem Cr(a:Array Keyed)(i:Nat):(a.extract i a.size).toList=a.toList.drop i:=by rw[Wg,Rx,Rq];simp
theorem OP(a:Array Keyed)(i k:Nat):(a.extract i (i+k)).toList=(a.toList.drop i).take k:=by rw[Wg,Rx,Rg]
theorem Yc(h:i<a.size):nk a[i]=K a i:=(qN h).symm
theorem VI(h:y∈a.toList.drop i):∃m,i<=m/\m<a.size/\nk y=K a m:=by obtain⟨m,hm,e⟩:=RN h;rw[Rs,Uo]at hm;rw[List.getElem_drop,TQ]at e;exact⟨i+m,by omega,by omega,by rw[<-e,Yc]⟩
theorem JV(h:y∈(a.toList.drop i).take k):∃m,i<=m/\m<i+k/\m<a.size/\nk y=K a m:=by obtain⟨m,hm,e⟩:=RN h;rw[Ti,Rs,Uo]at hm;rw[List.getElem_take,List.getElem_drop,TQ]at e;exact⟨i+m,by omega,by omega,by omega,by rw[<-e,Yc]⟩
theorem LH{a:Array Keyed}{i:Nat}(h:i<a.size):a.toList.drop i=a[i]::a.toList.drop (i+1):=by rw[Wm (by rw[Uo];exact h),TQ]
structure Mid(a b r:Array Keyed)(i j:Nat):Prop where
 jl:JL r.toList (a.toList.drop i) (b.toList.drop j) (a.toList++b.toList)
 hi:i<=a.size
 hj:j<=b.size
theorem Mid.size(M:Mid a b r i j):r.size+(a.size-i)+(b.size-j)=a.size+b.size:=by have:=M.jl.perm.length_eq;simp only[Uq,Rs,Uo]at this;omega
theorem Mid.pushA{a b r:Array Keyed}{i j:Nat}(M:Mid a b r i j)(h:i<a.size)(c:∀m,j<=m->m<b.size->K a i<=K b m):Mid a b (r.push a[i]) (i+1) j:=by refine⟨?_,h,M.hj⟩;rw[We];refine JL.take (by have:=M.jl;rw[LH h]at this;exact this) λu hu v hv=>?_;obtain⟨m,h1,h2,e⟩:=VI hv;rw[Ui.mp hu,Yc h,e];exact c m h1 h2
theorem Mid.pushB{a b r:Array Keyed}{i j:Nat}(M:Mid a b r i j)(h:j<b.size)(c:∀m,i<=m->m<a.size->K b j<=K a m):Mid a b (r.push b[j]) i (j+1):=by refine⟨?_,M.hi,h⟩;rw[We];refine(JL.take (by have:=M.jl.swap;rw[LH h]at this;exact this) λu hu v hv=>?_).swap;obtain⟨m,h1,h2,e⟩:=VI hv;rw[Ui.mp hu,Yc h,e];exact c m h1 h2
theorem Mid.manyA(M:Mid a b r i j)(h:i+k<=a.size)(c:∀m n,i<=m->m<i+k->j<=n->n<b.size->K a m<=K b n):Mid a b (r++a.extract i (i+k)) (i+k) j:=by refine⟨?_,h,M.hj⟩;rw[U1,OP];refine JL.take (by rw[<-Bx,TJ];exact M.jl) λu hu v hv=>?_;obtain⟨m,h1,h2,h3,e⟩:=JV hu;obtain⟨n,h4,h5,e2⟩:=VI hv;rw[e,e2];exact c m n h1 h2 h4 h5
theorem Mid.manyB(M:Mid a b r i j)(h:j+k<=b.size)(c:∀m n,j<=m->m<j+k->i<=n->n<a.size->K b m<=K a n):Mid a b (r++b.extract j (j+k)) i (j+k):=by refine⟨?_,M.hi,h⟩;rw[U1,OP];refine(JL.take (by rw[<-Bx,TJ];exact M.jl.swap) λu hu v hv=>?_).swap;obtain⟨m,h1,h2,h3,e⟩:=JV hu;obtain⟨n,h4,h5,e2⟩:=VI hv;rw[e,e2];exact c m n h1 h2 h4 h5
theorem Mid.endB(M:Mid a b r i j)(h:j=b.size):Fe (r++a.extract i a.size++b.extract j b.size) a b:=by have e:b.toList.drop j=[]:=B5 (by rw[Uo];omega);have p:=M.jl.perm;have q:=M.jl.sp;rw[e,U6]at p;rw[Fe,U1,U1,Cr,Cr,e,U6];exact⟨p,q⟩
theorem Mid.endA(M:Mid a b r i j)(h:i=a.size):Fe (r++a.extract i a.size++b.extract j b.size) a b:=by have e:a.toList.drop i=[]:=B5 (by rw[Uo];omega);have p:=M.jl.perm;have q:=M.jl.sq;rw[e,RC]at p;rw[Fe,U1,U1,Cr,Cr,e,U6];exact⟨p,q⟩
theorem Mid.lastA(M:Mid a b r i j)(h:i+1=a.size)(c:∀m,m<b.size->K b m<=K a (a.size-1)):Fe (r++b.extract j b.size++a.extract i a.size) a b:=by
 have N:=M.manyB (k:=b.size-j) (by have:=M.hj;omega) λm n h1 h2 h3 h4=>by rw[show n=a.size-1 by omega];exact c m (by have:=M.hj;omega)
 have e:j+(b.size-j)=b.size:=by have:=M.hj;omega
 rw[e]at N;have:=N.endB rfl;rw[show b.extract b.size b.size = #[] by simp,Array.append_empty]at this;exact this
noncomputable abbrev qO:=Option (Array Keyed)×Array Keyed×Nat×Nat×Nat×Nat
noncomputable abbrev kN:=Option (Array Keyed)×Array Keyed×Nat×Nat×Nat
noncomputable abbrev kO:=Option (Array Keyed)×Array Keyed×Nat×Nat×Nat×Nat×Nat
noncomputable def OQ(a b:Array Keyed)(g:Nat)(r:Array Keyed)(i j ac bc:Nat):StateT SortSt Sem (ForInStep qO):=do
 let z <-lt' (<-elem' b j) (<-elem' a i)
 match z with
 |some y=>
  if y=true then do
   let r:=r.push (<-elem' b j)
   if (j+1==b.size)=true then pure (ForInStep.done (some (r++a.extract i a.size++b.extract (j+1) b.size),r,i,j+1,0,bc+1))
   else if bc+1>=g then pure (ForInStep.done (none,r,i,j+1,0,bc+1)) else pure (ForInStep.yield (none,r,i,j+1,0,bc+1))
  else do
   let r:=r.push (<-elem' a i)
   if (i+1+1==a.size)=true then pure (ForInStep.done (some (r++b.extract j b.size++a.extract (i+1) a.size),r,i+1,j,ac+1,0))
   else if ac+1>=g then pure (ForInStep.done (none,r,i+1,j,ac+1,0)) else pure (ForInStep.yield (none,r,i+1,j,ac+1,0))
 |_=>pure (ForInStep.done (some (r++a.extract i a.size++b.extract j b.size),r,i,j,ac,bc))
noncomputable def Cs(a b:Array Keyed)(g k k2 i j:Nat)(r:Array Keyed):StateT SortSt Sem (ForInStep kO):=do
 let r:=r.push (<-elem' a i)
 if (i+1+1==a.size)=true then pure (ForInStep.done (some (r++b.extract j b.size++a.extract (i+1) a.size),r,i+1,j,g,k,k2))
 else if (decide (k<7)&&decide (k2<7))=true then pure (ForInStep.done (none,r,i+1,j,g,k,k2))
 else pure (ForInStep.yield (none,r,i+1,j,g,k,k2))
noncomputable def Cu(a b:Array Keyed)(g k bc i j:Nat)(r:Array Keyed):StateT SortSt Sem (ForInStep kO):=do
 let r:=r.push (<-elem' b j)
 if (j+1==b.size)=true then pure (ForInStep.done (some (r++a.extract i a.size++b.extract (j+1) b.size),r,i,j+1,g,k,bc)) else do
  let z <-FQ true (<-elem' a i) b (j+1) (b.size - (j+1)) 0
  match z with
  |some y=>
   if y>0 then
    if (j+1+y==b.size)=true then pure (ForInStep.done (some (r++b.extract (j+1) (j+1+y)++a.extract i a.size++b.extract (j+1+y) b.size),r++b.extract (j+1) (j+1+y),i,j+1+y,g,k,y))
    else Cs a b g k y i (j+1+y) (r++b.extract (j+1) (j+1+y))
   else Cs a b g k y i (j+1) r
  |_=>pure (ForInStep.done (some (r++a.extract i a.size++b.extract (j+1) b.size),r,i,j+1,g,k,bc))
noncomputable def CT(a b r:Array Keyed)(i j ac bc g:Nat):StateT SortSt Sem (ForInStep kO):=do
 GW g
 let z <-FQ false (<-elem' b j) a i (a.size-i) 0
 match z with
 |some y=>
  if y>0 then
   if (i+y+1==a.size)=true then pure (ForInStep.done (some (r++a.extract i (i+y)++b.extract j b.size++a.extract (i+y) a.size),r++a.extract i (i+y),i+y,j,g,y,bc))
   else if (i+y==a.size)=true then pure (ForInStep.done (some (r++a.extract i (i+y)++a.extract (i+y) a.size++b.extract j b.size),r++a.extract i (i+y),i+y,j,g,y,bc))
   else Cu a b g y bc (i+y) j (r++a.extract i (i+y))
  else Cu a b g y bc i j r
 |_=>pure (ForInStep.done (some (r++a.extract i a.size++b.extract j b.size),r,i,j,g,ac,bc))
noncomputable def FR(a b r:Array Keyed)(i j ac bc g:Nat):StateT SortSt Sem (ForInStep kN):=do
 liftM (rule "list.sort.gallop")
 let c <-forIn [0:a.size+b.size] ((none,r,i,j,g+1,ac,bc):kO) λ_ c=>
  if c.snd.snd.snd.snd.fst>1 then CT a b c.snd.fst c.snd.snd.fst c.snd.snd.snd.fst c.snd.snd.snd.snd.snd.fst c.snd.snd.snd.snd.snd.snd (c.snd.snd.snd.snd.fst-1)
  else CT a b c.snd.fst c.snd.snd.fst c.snd.snd.snd.fst c.snd.snd.snd.snd.snd.fst c.snd.snd.snd.snd.snd.snd c.snd.snd.snd.snd.fst
 match c.fst with
 |some o=>pure (ForInStep.done (some o,c.snd.fst,c.snd.snd.fst,c.snd.snd.snd.fst,c.snd.snd.snd.snd.fst))|none=>do
  GW (c.snd.snd.snd.snd.fst+1)
  pure (ForInStep.yield (none,c.snd.fst,c.snd.snd.fst,c.snd.snd.snd.fst,c.snd.snd.snd.snd.fst+1))
noncomputable def FS(a b r:Array Keyed)(i j g:Nat):StateT SortSt Sem (ForInStep kN):=do
 let c <-forIn [0:a.size+b.size] ((none,r,i,j,0,0):qO) λ_ c=>OQ a b g c.snd.fst c.snd.snd.fst c.snd.snd.snd.fst c.snd.snd.snd.snd.fst c.snd.snd.snd.snd.snd
 match c.fst with
 |some o=>pure (ForInStep.done (some o,c.snd.fst,c.snd.snd.fst,c.snd.snd.snd.fst,g))|none=>FR a b c.snd.fst c.snd.snd.fst c.snd.snd.snd.fst c.snd.snd.snd.snd.fst c.snd.snd.snd.snd.snd g
noncomputable def aX(a b r:Array Keyed)(g:Nat):StateT SortSt Sem (Array Keyed):=do
 let c <-forIn [0:a.size+b.size] ((none,r,0,1,g):kN) λ_ c=>FS a b c.snd.fst c.snd.snd.fst c.snd.snd.snd.fst c.snd.snd.snd.snd
 match c.fst with
 |some o=>pure o|none=>liftM (unsupported "internal:list.sort.merge-bound")
theorem dN(a b:Array Keyed):dJ a b=(do
 liftM (rule "list.sort.merge-lo")
 let x <-elem' b 0
 if (1==b.size)=true then pure (#[x]++a.extract 0 a.size++b.extract 1 b.size)
 else if (0+1==a.size)=true then pure (#[x]++b.extract 1 b.size++a.extract 0 a.size)
 else do
  let t <-get
  aX a b #[x] (gallopOf t)):=by
 kernel_rfl
section
variable{prog:Program}{w:World}{A:Around}{E:VP}{s:Shared}[Cmp prog w A s]
def Alike(st st':SortSt):Prop:=kindOf st'=kindOf st/\arrOf st'=arrOf st/\pendingOf st'=pendingOf st/\failedOf st'=failedOf st
theorem Alike.refl(st:SortSt):Alike st st:=⟨rfl,rfl,rfl,rfl⟩
theorem srt_of(sx:JU x x.size):dM x.toList:=by refine Ry.mpr λi j hi hj hij=>?_;rw[Uo]at hi hj;rw[TQ,TQ,Yc hi,Yc hj];exact sx i j (Rf hij) hj
theorem Cv{st:SortSt}{g:Nat}{Q:Unit->SortSt->Prop}(h:∀st',(∀z,Alike z st->Alike z st')->Q () st'):wpS (model prog w) A E s (GW g) Q st:=by unfold GW;exact BE (h _ λz hz=>hz)
theorem kP:LK false kv v=decide (v<=kv):=rfl
theorem kQ:LK true kv v=decide (v<kv):=rfl
theorem XX{st:SortSt}{lf:Bool}{ky:Keyed}{ar:Array Keyed}{bs n hn:Nat}{Q:Option Nat->SortSt->Prop}(hk:kindOf st=Rk.kd)(hky:KI ky)(ha:∀x∈ar,KI x)(hb:bs+n<=ar.size)(hh:hn<n)(so:∀i j,i<=j->j<n->K ar (bs+i)<=K ar (bs+j))(h:∀k,k<=n->(∀i,i<k->LK lf (nk ky) (K ar (bs+i))=true)->(∀i,k<=i->i<n->LK lf (nk ky) (K ar (bs+i))=false)->Q (some k) st):
  wpS (model prog w) A E s (FQ lf ky ar bs n hn) Q st:=by
 refine dI hk hky ha hb hh (λi=>LK lf (nk ky) (K ar (bs+i))) (λi hi _=>by rw[Yc hi]) (λi j hij hj hp=>?_) h;have:=so i j hij hj;cases lf with
 |true=>rw[kQ]at hp ⊢;exact Us (Int.lt_of_le_of_lt this (UC hp))|false=>rw[kP]at hp ⊢;exact Us (U2 this (UC hp))
structure Two(a b:Array Keyed):Prop where
 ka:∀x∈a,KI x
 kb:∀x∈b,KI x
 sa:JU a a.size
 sb:JU b b.size
 c0:K b 0<=K a 0
 cl:∀m,m<b.size->K b m<=K a (a.size-1)
structure Am(a b r:Array Keyed)(i j n:Nat):Prop where
 mid:Mid a b r i j
 hi:i+1<a.size
 hj:j<b.size
 hn:n<=r.size
noncomputable def kR(st:SortSt)(a b:Array Keyed)(n N:Nat):ForInStep qO->SortSt->Prop
 |.done c,st'=>st'=st/\((∃out r i j ac bc,c=(some out,r,i,j,ac,bc)/\Fe out a b)\/∃r i j ac bc,c=(none,r,i,j,ac,bc)/\Am a b r i j n)|.yield c,st'=>st'=st/\∃r i j ac bc,c=(none,r,i,j,ac,bc)/\Am a b r i j N
noncomputable def OR(st:SortSt)(a b:Array Keyed)(n N:Nat):ForInStep kO->SortSt->Prop
 |.done c,st'=>Alike st st'/\((∃out r i j g ac bc,c=(some out,r,i,j,g,ac,bc)/\Fe out a b)\/∃r i j g ac bc,c=(none,r,i,j,g,ac,bc)/\Am a b r i j n)|.yield c,st'=>Alike st st'/\∃r i j g ac bc,c=(none,r,i,j,g,ac,bc)/\Am a b r i j N
noncomputable def OS(st:SortSt)(a b:Array Keyed)(N:Nat):ForInStep kN->SortSt->Prop
 |.done c,st'=>Alike st st'/\∃out r i j g,c=(some out,r,i,j,g)/\Fe out a b|.yield c,st'=>Alike st st'/\∃r i j g,c=(none,r,i,j,g)/\Am a b r i j N
variable{st st2:SortSt}{a b r:Array Keyed}{i j n N g:Nat}
theorem Am.no(M:Am a b r i j n)(h:a.size+b.size<=n):False:=by have:=M.mid.size;have:=M.hi;have:=M.hn;omega
theorem Am.pushA(M:Am a b r i j n)(h:i<a.size)(c:∀m,j<=m->m<b.size->K a i<=K b m)(e:¬i+1+1=a.size)(hN:N<=n+1):Am a b (r.push a[i]) (i+1) j N:=⟨M.mid.pushA h c,by have:=M.hi;omega,M.hj,by rw[Bf];have:=M.hn;omega⟩
theorem Am.pushB(M:Am a b r i j n)(c:∀m,i<=m->m<a.size->K b j<=K a m)(e:¬j+1=b.size)(hN:N<=n+1):Am a b (r.push (b[j]'M.hj)) i (j+1) N:=⟨M.mid.pushB M.hj c,M.hi,by have:=M.hj;omega,by rw[Bf];have:=M.hn;omega⟩
theorem OT(T:Two a b)(hk:kindOf st=Rk.kd)(M:Am a b r i j n)(hN:N<=n+1):
  wpS (model prog w) A E s (OQ a b g r i j ac bc) (kR st a b N N) st:=by
 have hi:=TX M.hi;have hj:=M.hj;unfold OQ;refine Ur (Q0 hj (Ur (Q0 hi (Ur (GV hk (T.kb _ (U3 hj)) (T.ka _ (U3 hi)) ?_)))));rw[Yc hj,Yc hi];by_cases hw:K b j<K a i
 ·refine Qu (Us hw) (Ur (Q0 hj ?_));have c:∀m,i<=m->m<a.size->K b j<=K a m:=λm h1 h2=>U2 (TM hw) (T.sa i m h1 h2);by_cases e:j+1=b.size
  ·exact Qu (Q7 e) (Uw ⟨rfl,.inl ⟨_,_,_,_,_,_,rfl,(M.mid.pushB hj c).endB e⟩⟩)
  have M':=M.pushB c e hN;exact Qx (Zt e) (KO (Uw ⟨rfl,.inr ⟨_,_,_,_,_,rfl,M'⟩⟩) (Uw ⟨rfl,_,_,_,_,_,rfl,M'⟩))
 ·refine Qx (Vp hw) (Ur (Q0 hi ?_));have c:∀m,j<=m->m<b.size->K a i<=K b m:=λm h1 h2=>U2 (WC.mp hw) (T.sb j m h1 h2);by_cases e:i+1+1=a.size
  ·exact Qu (Q7 e) (Uw ⟨rfl,.inl ⟨_,_,_,_,_,_,rfl,(M.mid.pushA hi c).lastA e T.cl⟩⟩)
  have M':=M.pushA hi c e hN;exact Qx (Zt e) (KO (Uw ⟨rfl,.inr ⟨_,_,_,_,_,rfl,M'⟩⟩) (Uw ⟨rfl,_,_,_,_,_,rfl,M'⟩))
theorem CU(T:Two a b)(al:Alike st st2)(M:Am a b r i j n)(c:∀m,j<=m->m<b.size->K a i<=K b m)(hN:N<=n+1):
  wpS (model prog w) A E s (Cs a b g k k2 i j r) (OR st a b N N) st2:=by
 have hi:=TX M.hi;unfold Cs;refine Ur (Q0 hi ?_);by_cases e:i+1+1=a.size
 ·exact Qu (Q7 e) (Uw ⟨al,.inl ⟨_,_,_,_,_,_,_,rfl,(M.mid.pushA hi c).lastA e T.cl⟩⟩)
 have M':=M.pushA hi c e hN;exact Qx (Zt e) (KO (Uw ⟨al,.inr ⟨_,_,_,_,_,_,rfl,M'⟩⟩) (Uw ⟨al,_,_,_,_,_,_,rfl,M'⟩))
theorem FT{P:Nat->Prop}{x m:Nat}(h:P (x+(m-x)))(l:x<=m):P m:=by rwa[Bj l]at h
theorem CV{k bc:Nat}(T:Two a b)(al:Alike st st2)(k2:kindOf st2=Rk.kd)(M:Am a b r i j n)(c:∀m,i<=m->m<a.size->K b j<=K a m)(hN:N<=n+1):
  wpS (model prog w) A E s (Cu a b g k bc i j r) (OR st a b N N) st2:=by
 have hi:=TX M.hi;have hj:=M.hj;unfold Cu;refine Ur (Q0 hj ?_);by_cases e:j+1=b.size
 ·exact Qu (Q7 e) (Uw ⟨al,.inl ⟨_,_,_,_,_,_,_,rfl,(M.mid.pushB hj c).endB e⟩⟩)
 have M2:Am a b (r.push b[j]) i (j+1) n:=M.pushB c e (Nat.le_succ n);have hj2:=M2.hj;refine Qx (Zt e) (Ur (Q0 hi (Ur ?_)));refine XX k2 (T.ka _ (U3 hi)) T.kb (WP (Bj (Rf hj2))) (Nat.sub_pos_of_lt hj2) (λx y h1 h2=>T.sb _ _ (TD h1 _) (Nat.add_lt_of_lt_sub' h2)) λy hy pk qk=>?_;rw[Yc hi]at pk qk;have R:∀m,j+1<=m->m<j+1+y->K b m<=K a i:=λm h1 h2=>TM (UC (FT (P:=λm=>decide (K b m<K a i)=true) (pk (m - (j+1)) (by omega)) h1));have R':∀m,j+1+y<=m->m<b.size->K a i<=K b m:=λm h1 h2=>WC.mp (T4 (FT (P:=λm=>decide (K b m<K a i)=false) (qk (m - (j+1)) (Nat.le_sub_of_add_le' h1) (Nat.sub_lt_sub_right (TB h1) h2)) (TB h1)));by_cases h0:y>0
 ·refine Qu h0 ?_;have hy':j+1+y<=b.size:=by omega
  have M3:=M2.mid.manyB (k:=y) hy' λm n h1 h2 h3 h4=>U2 (R m h1 h2) (T.sa i n h3 h4);by_cases e:j+1+y=b.size
  ·exact Qu (Q7 e) (Uw ⟨al,.inl ⟨_,_,_,_,_,_,_,rfl,M3.endB e⟩⟩)
  exact Qx (Zt e) (CU (n:=n) T al ⟨M3,M.hi,Bt hy' e,by rw[WJ];exact Uk M2.hn (U5 _ _)⟩ R' hN)
 ·have e0:y=0:=by omega
  subst e0;exact Qx h0 (CU T al M2 R' hN)
theorem Ng(T:Two a b)(hk:kindOf st=Rk.kd)(al0:Alike st st2)(M:Am a b r i j n)(hN:N<=n+1):
  wpS (model prog w) A E s (CT a b r i j ac bc g) (OR st a b N N) st2:=by
 have hi:=TX M.hi;have hj:=M.hj;unfold CT;refine Ur (Cv λst3 h3=>?_);have al:=h3 _ al0;have k2:=al.1.trans hk;refine Ur (Q0 hj (Ur ?_));refine XX k2 (T.kb _ (U3 hj)) T.ka (WP (Bj (Rf hi))) (Nat.sub_pos_of_lt hi) (λx y h1 h2=>T.sa _ _ (TD h1 _) (Nat.add_lt_of_lt_sub' h2)) λy hy pk qk=>?_;rw[Yc hj]at pk qk;have R:∀m,i<=m->m<i+y->K a m<=K b j:=λm h1 h2=>UC (FT (P:=λm=>decide (K a m<=K b j)=true) (pk (m-i) (Nat.sub_lt_left_of_lt_add h1 h2)) h1);have R':∀m,i+y<=m->m<a.size->K b j<=K a m:=λm h1 h2=>TM (Int.not_le.mp (T4 (FT (P:=λm=>decide (K a m<=K b j)=false) (qk (m-i) (Nat.le_sub_of_add_le' h1) (Nat.sub_lt_sub_right (TB h1) h2)) (TB h1))));by_cases h0:y>0
 ·refine Qu h0 ?_;have hy':i+y<=a.size:=by omega
  have M3:=M.mid.manyA (k:=y) hy' λm n h1 h2 h3 h4=>U2 (R m h1 h2) (T.sb j n h3 h4);by_cases e:i+y+1=a.size
  ·exact Qu (Q7 e) (Uw ⟨al,.inl ⟨_,_,_,_,_,_,_,rfl,M3.lastA e T.cl⟩⟩)
  refine Qx (Zt e) ?_;by_cases e2:i+y=a.size
  ·exact Qu (Q7 e2) (Uw ⟨al,.inl ⟨_,_,_,_,_,_,_,rfl,M3.endA e2⟩⟩)
  exact Qx (Zt e2) (CV (n:=n) T al k2 ⟨M3,Bt (Bt hy' e2) e,hj,by rw[WJ];exact Uk M.hn (U5 _ _)⟩ R' hN)
 ·have e0:y=0:=by omega
  subst e0;exact Qx h0 (CV T al k2 M R' hN)
theorem IC{ac bc:Nat}(T:Two a b)(hk:kindOf st=Rk.kd)(al:Alike st st2)(M:Am a b r i j n):
  wpS (model prog w) A E s (FR a b r i j ac bc g) (OS st a b n) st2:=by
 unfold FR;refine Ur (wpS_lift (TC ⟨rfl,?_⟩));refine Ur (Th (I:=λy c st'=>Alike st st'/\∃r i j g ac bc,c=(none,r,i,j,g,ac,bc)/\Am a b r i j (n+y)) ?s2 ?f2 ⟨al,r,i,j,_,ac,bc,rfl,M⟩);case f2 =>rintro c st' ⟨_,r,i,j,g,ac,bc,rfl,M⟩;exact(M.no (by omega)).elim
 case s2=>
  rintro y c st' _ hy ⟨al,r,i,j,g,ac,bc,rfl,M⟩;have fin:∀g,wpS (model prog w) A E s (CT a b r i j ac bc g) (λr st'=>match r with
    |.done c=>wpS (model prog w) A E s (match c.fst with
      |some o=>pure (ForInStep.done (some o,c.snd.fst,c.snd.snd.fst,c.snd.snd.snd.fst,c.snd.snd.snd.snd.fst))|none=>do
       GW (c.snd.snd.snd.snd.fst+1)
       pure (ForInStep.yield (none,c.snd.fst,c.snd.snd.fst,c.snd.snd.snd.fst,c.snd.snd.snd.snd.fst+1)):StateT SortSt Sem (ForInStep kN)) (OS st a b n) st'
    |.yield c=>Alike st st'/\∃r i j g ac bc,c=(none,r,i,j,g,ac,bc)/\Am a b r i j (n+(y+1))) st':=λg=>
   T0 (Ng (N:=n+(y+1)) T hk al M (Ug _)) λq st4 hq=>by
    cases q with
    |yield c=>exact hq|done c=>
     obtain⟨al4,(⟨out,r,i,j,g,ac,bc,rfl,R⟩|⟨r,i,j,g,ac,bc,rfl,M⟩)⟩:=hq
     ·exact Uw ⟨al4,_,_,_,_,_,rfl,R⟩
     ·exact Ur (Cv λst5 h5=>Uw ⟨h5 _ al4,_,_,_,_,rfl,M.mid,M.hi,M.hj,TB M.hn⟩)
  exact KO (T0 (fin _) λq _ h=>by cases q<;>exact h) (T0 (fin _) λq _ h=>by cases q<;>exact h)
theorem ID(T:Two a b)(hk:kindOf st=Rk.kd)(al:Alike st st2)(M:Am a b r i j n):
  wpS (model prog w) A E s (FS a b r i j g) (OS st a b (n+1)) st2:=by
 unfold FS;refine Ur (Th (I:=λy c st'=>st'=st2/\∃r i j ac bc,c=(none,r,i,j,ac,bc)/\Am a b r i j (n+y)) ?s1 ?f1 ⟨rfl,r,i,j,0,0,rfl,M⟩);case f1 =>rintro c st' ⟨_,r,i,j,ac,bc,rfl,M⟩;exact(M.no (by omega)).elim
 case s1=>
  rintro y c st' _ hy ⟨rfl,r,i,j,ac,bc,rfl,M⟩;refine T0 (OT (N:=n+(y+1)) T (al.1.trans hk) M (Ug _)) λq st4 hq=>?_;cases q with
  |yield c=>exact hq|done c=>
   obtain⟨rfl,(⟨out,r,i,j,ac,bc,rfl,R⟩|⟨r,i,j,ac,bc,rfl,M⟩)⟩:=hq
   ·exact Uw ⟨al,_,_,_,_,_,rfl,R⟩
   ·exact IC T hk al ⟨M.mid,M.hi,M.hj,Uk (TD (W7 (Tv y)) n) M.hn⟩
theorem dO{Q:Array Keyed->SortSt->Prop}(T:Two a b)(hk:kindOf st=Rk.kd)(na:0<a.size)(nb:0<b.size)(h:∀out st',Alike st st'->Fe out a b->Q out st'):wpS (model prog w) A E s (dJ a b) Q st:=by
 have M0:Mid a b #[] 0 0:=⟨⟨List.Perm.refl _,by simpa using srt_of T.sa,by simpa using srt_of T.sb⟩,Tv _,Tv _⟩;have M1:Mid a b #[b[0]] 0 1:=M0.pushB nb λm _ hm=>U2 T.c0 (T.sa 0 m (Tv _) hm);rw[dN];refine Ur (wpS_lift (TC ⟨rfl,Ur (Q0 nb ?_)⟩));by_cases e1:1=b.size
 ·exact Qu (Q7 e1) (Uw (h _ _ (.refl st) (M1.endB e1)))
 refine Qx (Zt e1) ?_;by_cases e2:0+1=a.size
 ·exact Qu (Q7 e2) (Uw (h _ _ (.refl st) (M1.lastA e2 T.cl)))
 refine Qx (Zt e2) (Ur (BD ?_));unfold aX;refine Ur (Th (I:=λx c st'=>Alike st st'/\∃r i j g,c=(none,r,i,j,g)/\Am a b r i j (x+1)) ?step ?fin ⟨.refl st,_,0,1,_,rfl,M1,by omega,by omega,Ug 1⟩);case fin =>rintro c st' ⟨_,r,i,j,g,rfl,M⟩;exact(M.no (by omega)).elim
 case step=>
  rintro x c st' _ hx ⟨al,r,i,j,g,rfl,M⟩;refine T0 (ID T hk al M) λq st4 hq=>?_;cases q with
  |yield c=>exact hq|done c =>obtain⟨al4,out,r,i,j,g,rfl,R⟩:=hq;exact Uw (h out _ al4 R)
end
structure JH(o p q t:List Keyed):Prop where
 perm:(p++q++o).Perm t
 sp:dM (p++o)
 sq:dM (q++o)
theorem JH.swap(h:JH o p q t):JH o q p t:=⟨(WG o WU).trans h.perm,h.sq,h.sp⟩
theorem JH.take(h:JH o (p++x) q t)(c:∀u∈q,∀v∈x,nk u<=nk v):JH (x++o) p q t:=by
 refine⟨?_,by rw[<-UE];exact h.sp,?_⟩
 ·refine List.Perm.trans ?_ h.perm;rw[UE p,UE p,UE p];refine WT p ?_;rw[<-UE,UE x,<-UE];exact WG o WU
 have h1:=h.sp;rw[UE]at h1;have h2:=Rc.mp h.sq;refine Rc.mpr ⟨h2.1,(Rc.mp h1).2.1,λu hu v hv=>?_⟩;rcases Ut.mp hv with hv|hv
 ·exact c u hu v hv
 ·exact h2.2.2 u hu v hv
theorem VJ(a:Array Keyed)(i:Nat):(a.extract 0 i).toList=a.toList.take i:=by rw[Wg,Rx,List.drop_zero,Nat.sub_zero]
theorem Xg(a:Array Keyed)(k i:Nat):(a.extract k i).toList=(a.toList.drop k).take (i-k):=by rw[Wg,Rx]
theorem FU(h:y∈a.toList.take i):∃m,m<i/\m<a.size/\nk y=K a m:=by obtain⟨m,hm,e⟩:=RN h;rw[Ti,Uo]at hm;rw[List.getElem_take,TQ]at e;exact⟨m,by omega,by omega,by rw[<-e,Yc]⟩
theorem CW{l:List Keyed}{k i:Nat}(h:k<=i):l.take i=l.take k++(l.drop k).take (i-k):=by rw[<-List.take_add,show k+(i-k)=i by omega]
theorem LI{a:Array Keyed}{i:Nat}(h:i<a.size):a.toList.take (i+1)=a.toList.take i++[a[i]]:=by rw[UZ (by rw[Uo];exact h),TQ]
structure MidH(a b r:Array Keyed)(i j:Nat):Prop where
 jl:JH r.toList.reverse (a.toList.take i) (b.toList.take j) (a.toList++b.toList)
 hi:i<=a.size
 hj:j<=b.size
theorem MidH.size(M:MidH a b r i j):r.size+i+j=a.size+b.size:=by have:=M.jl.perm.length_eq;simp only[Uq,Ti,Uo,Bk]at this;have:=M.hi;have:=M.hj;omega
theorem MidH.pushA{a b r:Array Keyed}{i j:Nat}(M:MidH a b r (i+1) j)(h:i<a.size)(c:∀m,m<j->m<b.size->K b m<=K a i):MidH a b (r.push a[i]) i j:=by refine⟨?_,Rf h,M.hj⟩;rw[We,Ro,B6];refine JH.take (by have:=M.jl;rw[LI h]at this;exact this) λu hu v hv=>?_;obtain⟨m,h1,h2,e⟩:=FU hu;rw[Ui.mp hv,Yc h,e];exact c m h1 h2
theorem MidH.pushB{a b r:Array Keyed}{i j:Nat}(M:MidH a b r i (j+1))(h:j<b.size)(c:∀m,m<i->m<a.size->K a m<=K b j):MidH a b (r.push b[j]) i j:=by refine⟨?_,M.hi,Rf h⟩;rw[We,Ro,B6];refine(JH.take (by have:=M.jl.swap;rw[LI h]at this;exact this) λu hu v hv=>?_).swap;obtain⟨m,h1,h2,e⟩:=FU hu;rw[Ui.mp hv,Yc h,e];exact c m h1 h2
theorem MidH.manyA{a b r:Array Keyed}{i j k:Nat}(M:MidH a b r i j)(h:k<=i)(c:∀m n,k<=m->m<i->n<j->n<b.size->K b n<=K a m):MidH a b (r++(a.extract k i).reverse) k j:=by refine⟨?_,Uk h M.hi,M.hj⟩;rw[U1,Wh,Ro,List.reverse_reverse,Xg];refine JH.take (by have:=M.jl;rw[CW h]at this;exact this) λu hu v hv=>?_;obtain⟨n,h4,h5,e2⟩:=FU hu;obtain⟨m,h1,h2,h3,e⟩:=JV hv;rw[e,e2];exact c m n h1 (by omega) h4 h5
theorem MidH.manyB{a b r:Array Keyed}{i j k:Nat}(M:MidH a b r i j)(h:k<=j)(c:∀m n,k<=m->m<j->n<i->n<a.size->K a n<=K b m):MidH a b (r++(b.extract k j).reverse) i k:=by refine⟨?_,M.hi,Uk h M.hj⟩;rw[U1,Wh,Ro,List.reverse_reverse,Xg];refine(JH.take (by have:=M.jl.swap;rw[CW h]at this;exact this) λu hu v hv=>?_).swap;obtain⟨n,h4,h5,e2⟩:=FU hu;obtain⟨m,h1,h2,h3,e⟩:=JV hv;rw[e,e2];exact c m n h1 (by omega) h4 h5
theorem MidH.endA(M:MidH a b r i j)(h:i=0):Fe (a.extract 0 i++b.extract 0 j++r.reverse) a b:=by subst h;have p:=M.jl.perm;rw[By,RC]at p;rw[Fe,U1,U1,VJ,VJ,By,RC,Wh];exact⟨p,M.jl.sq⟩
theorem MidH.endB(M:MidH a b r i j)(h:j=0):Fe (a.extract 0 i++b.extract 0 j++r.reverse) a b:=by subst h;have p:=M.jl.perm;rw[By,U6]at p;rw[Fe,U1,U1,VJ,VJ,By,U6,Wh];exact⟨p,M.jl.sp⟩
theorem MidH.firstB(M:MidH a b r i j)(h:j=1)(sa:JU a a.size)(c:K b 0<=K a 0):Fe (b.extract 0 j++a.extract 0 i++r.reverse) a b:=by
 subst h;have N:=M.manyA (k:=0) (Tv _) λm n _ h2 h3 _=>by rw[show n=0 by omega];exact U2 c (sa 0 m (by omega) (by have:=M.hi;omega))
 have:=N.endA rfl;rw[Array.reverse_append,Array.reverse_reverse,<-Array.append_assoc]at this;rw[show a.extract 0 0 = #[] by simp,Array.empty_append]at this;exact this
noncomputable abbrev qP:=Option (Array Keyed)×Nat×Nat×Array Keyed×Nat×Nat
noncomputable abbrev kT:=Option (Array Keyed)×Nat×Nat×Array Keyed×Nat
noncomputable abbrev kU:=Option (Array Keyed)×Nat×Nat×Array Keyed×Nat×Nat×Nat
noncomputable def OU(a b:Array Keyed)(g i j:Nat)(r:Array Keyed)(ac bc:Nat):StateT SortSt Sem (ForInStep qP):=do
 let z <-lt' (<-elem' b (j-1)) (<-elem' a (i-1))
 match z with
 |some y=>
  if y=true then do
   let r:=r.push (<-elem' a (i-1))
   if (i-1==0)=true then pure (ForInStep.done (some (a.extract 0 (i-1)++b.extract 0 j++r.reverse),i-1,j,r,ac+1,0))
   else if ac+1>=g then pure (ForInStep.done (none,i-1,j,r,ac+1,0)) else pure (ForInStep.yield (none,i-1,j,r,ac+1,0))
  else do
   let r:=r.push (<-elem' b (j-1))
   if (j-1==1)=true then pure (ForInStep.done (some (b.extract 0 (j-1)++a.extract 0 i++r.reverse),i,j-1,r,0,bc+1))
   else if bc+1>=g then pure (ForInStep.done (none,i,j-1,r,0,bc+1)) else pure (ForInStep.yield (none,i,j-1,r,0,bc+1))
 |_=>pure (ForInStep.done (some (a.extract 0 i++b.extract 0 j++r.reverse),i,j,r,ac,bc))
noncomputable def Cw(a b:Array Keyed)(g k k2 i j:Nat)(r:Array Keyed):StateT SortSt Sem (ForInStep kU):=do
 let r:=r.push (<-elem' a (i-1))
 if (i-1==0)=true then pure (ForInStep.done (some (a.extract 0 (i-1)++b.extract 0 j++r.reverse),i-1,j,r,g,k,k2))
 else if (decide (k<7)&&decide (k2<7))=true then pure (ForInStep.done (none,i-1,j,r,g,k,k2))
 else pure (ForInStep.yield (none,i-1,j,r,g,k,k2))
noncomputable def Cy(a b:Array Keyed)(g k bc i j:Nat)(r:Array Keyed):StateT SortSt Sem (ForInStep kU):=do
 let r:=r.push (<-elem' b (j-1))
 if (j-1==1)=true then pure (ForInStep.done (some (b.extract 0 (j-1)++a.extract 0 i++r.reverse),i,j-1,r,g,k,bc)) else do
  let z <-FQ true (<-elem' a (i-1)) b 0 (j-1) (j-1-1)
  match z with
  |some y=>
   if j-1-y>0 then
    if (y==1)=true then pure (ForInStep.done (some (b.extract 0 y++a.extract 0 i++(r++(b.extract y (j-1)).reverse).reverse),i,y,r++(b.extract y (j-1)).reverse,g,k,j-1-y))
    else if (y==0)=true then pure (ForInStep.done (some (a.extract 0 i++b.extract 0 y++(r++(b.extract y (j-1)).reverse).reverse),i,y,r++(b.extract y (j-1)).reverse,g,k,j-1-y))
    else Cw a b g k (j-1-y) i y (r++(b.extract y (j-1)).reverse)
   else Cw a b g k (j-1-y) i (j-1) r
  |_=>pure (ForInStep.done (some (a.extract 0 i++b.extract 0 (j-1)++r.reverse),i,j-1,r,g,k,bc))
noncomputable def CY(a b:Array Keyed)(i j:Nat)(r:Array Keyed)(ac bc g:Nat):StateT SortSt Sem (ForInStep kU):=do
 GW g
 let z <-FQ false (<-elem' b (j-1)) a 0 i (i-1)
 match z with
 |some y=>
  if i-y>0 then
   if (y==0)=true then pure (ForInStep.done (some (a.extract 0 y++b.extract 0 j++(r++(a.extract y i).reverse).reverse),y,j,r++(a.extract y i).reverse,g,i-y,bc))
   else Cy a b g (i-y) bc y j (r++(a.extract y i).reverse)
  else Cy a b g (i-y) bc i j r
 |_=>pure (ForInStep.done (some (a.extract 0 i++b.extract 0 j++r.reverse),i,j,r,g,ac,bc))
noncomputable def FV(a b:Array Keyed)(i j:Nat)(r:Array Keyed)(ac bc g:Nat):StateT SortSt Sem (ForInStep kT):=do
 liftM (rule "list.sort.gallop")
 let c <-forIn [0:a.size+b.size] ((none,i,j,r,g+1,ac,bc):kU) λ_ c=>
  if c.snd.snd.snd.snd.fst>1 then CY a b c.snd.fst c.snd.snd.fst c.snd.snd.snd.fst c.snd.snd.snd.snd.snd.fst c.snd.snd.snd.snd.snd.snd (c.snd.snd.snd.snd.fst-1)
  else CY a b c.snd.fst c.snd.snd.fst c.snd.snd.snd.fst c.snd.snd.snd.snd.snd.fst c.snd.snd.snd.snd.snd.snd c.snd.snd.snd.snd.fst
 match c.fst with
 |some o=>pure (ForInStep.done (some o,c.snd.fst,c.snd.snd.fst,c.snd.snd.snd.fst,c.snd.snd.snd.snd.fst))|none=>do
  GW (c.snd.snd.snd.snd.fst+1)
  pure (ForInStep.yield (none,c.snd.fst,c.snd.snd.fst,c.snd.snd.snd.fst,c.snd.snd.snd.snd.fst+1))
noncomputable def FW(a b:Array Keyed)(i j:Nat)(r:Array Keyed)(g:Nat):StateT SortSt Sem (ForInStep kT):=do
 let c <-forIn [0:a.size+b.size] ((none,i,j,r,0,0):qP) λ_ c=>OU a b g c.snd.fst c.snd.snd.fst c.snd.snd.snd.fst c.snd.snd.snd.snd.fst c.snd.snd.snd.snd.snd
 match c.fst with
 |some o=>pure (ForInStep.done (some o,c.snd.fst,c.snd.snd.fst,c.snd.snd.snd.fst,g))|none=>FV a b c.snd.fst c.snd.snd.fst c.snd.snd.snd.fst c.snd.snd.snd.snd.fst c.snd.snd.snd.snd.snd g
noncomputable def aY(a b r:Array Keyed)(g:Nat):StateT SortSt Sem (Array Keyed):=do
 let c <-forIn [0:a.size+b.size] ((none,a.size-1,b.size,r,g):kT) λ_ c=>FW a b c.snd.fst c.snd.snd.fst c.snd.snd.snd.fst c.snd.snd.snd.snd
 match c.fst with
 |some o=>pure o|none=>liftM (unsupported "internal:list.sort.merge-bound")
theorem dP(a b:Array Keyed):dL a b=(do
 liftM (rule "list.sort.merge-hi")
 let x <-elem' a (a.size-1)
 if (a.size-1==0)=true then pure (a.extract 0 (a.size-1)++b.extract 0 b.size++(#[x]:Array Keyed).reverse)
 else if (b.size==1)=true then pure (b.extract 0 b.size++a.extract 0 (a.size-1)++(#[x]:Array Keyed).reverse)
 else do
  let t <-get
  aY a b #[x] (gallopOf t)):=by
 kernel_rfl
theorem MidH.popA(M:MidH a b r i j)(h0:0<i)(h:i-1<a.size)(c:∀m,m<j->m<b.size->K b m<=K a (i-1)):MidH a b (r.push a[i-1]) (i-1) j:=by obtain⟨n,rfl⟩:∃n,i=n+1:=⟨i-1,(BS h0).symm⟩;exact M.pushA h c
theorem MidH.popB(M:MidH a b r i j)(h0:0<j)(h:j-1<b.size)(c:∀m,m<i->m<a.size->K a m<=K b (j-1)):MidH a b (r.push b[j-1]) i (j-1):=by obtain⟨n,rfl⟩:∃n,j=n+1:=⟨j-1,(BS h0).symm⟩;exact M.pushB h c
structure AmH(a b r:Array Keyed)(i j n:Nat):Prop where
 mid:MidH a b r i j
 hi:0<i
 hj:1<j
 hn:n<=r.size
noncomputable def tJ(st:SortSt)(a b:Array Keyed)(n N:Nat):ForInStep qP->SortSt->Prop
 |.done c,st'=>st'=st/\((∃out i j r ac bc,c=(some out,i,j,r,ac,bc)/\Fe out a b)\/∃i j r ac bc,c=(none,i,j,r,ac,bc)/\AmH a b r i j n)|.yield c,st'=>st'=st/\∃i j r ac bc,c=(none,i,j,r,ac,bc)/\AmH a b r i j N
noncomputable def qQ(st:SortSt)(a b:Array Keyed)(n N:Nat):ForInStep kU->SortSt->Prop
 |.done c,st'=>Alike st st'/\((∃out i j r g ac bc,c=(some out,i,j,r,g,ac,bc)/\Fe out a b)\/∃i j r g ac bc,c=(none,i,j,r,g,ac,bc)/\AmH a b r i j n)|.yield c,st'=>Alike st st'/\∃i j r g ac bc,c=(none,i,j,r,g,ac,bc)/\AmH a b r i j N
noncomputable def qR(st:SortSt)(a b:Array Keyed)(N:Nat):ForInStep kT->SortSt->Prop
 |.done c,st'=>Alike st st'/\∃out i j r g,c=(some out,i,j,r,g)/\Fe out a b|.yield c,st'=>Alike st st'/\∃i j r g,c=(none,i,j,r,g)/\AmH a b r i j N
section
variable{prog:Program}{w:World}{A:Around}{E:VP}{s:Shared}[Cmp prog w A s]
variable{st st2:SortSt}{a b r:Array Keyed}{i j n N g:Nat}
theorem AmH.no(M:AmH a b r i j n)(h:a.size+b.size<=n):False:=by have:=M.mid.size;have:=M.hi;have:=M.hn;omega
theorem AmH.ia(M:AmH a b r i j n):i-1<a.size:=UA (Wf M.hi) M.mid.hi
theorem AmH.jb(M:AmH a b r i j n):j-1<b.size:=UA (Wf M.hj) M.mid.hj
theorem AmH.popA(M:AmH a b r i j n)(c:∀m,m<j->m<b.size->K b m<=K a (i-1))(e:¬i-1=0)(hN:N<=n+1):AmH a b (r.push (a[i-1]'M.ia)) (i-1) j N:=⟨M.mid.popA M.hi M.ia c,Bu e,M.hj,by rw[Bf];exact Uk hN (W7 M.hn)⟩
theorem AmH.popB(M:AmH a b r i j n)(c:∀m,m<i->m<a.size->K a m<=K b (j-1))(e:¬j-1=1)(hN:N<=n+1):AmH a b (r.push (b[j-1]'M.jb)) i (j-1) N:=⟨M.mid.popB (TX M.hj) M.jb c,M.hi,by have:=M.hj;omega,by rw[Bf];exact Uk hN (W7 M.hn)⟩
theorem OW(T:Two a b)(hk:kindOf st=Rk.kd)(M:AmH a b r i j n)(hN:N<=n+1):
  wpS (model prog w) A E s (OU a b g i j r ac bc) (tJ st a b N N) st:=by
 have hi:=M.ia;have hj:=M.jb;unfold OU;refine Ur (Q0 hj (Ur (Q0 hi (Ur (GV hk (T.kb _ (U3 hj)) (T.ka _ (U3 hi)) ?_)))));rw[Yc hj,Yc hi];by_cases hw:K b (j-1)<K a (i-1)
 ·refine Qu (Us hw) (Ur (Q0 hi ?_));have c:∀m,m<j->m<b.size->K b m<=K a (i-1):=λm h1 _=>U2 (T.sb m (j-1) (WK h1) hj) (TM hw);by_cases e:i-1=0
  ·exact Qu (Q7 e) (Uw ⟨rfl,.inl ⟨_,_,_,_,_,_,rfl,(M.mid.popA M.hi hi c).endA e⟩⟩)
  have M':=M.popA c e hN;exact Qx (Zt e) (KO (Uw ⟨rfl,.inr ⟨_,_,_,_,_,rfl,M'⟩⟩) (Uw ⟨rfl,_,_,_,_,_,rfl,M'⟩))
 ·refine Qx (Vp hw) (Ur (Q0 hj ?_));have c:∀m,m<i->m<a.size->K a m<=K b (j-1):=λm h1 _=>U2 (T.sa m (i-1) (WK h1) hi) (WC.mp hw);by_cases e:j-1=1
  ·exact Qu (Q7 e) (Uw ⟨rfl,.inl ⟨_,_,_,_,_,_,rfl,(M.mid.popB (TX M.hj) hj c).firstB e T.sa T.c0⟩⟩)
  have M':=M.popB c e hN;exact Qx (Zt e) (KO (Uw ⟨rfl,.inr ⟨_,_,_,_,_,rfl,M'⟩⟩) (Uw ⟨rfl,_,_,_,_,_,rfl,M'⟩))
theorem CZ(al:Alike st st2)(M:AmH a b r i j n)(c:∀m,m<j->m<b.size->K b m<=K a (i-1))(hN:N<=n+1):
  wpS (model prog w) A E s (Cw a b g k k2 i j r) (qQ st a b N N) st2:=by
 unfold Cw;refine Ur (Q0 M.ia ?_);by_cases e:i-1=0
 ·exact Qu (Q7 e) (Uw ⟨al,.inl ⟨_,_,_,_,_,_,_,rfl,(M.mid.popA M.hi M.ia c).endA e⟩⟩)
 have M':=M.popA c e hN;exact Qx (Zt e) (KO (Uw ⟨al,.inr ⟨_,_,_,_,_,_,rfl,M'⟩⟩) (Uw ⟨al,_,_,_,_,_,_,rfl,M'⟩))
theorem aZ(h:n<=r.size):n<=(r++x).size:=by rw[WJ];exact Uk h (U5 _ _)
theorem C5(T:Two a b)(al:Alike st st2)(k2:kindOf st2=Rk.kd)(M:AmH a b r i j n)(c:∀m,m<i->m<a.size->K a m<=K b (j-1))(hN:N<=n+1):
  wpS (model prog w) A E s (Cy a b g k bc i j r) (qQ st a b N N) st2:=by
 have hi:=M.ia;have hj:=M.jb;unfold Cy;refine Ur (Q0 hj ?_);by_cases e:j-1=1
 ·exact Qu (Q7 e) (Uw ⟨al,.inl ⟨_,_,_,_,_,_,_,rfl,(M.mid.popB (TX M.hj) hj c).firstB e T.sa T.c0⟩⟩)
 have M2:AmH a b (r.push b[j-1]) i (j-1) n:=M.popB c e (Nat.le_succ n);refine Qx (Zt e) (Ur (Q0 hi (Ur ?_)));refine XX k2 (T.ka _ (U3 hi)) T.kb (by rw[WQ];exact Rf hj) (Wf (TX M2.hj)) (λx y h1 h2=>T.sb _ _ (TD h1 _) (by rw[WQ];exact Nat.lt_trans h2 hj)) λy hy pk qk=>?_;rw[Yc hi]at pk qk;simp only[WQ]at pk qk;have R:∀m,m<y->K b m<=K a (i-1):=λm h=>TM (UC (pk m h));have R':∀m,y<=m->m<j-1->K a (i-1)<=K b m:=λm h1 h2=>WC.mp (T4 (qk m h1 h2));by_cases h0:j-1-y>0
 ·refine Qu h0 ?_;have M3:=M2.mid.manyB (k:=y) hy λm n h1 h2 h3 h4=>U2 (T.sa n (i-1) (WK h3) hi) (R' m h1 h2);by_cases e:y=1
  ·exact Qu (Q7 e) (Uw ⟨al,.inl ⟨_,_,_,_,_,_,_,rfl,M3.firstB e T.sa T.c0⟩⟩)
  refine Qx (Zt e) ?_;by_cases e2:y=0
  ·exact Qu (Q7 e2) (Uw ⟨al,.inl ⟨_,_,_,_,_,_,_,rfl,M3.endB e2⟩⟩)
  exact Qx (Zt e2) (CZ (n:=n) al ⟨M3,M.hi,by omega,aZ M2.hn⟩ (λm h _=>R m h) hN)
 ·exact Qx h0 (CZ al M2 (λm h _=>R m (UA h (by omega))) hN)
theorem Nh(T:Two a b)(hk:kindOf st=Rk.kd)(al0:Alike st st2)(M:AmH a b r i j n)(hN:N<=n+1):
  wpS (model prog w) A E s (CY a b i j r ac bc g) (qQ st a b N N) st2:=by
 have hj:=M.jb;unfold CY;refine Ur (Cv λst3 h3=>?_);have al:=h3 _ al0;have k2:=al.1.trans hk;refine Ur (Q0 hj (Ur ?_));refine XX k2 (T.kb _ (U3 hj)) T.ka (by rw[WQ];exact M.mid.hi) (Wf M.hi) (λx y h1 h2=>T.sa _ _ (TD h1 _) (by rw[WQ];exact UA h2 M.mid.hi)) λy hy pk qk=>?_;rw[Yc hj]at pk qk;simp only[WQ]at pk qk;have R:∀m,m<y->K a m<=K b (j-1):=λm h=>UC (pk m h);have R':∀m,y<=m->m<i->K b (j-1)<=K a m:=λm h1 h2=>TM (Int.not_le.mp (T4 (qk m h1 h2)));by_cases h0:i-y>0
 ·refine Qu h0 ?_;have M3:=M.mid.manyA (k:=y) hy λm n h1 h2 h3 h4=>U2 (T.sb n (j-1) (WK h3) hj) (R' m h1 h2);by_cases e2:y=0
  ·exact Qu (Q7 e2) (Uw ⟨al,.inl ⟨_,_,_,_,_,_,_,rfl,M3.endA e2⟩⟩)
  exact Qx (Zt e2) (C5 (n:=n) T al k2 ⟨M3,Bu e2,M.hj,aZ M.hn⟩ (λm h _=>R m h) hN)
 ·exact Qx h0 (C5 T al k2 M (λm h _=>R m (UA h (by omega))) hN)
theorem IE(T:Two a b)(hk:kindOf st=Rk.kd)(al:Alike st st2)(M:AmH a b r i j n):
  wpS (model prog w) A E s (FV a b i j r ac bc g) (qR st a b n) st2:=by
 unfold FV;refine Ur (wpS_lift (TC ⟨rfl,?_⟩));refine Ur (Th (I:=λy c st'=>Alike st st'/\∃i j r g ac bc,c=(none,i,j,r,g,ac,bc)/\AmH a b r i j (n+y)) ?s2 ?f2 ⟨al,i,j,r,_,ac,bc,rfl,M⟩);case f2 =>rintro c st' ⟨_,i,j,r,g,ac,bc,rfl,M⟩;exact(M.no (by omega)).elim
 case s2=>
  rintro y c st' _ hy ⟨al,i,j,r,g,ac,bc,rfl,M⟩;have fin:∀g,wpS (model prog w) A E s (CY a b i j r ac bc g) (λr st'=>match r with
    |.done c=>wpS (model prog w) A E s (match c.fst with
      |some o=>pure (ForInStep.done (some o,c.snd.fst,c.snd.snd.fst,c.snd.snd.snd.fst,c.snd.snd.snd.snd.fst))|none=>do
       GW (c.snd.snd.snd.snd.fst+1)
       pure (ForInStep.yield (none,c.snd.fst,c.snd.snd.fst,c.snd.snd.snd.fst,c.snd.snd.snd.snd.fst+1)):StateT SortSt Sem (ForInStep kT)) (qR st a b n) st'
    |.yield c=>Alike st st'/\∃i j r g ac bc,c=(none,i,j,r,g,ac,bc)/\AmH a b r i j (n+(y+1))) st':=λg=>
   T0 (Nh (N:=n+(y+1)) T hk al M (Ug _)) λq st4 hq=>by
    cases q with
    |yield c=>exact hq|done c=>
     obtain⟨al4,(⟨out,i,j,r,g,ac,bc,rfl,R⟩|⟨i,j,r,g,ac,bc,rfl,M⟩)⟩:=hq
     ·exact Uw ⟨al4,_,_,_,_,_,rfl,R⟩
     ·exact Ur (Cv λst5 h5=>Uw ⟨h5 _ al4,_,_,_,_,rfl,M.mid,M.hi,M.hj,TB M.hn⟩)
  exact KO (T0 (fin _) λq _ h=>by cases q<;>exact h) (T0 (fin _) λq _ h=>by cases q<;>exact h)
theorem IF(T:Two a b)(hk:kindOf st=Rk.kd)(al:Alike st st2)(M:AmH a b r i j n):
  wpS (model prog w) A E s (FW a b i j r g) (qR st a b (n+1)) st2:=by
 unfold FW;refine Ur (Th (I:=λy c st'=>st'=st2/\∃i j r ac bc,c=(none,i,j,r,ac,bc)/\AmH a b r i j (n+y)) ?s1 ?f1 ⟨rfl,i,j,r,0,0,rfl,M⟩);case f1 =>rintro c st' ⟨_,i,j,r,ac,bc,rfl,M⟩;exact(M.no (by omega)).elim
 case s1=>
  rintro y c st' _ hy ⟨rfl,i,j,r,ac,bc,rfl,M⟩;refine T0 (OW (N:=n+(y+1)) T (al.1.trans hk) M (Ug _)) λq st4 hq=>?_;cases q with
  |yield c=>exact hq|done c=>
   obtain⟨rfl,(⟨out,i,j,r,ac,bc,rfl,R⟩|⟨i,j,r,ac,bc,rfl,M⟩)⟩:=hq
   ·exact Uw ⟨al,_,_,_,_,_,rfl,R⟩
   ·exact IE T hk al ⟨M.mid,M.hi,M.hj,Uk (TD (W7 (Tv y)) n) M.hn⟩
theorem dQ{Q:Array Keyed->SortSt->Prop}(T:Two a b)(hk:kindOf st=Rk.kd)(na:0<a.size)(nb:0<b.size)(h:∀out st',Alike st st'->Fe out a b->Q out st'):wpS (model prog w) A E s (dL a b) Q st:=by
 have e:∀x:Array Keyed,x.toList.take x.size=x.toList:=λx=>Rq (by rw[Uo];exact Ug _);have M0:MidH a b #[] a.size b.size:=by
  refine⟨⟨?_,?_,?_⟩,Ug _,Ug _⟩
  ·rw[e,e];simp
  ·rw[e];simpa using srt_of T.sa
  ·rw[e];simpa using srt_of T.sb
 have ha1:a.size-1<a.size:=Wf na;have M1:MidH a b #[a[a.size-1]] (a.size-1) b.size:=M0.popA na ha1 λm _ hm=>T.cl m hm;rw[dP];refine Ur (wpS_lift (TC ⟨rfl,Ur (Q0 ha1 ?_)⟩));by_cases e1:a.size-1=0
 ·exact Qu (Q7 e1) (Uw (h _ _ (.refl st) (M1.endA e1)))
 refine Qx (Zt e1) ?_;by_cases e2:b.size=1
 ·exact Qu (Q7 e2) (Uw (h _ _ (.refl st) (M1.firstB e2 T.sa T.c0)))
 refine Qx (Zt e2) (Ur (BD ?_));unfold aY;refine Ur (Th (I:=λx c st'=>Alike st st'/\∃i j r g,c=(none,i,j,r,g)/\AmH a b r i j (x+1)) ?step ?fin ⟨.refl st,_,_,_,_,rfl,M1,Bu e1,by omega,Ug 1⟩);case fin =>rintro c st' ⟨_,i,j,r,g,rfl,M⟩;exact(M.no (by omega)).elim
 case step=>
  rintro x c st' _ hx ⟨al,i,j,r,g,rfl,M⟩;refine T0 (IF T hk al M) λq st4 hq=>?_;cases q with
  |yield c=>exact hq|done c =>obtain⟨al4,out,i,j,r,g,rfl,R⟩:=hq;exact Uw (h out _ al4 R)
end
noncomputable def OX(xs:Array Keyed)(p:Nat)(l:List Keyed)(n:Nat):Array Keyed:=(l.zipIdx n).foldl (λy (v,k)=>y.setIfInBounds (p+k) v) xs
theorem dR(i:Nat):mergeAt' i=(do
 let z <-get
 let (some (u,m,pw),some (v,n,_)):=((pendingOf z)[i]?,(pendingOf z)[i+1]?)|unsupported "internal:list.sort.pending"
 set (setPending z (((pendingOf z).setIfInBounds i (u,m+n,pw)).eraseIdxIfInBounds (i+1)))
 let some k <-FQ false (<-elem' (arrOf z) v) (arrOf z) u m 0|return false
 if m-k==0 then return true
 let some n <-FQ true (<-elem' (arrOf z) (u+k+(m-k) - 1)) (arrOf z) v n (n-1)|return false
 if n==0 then return true
 let out <-if m-k<=n then dJ ((arrOf z).extract (u+k) v) ((arrOf z).extract v (v+n)) else dL ((arrOf z).extract (u+k) v) ((arrOf z).extract v (v+n))
 modify λz=>setArr z (OX (arrOf z) (u+k) out.toList 0)
 return (failedOf (<-get)).isNone):=by rfl
theorem GX(p:Nat):∀(l:List Keyed)(n:Nat)(xs:Array Keyed),p+n+l.length<=xs.size->(OX xs p l n).toList=xs.toList.take (p+n)++(l++xs.toList.drop (p+n+l.length))
 |[],n,xs,_=>by show xs.toList=_;rw[Wt,Nat.add_zero,RC,TJ]
 |v::l,n,xs,h=>by
  rw[UJ]at h ⊢;have ih:=GX p l (n+1) (xs.setIfInBounds (p+n) v) (by rw[Array.size_setIfInBounds];omega);have e:OX xs p (v::l) n=OX (xs.setIfInBounds (p+n) v) p l (n+1):=rfl;rw[e,ih,Bp];have hl:p+n<xs.toList.length:=by rw[Uo];omega
  rw[show p+(n+1)=p+n+1 by omega,UZ (by rw[UQ];exact hl),List.getElem_set_self,List.take_set_of_le (Ug _),List.drop_set_of_lt (by omega),UE,show p+n+1+l.length=p+n+(l.length+1) by omega]
  rfl
noncomputable def Kl(l:List Keyed)(i:Nat):Int:=match l[i]? with
 |some p=>nk p|none=>0
theorem qS(xs:Array Keyed)(i:Nat):K xs i=Kl xs.toList i:=by unfold K Kl;rw[Tr];try (cases xs[i]? <;> rfl)
theorem dS(h:i<l.length):∃x∈l,Kl l i=nk x:=⟨l[i],Tk h,by unfold Kl;rw[UK h]⟩
theorem dU(h:dM l)(hij:i<=j)(hj:j<l.length):Kl l i<=Kl l j:=by
 unfold Kl;rw[UK hj,UK (Nat.lt_of_le_of_lt hij hj)];by_cases e:i=j
 ·subst e;exact Tw _
 ·exact Ry.mp h i j _ hj (by omega)
def KP(xs:Array Keyed)(lo hi:Nat):Prop:=∀i j,lo<=i->i<=j->j<hi->K xs i<=K xs j
theorem dW{xs out:Array Keyed}{u p q v e:Nat}(hup:u<=p)(hpv:p<v)(hvq:v<=q)(hqe:q<=e)(he:e<=xs.size)(s1:KP xs u v)(s2:KP xs v e)(c1:∀m,u<=m->m<p->K xs m<=K xs v)(c2:∀m,q<=m->m<e->K xs (v-1)<=K xs m)(hm:Fe out (xs.extract p v) (xs.extract v q)):
  (OX xs p out.toList 0).toList.Perm xs.toList/\KP (OX xs p out.toList 0) u e/\∀m,m<p\/q<=m->K (OX xs p out.toList 0) m=K xs m:=by
 have hlen:out.toList.length=q-p:=by have:=hm.1.length_eq;rw[Uq,Xg,Xg,Ti,Ti,Rs,Rs,Uo (xs:=xs)]at this;omega
 have hL:=GX p out.toList 0 xs (by omega);rw[Nat.add_zero,hlen,show p+(q-p)=q by omega]at hL;have hxy:xs.toList=xs.toList.take p++((xs.extract p v).toList++(xs.extract v q).toList++xs.toList.drop q):=by
  rw[Xg,Xg]
  conv=>lhs;rw[<-TJ p xs.toList]
  congr 1
  conv=>lhs;rw[<-TJ (q-p) (xs.toList.drop p),Bx,show p+(q-p)=q by omega]
  congr 1;rw[show q-p=(v-p)+(q-v) by omega,List.take_add,Bx,show p+(v-p)=v by omega]
 have ltp:(xs.toList.take p).length=p:=by rw[Ti,Uo];omega
 -- the cells
 have kIn:∀m,p<=m->m<q->K (OX xs p out.toList 0) m=Kl out.toList (m-p):=λm h1 h2=>by rw[qS,hL];unfold Kl;rw[UD (by omega),ltp,Ul (by omega)]
 have kOut:∀m,m<p\/q<=m->K (OX xs p out.toList 0) m=K xs m:=λm h=>by
  rw[qS,hL,qS];unfold Kl;rcases h with h|h
  ·rw[Ul (by omega),BN h]
  ·rw[UD (by omega),ltp,UD (by omega),hlen,List.getElem?_drop,show q+(m-p - (q-p))=m by omega]
 have kMem:∀m,p<=m->m<q->∃n,p<=n/\n<q/\K (OX xs p out.toList 0) m=K xs n:=λm h1 h2=>by
  rw[kIn m h1 h2];obtain⟨x,hx,e⟩:=dS (l:=out.toList) (i:=m-p) (by omega);rcases Ut.mp (hm.1.mem_iff.mp hx) with hx|hx
  ·rw[Xg]at hx;obtain⟨n,h3,h4,_,e'⟩:=JV hx;exact⟨n,h3,by omega,e.trans e'⟩
  ·rw[Xg]at hx;obtain⟨n,h3,h4,_,e'⟩:=JV hx;exact⟨n,by omega,by omega,e.trans e'⟩
 refine⟨?_,?_,kOut⟩
 ·rw[hL]
  conv=>rhs;rw[hxy]
  exact WT _ (WG _ hm.1)
 ·intro i j hi hij hj;by_cases a1:i<p
  ·rw[kOut i (.inl a1)];by_cases b1:j<p
   ·rw[kOut j (.inl b1)];exact s1 i j hi hij (by omega)
   by_cases b2:j<q
   ·obtain⟨n,h3,h4,en⟩:=kMem j (by omega) b2;rw[en];by_cases h5:n<v
    ·exact s1 i n hi (by omega) h5
    ·exact U2 (c1 i hi a1) (s2 v n (Ug _) (by omega) (by omega))
   ·rw[kOut j (.inr (by omega))];exact U2 (c1 i hi a1) (s2 v j (Ug _) (by omega) hj)
  by_cases a2:i<q
  ·by_cases b2:j<q
   ·rw[kIn i (by omega) a2,kIn j (by omega) b2];exact dU hm.2 (by omega) (by omega)
   ·obtain⟨n,h3,h4,en⟩:=kMem i (by omega) a2;rw[en,kOut j (.inr (by omega))];by_cases h5:n<v
    ·exact U2 (s1 n (v-1) (by omega) (by omega) (by omega)) (c2 j (by omega) hj)
    ·exact s2 n j (by omega) (by omega) hj
  ·rw[kOut i (.inr (by omega)),kOut j (.inr (by omega))];exact s2 i j (by omega) hij hj
section
variable{prog:Program}{w:World}{A:Around}{E:VP}{s:Shared}[Cmp prog w A s]
theorem dX{σ:Type}{M:Model}{x:σ}{Q:PUnit->σ->Prop}{st:σ}(h:Q ⟨⟩ x):wpS M A E s (set x:StateT σ Sem PUnit) Q st:=by unfold wpS;rw[StateT.run_set];exact Uc ⟨rfl,h⟩
theorem Ff(hq:q<=xs.size)(hi:p+i<q):K (xs.extract p q) i=K xs (p+i):=Cq (by rw[Array.getElem?_extract,Uf (by omega)])
theorem C6{xs:Array Keyed}{p q:Nat}(hq:q<=xs.size):(xs.extract p q).size=q-p:=by rw[Array.size_extract];omega
theorem OY{xs:Array Keyed}(h:∀x∈xs,KI x)(p q:Nat):∀x∈xs.extract p q,KI x:=λx hx=>by have h1:=Tx.mpr hx;rw[Xg]at h1;exact h x (Tx.mp (List.mem_of_mem_drop (List.mem_of_mem_take h1)))
theorem GY{xs:Array Keyed}{p q:Nat}(hq:q<=xs.size)(h:KP xs p q):JU (xs.extract p q) (xs.extract p q).size:=λi j hij hj=>by rw[C6 hq]at hj;rw[Ff hq (by omega),Ff hq (by omega)];exact h _ _ (by omega) (by omega) (by omega)
theorem dY{st:SortSt}{i u m pw v n pw2:Nat}{Q:Bool->SortSt->Prop}(hk:kindOf st=Rk.kd)(hf:failedOf st=none)(ki:∀x∈arrOf st,KI x)(p1:(pendingOf st)[i]?=some (u,m,pw))(p2:(pendingOf st)[i+1]?=some (v,n,pw2))(hv:v=u+m)(hm:0<m)(hn:0<n)(he:v+n<=(arrOf st).size)(s1:KP (arrOf st) u v)(s2:KP (arrOf st) v (v+n))(h:∀st',kindOf st'=Rk.kd->failedOf st'=none->pendingOf st'=((pendingOf st).setIfInBounds i (u,m+n,pw)).eraseIdxIfInBounds (i+1)->(arrOf st').toList.Perm (arrOf st).toList->KP (arrOf st') u (v+n)->(∀k,k<u\/v+n<=k->K (arrOf st') k=K (arrOf st) k)->Q true st'):
  wpS (model prog w) A E s (mergeAt' i) Q st:=by
 subst hv;rw[dR];refine Ur (BD ?_);rw[p1,p2];dsimp only;refine Ur (dX ?_);have hv':u+m<(arrOf st).size:=by omega
 refine Ur (Q0 hv' (Ur ?_));refine XX hk (ki _ (U3 hv')) ki (by omega) hm (λi j h1 h2=>s1 _ _ (by omega) (by omega) (by omega)) λk hkm pk qk=>?_;rw[Yc hv']at pk qk;simp only[kP]at pk qk;dsimp only;have P:∀x,u<=x->x<u+k->K (arrOf st) x<=K (arrOf st) (u+m):=λx h1 h2=>by have:=UC (pk (x-u) (by omega));rwa[show u+(x-u)=x by omega]at this
 -- nothing to do: sorted as it stands
 have asis:(∀x y,u<=x->x<u+m->u+m<=y->y<u+m+n->K (arrOf st) x<=K (arrOf st) y)->KP (arrOf st) u (u+m+n):=λc x y h1 h2 h3=>by
  by_cases hy:y<u+m
  ·exact s1 x y h1 h2 hy
  ·by_cases hx:x<u+m
   ·exact c x y h1 hx (by omega) h3
   ·exact s2 x y (by omega) h2 h3
 by_cases e1:m-k=0
 ·refine Qu (Q7 e1) ?_;exact Uw (h _ hk hf rfl (List.Perm.refl _) (asis λx y h1 h2 h3 h4=>U2 (P x h1 (by omega)) (s2 _ y (Ug _) h3 h4)) λ_ _=>rfl)
 refine Qx (Zt e1) ?_;have hl:u+k+(m-k) - 1<(arrOf st).size:=by omega
 refine Ur (Q0 hl (Ur ?_));refine XX hk (ki _ (U3 hl)) ki (by omega) (by omega) (λi j h1 h2=>s2 _ _ (by omega) (by omega) (by omega)) λn2 hn2 rk tk=>?_;rw[Yc hl]at rk tk;simp only[kQ,show u+k+(m-k) - 1=u+m-1 by omega]at rk tk;dsimp only;have T:∀y,u+m+n2<=y->y<u+m+n->K (arrOf st) (u+m-1)<=K (arrOf st) y:=λy h1 h2=>by have:=WC.mp (T4 (tk (y - (u+m)) (by omega) (by omega)));rwa[show u+m+(y - (u+m))=y by omega]at this
 by_cases e2:n2=0
 ·refine Qu (Q7 e2) ?_;exact Uw (h _ hk hf rfl (List.Perm.refl _) (asis λx y h1 h2 h3 h4=>U2 (s1 x (u+m-1) h1 (by omega) (by omega)) (T y (by omega) h4)) λ_ _=>rfl)
 refine Qx (Zt e2) ?_;have z1:u+m<=(arrOf st).size:=by omega
 have z2:u+m+n2<=(arrOf st).size:=by omega
 have S1:=C6 (p:=u+k) z1;have S2:=C6 (p:=u+m) z2;have hb:K ((arrOf st).extract (u+m) (u+m+n2)) 0<=K ((arrOf st).extract (u+k) (u+m)) 0:=by rw[Ff z2 (by omega),Ff z1 (by omega)];exact TM (Int.not_le.mp (T4 (qk k (Ug _) (by omega))))
 have hc:∀x,x<((arrOf st).extract (u+m) (u+m+n2)).size->K ((arrOf st).extract (u+m) (u+m+n2)) x<=K ((arrOf st).extract (u+k) (u+m)) (((arrOf st).extract (u+k) (u+m)).size-1):=λx hx=>by rw[S2]at hx;rw[S1,Ff z2 (by omega),Ff z1 (by omega),show u+k+(u+m - (u+k) - 1)=u+m-1 by omega];exact TM (UC (rk x (by omega)))
 have done:∀out st',Alike (setPending st (((pendingOf st).setIfInBounds i (u,m+n,pw)).eraseIdxIfInBounds (i+1))) st'->Fe out ((arrOf st).extract (u+k) (u+m)) ((arrOf st).extract (u+m) (u+m+n2))->
   wpS (model prog w) A E s (do
    modify λz=>setArr z (OX (arrOf z) (u+k) out.toList 0)
    return (failedOf (<-get)).isNone) Q st':=by
  intro out st' al hM;refine Ur (BE (Ur (BD ?_)));have ea:arrOf st'=arrOf st:=al.2.1;have ef:failedOf st'=none:=al.2.2.2.trans hf;have L:=dW (xs:=arrOf st) (out:=out) (u:=u) (p:=u+k) (q:=u+m+n2) (v:=u+m) (e:=u+m+n) (by omega) (by omega) (by omega) (by omega) he s1 s2 P T hM;rw[<-ea]at L;show wpS _ _ _ _ (pure (failedOf st').isNone) _ _;rw[ef];exact Uw (h _ (al.1.trans hk) ef al.2.2.1 (by rw[<-ea];exact L.1) L.2.1 λx hx=>by rw[<-ea];exact L.2.2 x (by omega))
 have T2:Two ((arrOf st).extract (u+k) (u+m)) ((arrOf st).extract (u+m) (u+m+n2)):=⟨OY ki _ _,OY ki _ _,GY z1 λx y h1 h2 h3=>s1 x y (TB h1) h2 h3,GY z2 λx y h1 h2 h3=>s2 x y h1 h2 (UA h3 (TD hn2 _)),hb,hc⟩
 have d1:0<((arrOf st).extract (u+k) (u+m)).size:=by omega
 have d2:0<((arrOf st).extract (u+m) (u+m+n2)).size:=by omega
 by_cases e3:m-k<=n2
 ·exact Qu e3 (Ur <| dO (st:=setPending st (((pendingOf st).setIfInBounds i (u,m+n,pw)).eraseIdxIfInBounds (i+1))) T2 hk d1 d2 done)
 ·exact Qx e3 (Ur <| dQ (st:=setPending st (((pendingOf st).setIfInBounds i (u,m+n,pw)).eraseIdxIfInBounds (i+1))) T2 hk d1 d2 done)
end
structure Chg(st st':SortSt)(lo hi:Nat):Prop where
 kind:kindOf st'=kindOf st
 failed:failedOf st'=failedOf st
 pend:pendingOf st'=pendingOf st
 perm:(arrOf st').toList.Perm (arrOf st).toList
 out:∀k,k<lo\/hi<=k->K (arrOf st') k=K (arrOf st) k
theorem Chg.refl(st:SortSt)(lo hi:Nat):Chg st st lo hi:=⟨rfl,rfl,rfl,List.Perm.refl _,λ_ _=>rfl⟩
theorem Chg.trans{st st' st'':SortSt}{lo hi:Nat}(a:Chg st st' lo hi)(b:Chg st' st'' lo hi):Chg st st'' lo hi:=⟨b.kind.trans a.kind,b.failed.trans a.failed,b.pend.trans a.pend,b.perm.trans a.perm,λk h=>(b.out k h).trans (a.out k h)⟩
theorem Chg.size{st st':SortSt}{lo hi:Nat}(a:Chg st st' lo hi):(arrOf st').size=(arrOf st).size:=by have:=a.perm.length_eq;rwa[Uo,Uo]at this
theorem Chg.ki{st st':SortSt}{lo hi:Nat}(a:Chg st st' lo hi)(h:∀x∈arrOf st,KI x):∀x∈arrOf st',KI x:=λx hx=>h x (Tx.mp (a.perm.mem_iff.mp (Tx.mpr hx)))
theorem Chg.wide{st st':SortSt}{lo hi lo' hi':Nat}(a:Chg st st' lo hi)(h1:lo'<=lo)(h2:hi<=hi'):Chg st st' lo' hi':=⟨a.kind,a.failed,a.pend,a.perm,λk h=>a.out k (by omega)⟩
def iU(xs:Array Keyed)(lo hi:Nat):Prop:=∀i j,lo<=i->i<=j->j<hi->K xs j<=K xs i
theorem Xh{st:SortSt}{i j:Nat}(hj:j<=(arrOf st).size):Chg st (setArr st (mirror (arrOf st) i j ((j-i) / 2))) i j:=⟨rfl,rfl,rfl,TV.mp (mirror_perm _ _ _ _),λk h=>by show K (mirror _ _ _ _) k=_;rw[VH hj,Uh (by omega)]⟩
section
variable{prog:Program}{w:World}{A:Around}{E:VP}{s:Shared}[Cmp prog w A s]
theorem VL{st:SortSt}{i j:Nat}{Q:Option Bool->SortSt->Prop}(hk:kindOf st=Rk.kd)(ki:∀x∈arrOf st,KI x)(hi:i<(arrOf st).size)(hj:j<(arrOf st).size)(h:Q (some (decide (K (arrOf st) i<K (arrOf st) j))) st):wpS (model prog w) A E s (ltAt' i j) Q st:=by rw[ltAt'_eq];refine Ur (BD ?_);refine Ur (Q0 hi (Ur (Q0 hj (GV hk (ki _ (U3 hi)) (ki _ (U3 hj)) ?_))));rw[Yc hi,Yc hj];exact h
theorem kW(lo n ok:Nat):binarySort' lo n ok=(do
 for k in [max ok 1:n] do
  let mut l:=0
  let mut r:=k
  for _ in [0:k] do
   if l>=r then break
   let some y <-ltAt' (lo+k) (lo+(l+r) / 2)|return false
   if y then r:=(l+r) / 2 else l:=(l+r) / 2+1
  moveDown' (lo+k) (lo+l)
 return true):=by rfl
theorem kX{st:SortSt}{lo n ok:Nat}{Q:Bool->SortSt->Prop}(hk:kindOf st=Rk.kd)(ki:∀x∈arrOf st,KI x)(hn:lo+n<=(arrOf st).size)(hok:ok<=n)(so:KP (arrOf st) lo (lo+ok))(h:∀st',Chg st st' lo (lo+n)->KP (arrOf st') lo (lo+n)->Q true st'):wpS (model prog w) A E s (binarySort' lo n ok) Q st:=by
 rw[kW];refine Ur (T0 (Th (I:=λk c st'=>c=(none,())/\Chg st st' lo (lo+n)/\KP (arrOf st') lo (lo+min k n))
  (Q:=λc st'=>c=(none,())/\Chg st st' lo (lo+n)/\KP (arrOf st') lo (lo+n)) ?step ?fin ⟨rfl,.refl _ _ _,?init⟩) ?post)
 case post =>rintro c st' ⟨rfl,c',s'⟩;exact Uw (h st' c' s')
 case init=>
  intro i j h1 h2 h3;by_cases e:i=j
  ·subst e;exact Tw _
  ·exact so i j h1 h2 (by omega)
 case fin =>rintro c st' ⟨rfl,c',s'⟩;exact⟨rfl,c',by rwa[show min (max (max ok 1) n) n=n by omega]at s'⟩
 case step=>
  rintro k c st' hak hkn ⟨rfl,C,S⟩;rw[show min k n=k by omega]at S;have hz:lo+k<(arrOf st').size:=by rw[C.size];omega
  refine Ur (T0 (Th (I:=λx c st''=>st''=st'/\∃l r,c=(none,l,r)/\l<=r/\r<=k/\r-l<=k-x/\(∀i,i<l->K (arrOf st') (lo+i)<=K (arrOf st') (lo+k))/\(∀i,r<=i->i<k->K (arrOf st') (lo+k)<K (arrOf st') (lo+i)))
   (Q:=λc st''=>st''=st'/\∃l r,c=(none,l,r)/\l<=k/\(∀i,i<l->K (arrOf st') (lo+i)<=K (arrOf st') (lo+k))/\(∀i,l<=i->i<k->K (arrOf st') (lo+k)<K (arrOf st') (lo+i))) ?s1 ?f1
    ⟨rfl,0,k,rfl,by omega,by omega,by omega,λi hi=>by omega,λi h1 h2=>by omega⟩) ?p1)
  case f1=>
   rintro c st'' ⟨rfl,l,r,rfl,a1,a2,a3,a4,a5⟩;have e:l=r:=by omega
   subst e;exact⟨rfl,l,l,rfl,a2,a4,a5⟩
  case s1=>
   rintro x c st'' _ hx ⟨rfl,l,r,rfl,a1,a2,a3,a4,a5⟩;dsimp only;by_cases hge:l>=r
   ·refine Qu hge ?_;have e:l=r:=by omega
    subst e;exact Uw ⟨rfl,l,l,rfl,a2,a4,a5⟩
   ·refine Qx hge ?_;refine Ur (VL (C.kind.trans hk) (C.ki ki) hz (by omega) ?_);dsimp only;by_cases hl:K (arrOf st'') (lo+k)<K (arrOf st'') (lo+(l+r) / 2)
    ·refine Qu (Us hl) ?_;exact Uw ⟨rfl,l,(l+r) / 2,rfl,by omega,by omega,by omega,a4,λi h1 h2=>Int.lt_of_lt_of_le hl (S _ _ (by omega) (by omega) (by omega))⟩
    ·refine Qx (Vp hl) ?_;exact Uw ⟨rfl,(l+r) / 2+1,r,rfl,by omega,by omega,by omega,λi h1=>U2 (S _ (lo+(l+r) / 2) (by omega) (by omega) (by omega)) (WC.mp hl),a5⟩
  case p1=>
   rintro c st'' ⟨rfl,l,r,rfl,hl,a4,a5⟩;dsimp only;rw[moveDown'_eq];have kb:=λm=>OO (xs:=arrOf st'') (src:=lo+k) (d:=lo+k - (lo+l)) hz (by omega) m;rw[show lo+k - (lo+k - (lo+l))=lo+l by omega]at kb;refine Ur (BE (Uw ⟨rfl,C.trans ⟨rfl,rfl,rfl,TV.mp (bubble_perm _ _ _),λm hm=>?_⟩,?_⟩))
   ·show K (bubble _ _ _) m=_;rw[kb,Uh (by omega),Uh (by omega)]
   ·rw[show min (k+1) n=k+1 by omega];intro i j h1 h2 h3;show K (bubble _ _ _) i<=K (bubble _ _ _) j;have lo4:∀m,lo<=m->m<lo+l->K (arrOf st'') m<=K (arrOf st'') (lo+k):=λm q1 q2=>by have:=a4 (m-lo) (by omega);rwa[show lo+(m-lo)=m by omega]at this
    have hi5:∀m,lo+l<=m->m<lo+k->K (arrOf st'') (lo+k)<=K (arrOf st'') m:=λm q1 q2=>by have:=a5 (m-lo) (by omega) (by omega);rw[show lo+(m-lo)=m by omega]at this;exact TM this
    rw[kb,kb];by_cases i1:i=lo+l
    ·rw[Uf i1];by_cases j1:j=lo+l
     ·rw[Uf j1];exact Tw _
     ·rw[Uh j1,Uf (by omega)];exact hi5 _ (by omega) (by omega)
    ·rw[Uh i1];by_cases i2:lo+l<i/\i<=lo+k
     ·rw[Uf i2,Uh (by omega),Uf (by omega)];exact S _ _ (by omega) (by omega) (by omega)
     ·rw[Uh i2];by_cases j1:j=lo+l
      ·rw[Uf j1];exact lo4 _ h1 (by omega)
      ·rw[Uh j1];by_cases j2:lo+l<j/\j<=lo+k
       ·rw[Uf j2];exact S _ _ h1 (by omega) (by omega)
       ·rw[Uh j2];exact S _ _ h1 h2 (by omega)
end
noncomputable def kY(lo b nr:Nat):StateT SortSt Sem (Option (Option Nat)×Nat):=
 forIn [b:nr] ((none,b):Option (Option Nat)×Nat) λ_ c=>do
  let z <-ltAt' (lo+c.snd) (lo+c.snd-1)
  match z with
  |some y=>if y=true then pure (ForInStep.done (none,c.snd)) else pure (ForInStep.yield (none,c.snd+1))
  |_=>pure (ForInStep.done (some none,c.snd))
noncomputable def OZ(lo n nr:Nat):StateT SortSt Sem (Option Nat):=do
 reverseSlice' lo (lo+n)
 let c <-kY lo n nr
 match c.fst with
 |some r=>pure r|none=>pure (some c.snd)
noncomputable def oS(lo n nr:Nat):StateT SortSt Sem (Option (Option Nat)×Nat×Nat):=
 forIn [n:nr] ((none,n,0):Option (Option Nat)×Nat×Nat) λ_ c=>do
  let z <-ltAt' (lo+c.snd.fst) (lo+c.snd.fst-1)
  match z with
  |some y=>
   if y=true then
    if c.snd.snd>0 then do
     reverseSlice' (lo+c.snd.fst - (c.snd.snd+1)) (lo+c.snd.fst)
     pure (ForInStep.yield (none,c.snd.fst+1,0))
    else pure (ForInStep.yield (none,c.snd.fst+1,0))
   else do
    let z <-ltAt' (lo+c.snd.fst-1) (lo+c.snd.fst)
    match z with
    |some g=>if g=true then pure (ForInStep.done (none,c.snd.fst,c.snd.snd)) else pure (ForInStep.yield (none,c.snd.fst+1,c.snd.snd+1))
    |_=>pure (ForInStep.done (some none,c.snd.fst,c.snd.snd))
  |_=>pure (ForInStep.done (some none,c.snd.fst,c.snd.snd))
noncomputable def kZ(lo n nr:Nat):StateT SortSt Sem (Option Nat):=do
 liftM (rule "list.sort.descending-run")
 let c <-oS lo (n+1) nr
 match c.fst with
 |some r=>pure r|none=>
  if c.snd.snd>0 then do
   reverseSlice' (lo+c.snd.fst - (c.snd.snd+1)) (lo+c.snd.fst)
   OZ lo c.snd.fst nr
  else OZ lo c.snd.fst nr
theorem lA(lo nr:Nat):countRun' lo nr=(do
  let c <-kY lo 1 nr
  match c.fst with
  |some r=>pure r|none=>
   if (c.snd==nr)=true then pure (some c.snd)
   else if c.snd>1 then do
    let z <-ltAt' lo (lo+c.snd-1)
    match z with
    |some y=>if y=true then pure (some c.snd) else do
      reverseSlice' lo (lo+c.snd)
      kZ lo c.snd nr
    |_=>pure none
   else kZ lo c.snd nr):=by
 rw[countRun'_eq];dsimp only;unfold kZ OZ oS kY;congr 1;funext c;obtain⟨r,n⟩:=c;cases r with
 |some r=>rfl|none=>
  dsimp only;split
  ·rfl
  ·split
   ·congr 1;funext z;cases z with
    |none=>rfl|some y=>
     dsimp only;split
     ·rfl
     ·congr 1;funext _;congr 1;funext _;congr 1;funext c2;obtain⟨r2,n2,q2⟩:=c2;cases r2 with
      |some r2=>rfl|none=>(dsimp only;split;(congr 1;funext _;(congr 1;funext _;congr 1;funext c3;obtain⟨r3,n3⟩:=c3;cases r3<;>rfl));(congr 1;funext _;congr 1;funext c3;obtain⟨r3,n3⟩:=c3;cases r3<;>rfl))
   ·congr 1;funext _;congr 1;funext c2;obtain⟨r2,n2,q2⟩:=c2;cases r2 with
    |some r2=>rfl|none=>(dsimp only;split;(congr 1;funext _;(congr 1;funext _;congr 1;funext c3;obtain⟨r3,n3⟩:=c3;cases r3<;>rfl));(congr 1;funext _;congr 1;funext c3;obtain⟨r3,n3⟩:=c3;cases r3<;>rfl))
section
variable{prog:Program}{w:World}{A:Around}{E:VP}{s:Shared}[Cmp prog w A s]{st:SortSt}{lo nr:Nat}
theorem O0{b:Nat}{Q:Option (Option Nat)×Nat->SortSt->Prop}(hk:kindOf st=Rk.kd)(ki:∀x∈arrOf st,KI x)(hn:lo+nr<=(arrOf st).size)(hb:1<=b)(hbn:b<=nr)(so:KP (arrOf st) lo (lo+b))(h:∀n,b<=n->n<=nr->KP (arrOf st) lo (lo+n)->(n=nr\/K (arrOf st) (lo+n)<K (arrOf st) (lo+n-1))->Q (none,n) st):
  wpS (model prog w) A E s (kY lo b nr) Q st:=by
 unfold kY;refine Th (I:=λx c st'=>st'=st/\c=(none,x)/\KP (arrOf st) lo (lo+x)) ?step ?fin ⟨rfl,rfl,so⟩;case fin =>rintro c st' ⟨rfl,rfl,s'⟩;rw[show max b nr=nr by omega]at s' ⊢;exact h nr hbn (Ug _) s' (.inl rfl)
 case step=>
  rintro x c st' h1 h2 ⟨rfl,rfl,s'⟩;dsimp only;refine Ur (VL hk ki (by omega) (by omega) ?_);dsimp only;by_cases hl:K (arrOf st') (lo+x)<K (arrOf st') (lo+x-1)
  ·refine Qu (Us hl) ?_;exact Uw (h x h1 (by omega) s' (.inr hl))
  ·refine Qx (Vp hl) ?_;refine Uw ⟨rfl,rfl,λi j q1 q2 q3=>?_⟩;by_cases e:j<lo+x
   ·exact s' i j q1 q2 e
   ·have e':j=lo+x:=by omega
    subst e';by_cases e2:i=lo+x
    ·subst e2;exact Tw _
    ·exact U2 (s' i (lo+x-1) q1 (by omega) (by omega)) (WC.mp hl)
theorem LJ{st0:SortSt}{n:Nat}{Q:Option Nat->SortSt->Prop}(hk:kindOf st0=Rk.kd)(ki:∀x∈arrOf st0,KI x)(hn:lo+nr<=(arrOf st0).size)(C:Chg st0 st lo (lo+nr))(h1:1<=n)(h2:n<=nr)(so:iU (arrOf st) lo (lo+n))(h:∀m st',Chg st0 st' lo (lo+nr)->1<=m->m<=nr->KP (arrOf st') lo (lo+m)->Q (some m) st'):wpS (model prog w) A E s (OZ lo n nr) Q st:=by
 unfold OZ;have hz:lo+n<=(arrOf st).size:=by rw[C.size];omega
 refine Ur (wpS_reverse ?_);have C':Chg st0 (setArr st (mirror (arrOf st) lo (lo+n) ((lo+n-lo) / 2))) lo (lo+nr):=C.trans ((Xh hz).wide (Ug _) (by omega));refine Ur (O0 (C'.kind.trans hk) (C'.ki ki) (by rw[C'.size];exact hn) h1 h2 (λi j q1 q2 q3=>?_) λm q1 q2 q3 _=>Uw (h m _ C' (by omega) q2 q3));show K (mirror _ _ _ _) i<=K (mirror _ _ _ _) j;rw[VH hz,VH hz,Uf (by omega),Uf (by omega)];exact so _ _ (by omega) (by omega) (by omega)
theorem dZ{st0:SortSt}{n:Nat}{Q:Option (Option Nat)×Nat×Nat->SortSt->Prop}(hk:kindOf st0=Rk.kd)(ki:∀x∈arrOf st0,KI x)(hn:lo+nr<=(arrOf st0).size)(C:Chg st0 st lo (lo+nr))(h1:1<=n)(h2:n<=nr)(so:iU (arrOf st) lo (lo+n))(h:∀m q st',Chg st0 st' lo (lo+nr)->n<=m->m<=nr->iU (arrOf st') lo (lo+m)->q+1<=m->(∀i,lo+m - (q+1)<=i->i<lo+m->K (arrOf st') i=K (arrOf st') (lo+m-1))->Q (none,m,q) st'):
  wpS (model prog w) A E s (oS lo n nr) Q st:=by
 unfold oS;refine Th (I:=λx c st'=>∃q,c=(none,x,q)/\Chg st0 st' lo (lo+nr)/\iU (arrOf st') lo (lo+x)/\q+1<=x/\(∀i,lo+x - (q+1)<=i->i<lo+x->K (arrOf st') i=K (arrOf st') (lo+x-1))) ?step ?fin ⟨0,rfl,C,so,by omega,λi q1 q2=>by congr 1;omega⟩
 case fin =>rintro c st' ⟨q,rfl,C',s',hq,he⟩;rw[show max n nr=nr by omega]at s' hq he ⊢;exact h nr q st' C' h2 (Ug _) s' hq he
 case step=>
  rintro x c st' a1 a2 ⟨q,rfl,C',s',hq,he⟩;dsimp only;have hz:lo+x<(arrOf st').size:=by rw[C'.size];omega
  have more:∀xs:Array Keyed,(∀k,K xs k=K (arrOf st') k)->K (arrOf st') (lo+x)<=K (arrOf st') (lo+x-1)->iU xs lo (lo+(x+1)):=by
   intro xs hx hl i j q1 q2 q3;rw[hx,hx];by_cases e:j<lo+x
   ·exact s' i j q1 q2 e
   ·have e':j=lo+x:=by omega
    subst e';by_cases e2:i=lo+x
    ·subst e2;exact Tw _
    ·exact U2 hl (s' i (lo+x-1) q1 (by omega) (by omega))
  refine Ur (VL (C'.kind.trans hk) (C'.ki ki) hz (by omega) ?_);dsimp only;by_cases hl:K (arrOf st') (lo+x)<K (arrOf st') (lo+x-1)
  ·refine Qu (Us hl) ?_;by_cases hq0:q>0
   ·refine Qu hq0 ?_;refine Ur (wpS_reverse (Uw ⟨0,rfl,C'.trans ((Xh (by omega)).wide (by omega) (by omega)),more _ (λk=>ZU (by omega) he k) (TM hl),by omega,λi q1 q2=>by congr 1;omega⟩))
   ·refine Qx hq0 ?_;exact Uw ⟨0,rfl,C',more _ (λ_=>rfl) (TM hl),by omega,λi q1 q2=>by congr 1;omega⟩
  ·refine Qx (Vp hl) ?_;refine Ur (VL (C'.kind.trans hk) (C'.ki ki) (by omega) hz ?_);dsimp only;by_cases hg:K (arrOf st') (lo+x-1)<K (arrOf st') (lo+x)
   ·refine Qu (Us hg) ?_;exact Uw (h x q st' C' a1 (by omega) s' hq he)
   ·refine Qx (Vp hg) ?_;have e:K (arrOf st') (lo+x)=K (arrOf st') (lo+x-1):=by omega
    refine Uw ⟨q+1,rfl,C',more _ (λ_=>rfl) (by omega),by omega,λi q1 q2=>?_⟩;rw[show lo+(x+1) - 1=lo+x by omega];by_cases e2:i=lo+x
    ·subst e2;rfl
    ·rw[e];exact he i (by omega) (by omega)
theorem O1{st0:SortSt}{n:Nat}{Q:Option Nat->SortSt->Prop}(hk:kindOf st0=Rk.kd)(ki:∀x∈arrOf st0,KI x)(hn:lo+nr<=(arrOf st0).size)(C:Chg st0 st lo (lo+nr))(h2:n+1<=nr)(so:iU (arrOf st) lo (lo+(n+1)))(h:∀m st',Chg st0 st' lo (lo+nr)->1<=m->m<=nr->KP (arrOf st') lo (lo+m)->Q (some m) st'):wpS (model prog w) A E s (kZ lo n nr) Q st:=by
 unfold kZ;refine Ur (wpS_lift (TC ⟨rfl,?_⟩));refine Ur (dZ hk ki hn C (by omega) h2 so λm q st' C' m1 m2 s' hq he=>?_);dsimp only;have hz:lo+m<=(arrOf st').size:=by rw[C'.size];omega
 by_cases hq0:q>0
 ·refine Qu hq0 ?_;refine Ur (wpS_reverse (LJ hk ki hn (C'.trans ((Xh hz).wide (by omega) (by omega))) (by omega) m2 (λi j q1 q2 q3=>?_) h));show K (mirror _ _ _ _) j<=K (mirror _ _ _ _) i;rw[ZU hz he,ZU hz he];exact s' i j q1 q2 q3
 ·refine Qx hq0 ?_;exact LJ hk ki hn C' (by omega) m2 s' h
theorem lC{Q:Option Nat->SortSt->Prop}(hk:kindOf st=Rk.kd)(ki:∀x∈arrOf st,KI x)(hn:lo+nr<=(arrOf st).size)(h1:1<=nr)(h:∀m st',Chg st st' lo (lo+nr)->1<=m->m<=nr->KP (arrOf st') lo (lo+m)->Q (some m) st'):wpS (model prog w) A E s (countRun' lo nr) Q st:=by
 rw[lA];have one:KP (arrOf st) lo (lo+1):=λi j q1 q2 q3=>by
  have e:i=j:=by omega
  subst e;exact Tw _
 refine Ur (O0 hk ki hn (Ug 1) h1 one λn n1 n2 sn hor=>?_);dsimp only;by_cases e:n=nr
 ·refine Qu (Q7 e) ?_;exact Uw (h n st (.refl _ _ _) n1 n2 sn)
 refine Qx (Zt e) ?_;have hl:=hor.resolve_left e;by_cases hg:n>1
 ·refine Qu hg ?_;refine Ur (VL hk ki (by omega) (by omega) ?_);dsimp only;by_cases hr:K (arrOf st) lo<K (arrOf st) (lo+n-1)
  ·refine Qu (Us hr) ?_;exact Uw (h n st (.refl _ _ _) n1 n2 sn)
  ·refine Qx (Vp hr) ?_;have hz:lo+n<=(arrOf st).size:=by omega
   have all:∀k,lo<=k->k<lo+n->K (arrOf st) k=K (arrOf st) (lo+n-1):=λk q1 q2=>by have:=sn lo k (Ug _) q1 q2;have:=sn k (lo+n-1) q1 (by omega) (by omega);omega
   refine Ur (wpS_reverse (O1 hk ki hn ((Xh hz).wide (Ug _) (by omega)) (by omega) (λi j q1 q2 q3=>?_) h));show K (mirror _ _ _ _) j<=K (mirror _ _ _ _) i;rw[ZU hz all,ZU hz all];by_cases ej:j<lo+n
   ·rw[all i q1 (by omega),all j (by omega) ej];exact Tw _
   ·have ej':j=lo+n:=by omega
    subst ej';by_cases ei:i=lo+n
    ·subst ei;exact Tw _
    ·rw[all i q1 (by omega)];exact TM hl
 ·refine Qx hg ?_;have e1:n=1:=by omega
  subst e1;refine O1 hk ki hn (.refl _ _ _) (by omega) (λi j q1 q2 q3=>?_) h;by_cases ei:i=j
  ·subst ei;exact Tw _
  ·have e2:i=lo:=by omega
   have e3:j=lo+1:=by omega
   subst e2;subst e3;exact TM hl
end
noncomputable abbrev Pn:=Nat×Nat×Nat
noncomputable def Tl(xs:Array Keyed):Nat->List Pn->Nat->Prop
 |a,[],b=>a=b|a,x::r,b=>x.1=a/\0<x.2.1/\KP xs a (a+x.2.1)/\Tl xs (a+x.2.1) r b
theorem Tl.le:∀{p:List Pn}{a b:Nat},Tl xs a p b->a+p.length<=b
 |[],_,_,h=>WP h|x::r,a,b,h=>by have:=Tl.le h.2.2.2;have:=h.2.1;rw[UJ];omega
theorem Tl.app:∀{p q:List Pn}{a b:Nat},Tl xs a (p++q) b->∃c,Tl xs a p c/\Tl xs c q b
 |[],_,a,_,h=>⟨a,rfl,h⟩|_::_,_,_,_,h=>let ⟨c,h1,h2⟩:=Tl.app h.2.2.2;⟨c,⟨h.1,h.2.1,h.2.2.1,h1⟩,h2⟩
theorem Tl.glue:∀{p q:List Pn}{a c b:Nat},Tl xs a p c->Tl xs c q b->Tl xs a (p++q) b
 |[],_,_,_,_,h,k=>by cases h;exact k
 |_::_,_,_,_,_,h,k=>⟨h.1,h.2.1,h.2.2.1,Tl.glue h.2.2.2 k⟩
theorem Tl.same:∀{p:List Pn}{a b:Nat},Tl xs a p b->(∀k,a<=k->k<b->K ys k=K xs k)->Tl ys a p b
 |[],_,_,h,_=>h|x::r,a,b,h,e=>by have hl:=Tl.le h.2.2.2;refine⟨h.1,h.2.1,λi j h1 h2 h3=>?_,Tl.same h.2.2.2 λk h1 h2=>e k (by omega) h2⟩;rw[e i h1 (by omega),e j (by omega) (by omega)];exact h.2.2.1 i j h1 h2 h3
theorem Tl.pow(f:Pn->Pn)(hf:∀x,(f x).1=x.1/\(f x).2.1=x.2.1):∀{p:List Pn}{i a b:Nat},Tl xs a p b->Tl xs a (p.modify i f) b
 |[],i,_,_,h=>by cases i<;>exact h
 |x::r,0,a,b,h=>by show Tl xs a (f x::r) b;unfold Tl;rw[(hf x).1,(hf x).2];exact h
 |_::_,_+1,_,_,h=>⟨h.1,h.2.1,h.2.2.1,Tl.pow f hf h.2.2.2⟩
theorem eB(h:i+1<l.length):∃p x y q,l=p++x::y::q/\p.length=i:=by refine⟨l.take i,l[i],l[i+1],l.drop (i+2),?_,by rw[Ti];omega⟩;rw[<-Wm h,<-Wm (by omega),TJ]
theorem eD(p q:List Pn)(x y z:Pn):((p++x::y::q).set p.length z).eraseIdx (p.length+1)=p++z::q:=by rw[List.set_append_right _ _ (Ug _),Nat.sub_self,List.set_cons_zero,List.eraseIdx_append_of_length_le (U5 _ 1),Rg,BR,List.eraseIdx_cons_zero]
structure Std(a₀:Array Keyed)(st:SortSt)(hi:Nat):Prop where
 kind:kindOf st=Rk.kd
 failed:failedOf st=none
 perm:(arrOf st).toList.Perm a₀.toList
 tl:Tl (arrOf st) 0 (pendingOf st).toList hi
 le:hi<=a₀.size
theorem Std.size{a₀:Array Keyed}{st:SortSt}{hi:Nat}(h:Std a₀ st hi):(arrOf st).size=a₀.size:=by have:=h.perm.length_eq;rwa[Uo,Uo]at this
theorem Std.ki{a₀:Array Keyed}{st:SortSt}{hi:Nat}(h:Std a₀ st hi)(k:∀x∈a₀,KI x):∀x∈arrOf st,KI x:=λx hx=>k x (Tx.mp (h.perm.mem_iff.mp (Tx.mpr hx)))
section
variable{prog:Program}{w:World}{A:Around}{E:VP}{s:Shared}[Cmp prog w A s]{a₀:Array Keyed}
theorem LL{st:SortSt}{i hi:Nat}{Q:Bool->SortSt->Prop}(k0:∀x∈a₀,KI x)(S:Std a₀ st hi)(h1:i+1<(pendingOf st).size)(h:∀st',Std a₀ st' hi->(pendingOf st').size+1=(pendingOf st).size->(∀k,hi<=k->K (arrOf st') k=K (arrOf st) k)->Q true st'):
  wpS (model prog w) A E s (mergeAt' i) Q st:=by
 obtain⟨p,⟨u,m,pw⟩,⟨v,n,pw2⟩,q,e,hp⟩:=eB (l:=(pendingOf st).toList) (i:=i) (by rw[Uo];exact h1);have T:=S.tl;rw[e]at T;obtain⟨c,T1,T2⟩:=T.app;obtain⟨e1,m0,so1,e2,n0,so2,T3⟩:=T2;dsimp only at e1 m0 so1 e2 n0 so2 T3;subst e1;subst e2;have l3:=T3.le;have l1:=T1.le;have l0:=S.le;have hz:=S.size;have g1:(pendingOf st)[i]?=some (u,m,pw):=by rw[<-Tr,e,UD (by omega),hp,Nat.sub_self];rfl
 have g2:(pendingOf st)[i+1]?=some (u+m,n,pw2):=by rw[<-Tr,e,UD (by omega),hp,Rg];rfl
 refine dY S.kind S.failed (S.ki k0) g1 g2 rfl m0 n0 (by omega) so1 so2 λst' hk hf hpe hpm hso hout=>?_;have ep:(pendingOf st').toList=p++(u,m+n,pw)::q:=by rw[hpe,Array.toList_eraseIdxIfInBounds,Bp,e,<-hp,eD]
 refine h st' ⟨hk,hf,hpm.trans S.perm,?_,l0⟩ ?_ λk hk=>hout k (.inr (by omega))
 ·rw[ep];refine(T1.same λk _ h2=>hout k (.inl h2)).glue ⟨rfl,by show 0<m+n;omega,?_,?_⟩
  ·show KP _ u (u+(m+n));rw[<-Wc];exact hso
  ·show Tl _ (u+(m+n)) q hi;rw[<-Wc];exact T3.same λk h2 _=>hout k (.inr h2)
 ·rw[<-Uo,ep,<-Uo (xs:=pendingOf st),e,Uq,Uq];rfl
end
noncomputable def Ea(z lo n:Nat):StateT SortSt Sem (ForInStep (Option Unit×Nat)):=do
 let t <-get
 match (pendingOf t).back? with
 |some (u,m,_)=>do
  let c <-forIn [0:z] ((none,()):Option Unit×Unit) λ_ _=>do
   let t <-get
   match (if (pendingOf t).size>1 then (pendingOf t)[(pendingOf t).size-2]? else none) with
   |some (_,_,o)=>
    if o<=power' z (2*u+m) (2*u+m+m+n) z then pure (ForInStep.done (none,())) else do
     let y <-mergeAt' ((pendingOf t).size-2)
     if (!y)=true then pure (ForInStep.done (some (),())) else pure (ForInStep.yield (none,()))
   |_=>pure (ForInStep.done (none,()))
  match c.fst with
  |some r=>pure (ForInStep.done (some r,lo))|none=>do
   modify λt=>setPending t ((pendingOf t).modify ((pendingOf t).size-1) λx=>(x.fst,x.snd.fst,power' z (2*u+m) (2*u+m+m+n) z))
   modify λt=>setPending t ((pendingOf t).push (lo,n,0))
   pure (ForInStep.yield (none,lo+n))
 |_=>do
  modify λt=>setPending t ((pendingOf t).push (lo,n,0))
  pure (ForInStep.yield (none,lo+n))
section
variable{prog:Program}{w:World}{A:Around}{E:VP}{s:Shared}[Cmp prog w A s]{a₀:Array Keyed}
theorem Std.push{st:SortSt}{lo n:Nat}(S:Std a₀ st lo)(h0:0<n)(hn:lo+n<=a₀.size)(so:KP (arrOf st) lo (lo+n)):
  Std a₀ (setPending st ((pendingOf st).push (lo,n,0))) (lo+n):=by
 refine⟨S.kind,S.failed,S.perm,?_,hn⟩;show Tl (arrOf st) 0 ((pendingOf st).push (lo,n,0)).toList (lo+n);rw[We];exact S.tl.glue ⟨rfl,h0,so,rfl⟩
noncomputable def PostR(a₀:Array Keyed)(v:Nat):ForInStep (Option Unit×Nat)->SortSt->Prop
 |.done _,_=>False|.yield c,st'=>c=(none,v)/\Std a₀ st' v
theorem Ni{st:SortSt}{z lo n:Nat}(k0:∀x∈a₀,KI x)(S:Std a₀ st lo)(h0:0<n)(hn:lo+n<=a₀.size)(so:KP (arrOf st) lo (lo+n)):
  wpS (model prog w) A E s (Ea z lo n) (PostR a₀ (lo+n)) st:=by
 unfold Ea;refine Ur (BD ?_);cases hb:(pendingOf st).back? with
 |none=>exact Ur (BE (Uw ⟨rfl,S.push h0 hn so⟩))|some x=>
  obtain⟨u,m,pw⟩:=x;dsimp only;refine Ur (T0 (Th (I:=λ_ c st'=>c=(none,())/\Std a₀ st' lo/\KP (arrOf st') lo (lo+n)) (Q:=λc st'=>c=(none,())/\Std a₀ st' lo/\KP (arrOf st') lo (lo+n))
   ?step (λ_ _ h=>h) ⟨rfl,S,so⟩) ?post)
  case post =>rintro c st' ⟨rfl,S',so'⟩;dsimp only;refine Ur (BE (Ur (BE (Uw ⟨rfl,Std.push (st:=setPending st' _) ⟨S'.kind,S'.failed,S'.perm,?_,S'.le⟩ h0 hn so'⟩))));show Tl (arrOf st') 0 ((pendingOf st').modify _ _).toList lo;rw[Array.toList_modify];exact Tl.pow (λx=>(x.fst,x.snd.fst,power' z (2*u+m) (2*u+m+m+n) z)) (λ_=>⟨rfl,rfl⟩) S'.tl
  case step=>
   rintro x c st' _ _ ⟨rfl,S',so'⟩;refine Ur (BD ?_);by_cases h1:(pendingOf st').size>1
   ·rw[Uf h1];cases hg:(pendingOf st')[(pendingOf st').size-2]? with
    |none=>exact Uw ⟨rfl,S',so'⟩|some y=>
     obtain⟨y1,y2,o⟩:=y;dsimp only;split
     ·exact Uw ⟨rfl,S',so'⟩
     ·refine Ur (LL k0 S' (by omega) λst2 S2 _ ho=>?_);rw[Uh (by decide)];refine Uw ⟨rfl,S2,λi j q1 q2 q3=>?_⟩;rw[ho i q1,ho j (by omega)];exact so' i j q1 q2 q3
   ·rw[Uh h1];exact Uw ⟨rfl,S',so'⟩
theorem wp_runs{st:SortSt}{Q:Unit->SortSt->Prop}(k0:∀x∈a₀,KI x)(S:Std a₀ st 0)(h:∀st',(arrOf st').Perm a₀->failedOf st'=none->JU (arrOf st') a₀.size->Q () st'):wpS (model prog w) A E s sortRuns' Q st:=by
 rw[sortRuns'_eq];refine Ur (BD ?_);dsimp only;generalize minRun' (arrOf st).size (arrOf st).size 0=mr;have hz:=S.size;generalize hzz:(arrOf st).size=z at hz;have hz2:=hz;clear hzz;refine Ur (T0 (Th (I:=λx c st'=>∃lo,c=(none,lo)/\Std a₀ st' lo/\(x<=lo\/lo=z))
  (Q:=λc st'=>c=(none,z)/\Std a₀ st' z) ?step ?fin ⟨0,rfl,S,.inl (Ug _)⟩) ?post)
 case fin=>
  rintro c st' ⟨lo,rfl,S',hx⟩;have:=S'.le;have e:lo=z:=by omega
  subst e;exact⟨rfl,S'⟩
 case step=>
  rintro x c st' _ hx ⟨lo,rfl,S',hlo⟩;dsimp only;have hle:=S'.le;by_cases hge:lo>=z
  ·refine Qu hge ?_;have e:lo=z:=by omega
   subst e;exact Uw ⟨rfl,S'⟩
  refine Qx hge ?_;have hs:=S'.size;refine Ur (lC S'.kind (S'.ki k0) (by omega) (by omega) λm st2 C2 m1 m2 so2=>?_);have S2:Std a₀ st2 lo:=⟨C2.kind.trans S'.kind,C2.failed.trans S'.failed,C2.perm.trans S'.perm,by rw[C2.pend];exact S'.tl.same λk _ h2=>C2.out k (.inl h2),hle⟩;dsimp only;have fin:∀{n:Nat}{st3:SortSt}(q:StateT SortSt Sem (ForInStep (Option Unit×Nat))),q=Ea z lo n->0<n->lo+n<=a₀.size->Std a₀ st3 lo->KP (arrOf st3) lo (lo+n)->
    wpS (model prog w) A E s q (λr st'=>match r with
     |.done c=>c=(none,z)/\Std a₀ st' z|.yield c=>∃lo,c=(none,lo)/\Std a₀ st' lo/\(x+1<=lo\/lo=z)) st3:=by
   rintro n st3 _ rfl n0 hn S3 so3;refine T0 (Ni k0 S3 n0 hn so3) λr st4 hr=>?_;cases r with
   |done c=>exact hr.elim|yield c=>exact⟨lo+n,hr.1,hr.2,by omega⟩
  by_cases hm:m<mr
  ·refine Qu hm ?_;refine Ur (wpS_lift (TC ⟨rfl,?_⟩));have hz3:=S2.size;refine Ur (kX S2.kind (S2.ki k0) (n:=min (z-lo) mr) (by omega) (by omega) so2 λst3 C3 so3=>?_);rw[Uh (by decide)];have S3:Std a₀ st3 lo:=⟨C3.kind.trans S2.kind,C3.failed.trans S2.failed,C3.perm.trans S2.perm,by rw[C3.pend];exact S2.tl.same λk _ h2=>C3.out k (.inl h2),hle⟩;refine T0 (fin (n:=min (z-lo) mr) _ ?_ (by omega) (by omega) S3 so3) λr _ h=>by cases r<;>exact h
   unfold Ea;congr 1;funext t;cases (pendingOf t).back? with
   |none=>rfl|some x =>obtain⟨u,m,pw⟩:=x;dsimp only;congr 1;funext c;obtain⟨r,u'⟩:=c;cases r<;>rfl
  ·refine Qx hm ?_;refine T0 (fin (n:=m) _ ?_ (by omega) (by omega) S2 so2) λr _ h=>by cases r<;>exact h
   unfold Ea;congr 1;funext t;cases (pendingOf t).back? with
   |none=>rfl|some x =>obtain⟨u,m,pw⟩:=x;dsimp only;congr 1;funext c;obtain⟨r,u'⟩:=c;cases r<;>rfl
 case post=>
  rintro c st' ⟨rfl,S'⟩;dsimp only;refine Ur (T0 (Th (I:=λx c st'=>c=(none,())/\Std a₀ st' z/\((pendingOf st').size<=1\/(pendingOf st').size+x<=z))
   (Q:=λc st'=>c=(none,())/\Std a₀ st' z/\(pendingOf st').size<=1) ?s1 ?f1 ⟨rfl,S',.inr ?i1⟩) ?p1)
  case i1 =>have:=S'.tl.le;rw[Uo]at this;omega
  case f1 =>rintro c st2 ⟨rfl,S2,hp⟩;exact⟨rfl,S2,by omega⟩
  case p1=>
   rintro c st2 ⟨rfl,S2,hp⟩;dsimp only;refine Uw (h st2 (TV.mpr S2.perm) S2.failed ?_);intro i j hij hj;have T:=S2.tl;rw[<-Uo]at hp;cases hl:(pendingOf st2).toList with
   |nil =>rw[hl]at T;have:0=z:=T;omega|cons x r=>
    rw[hl]at T hp;have hr:r=[]:=by
     cases r with
     |nil=>rfl|cons _ _=>simp at hp
    subst hr;have e:0+x.2.1=z:=T.2.2.2;exact T.2.2.1 i j (Tv _) hij (by omega)
  case s1=>
   rintro x c st2 _ hx ⟨rfl,S2,hp⟩;refine Ur (BD ?_);by_cases h1:(pendingOf st2).size<=1
   ·rw[Uf h1];exact Uw ⟨rfl,S2,h1⟩
   rw[Uh h1];have go:∀i,i+1<(pendingOf st2).size->wpS (model prog w) A E s (do
     let y <-mergeAt' i
     if (!y)=true then pure (ForInStep.done (some (),())) else pure (ForInStep.yield (none,())))
     (λr st'=>match r with
      |.done c=>c=(none,())/\Std a₀ st' z/\(pendingOf st').size<=1|.yield c=>c=((none,()):Option Unit×Unit)/\Std a₀ st' z/\((pendingOf st').size<=1\/(pendingOf st').size+(x+1)<=z)) st2:=λi hi=>
    Ur (LL k0 S2 hi λst3 S3 hs _=>by rw[Uh (by decide)];exact Uw ⟨rfl,S3,by omega⟩)
   by_cases hc:Option.any (λq=>decide (q<(pendingOf st2)[(pendingOf st2).size-2+1]?.elim 0 λx=>x.2.1)) (if (pendingOf st2).size-2>0 then (pendingOf st2)[(pendingOf st2).size-2-1]?.map (λx=>x.2.1) else none)=true
   ·rw[Uf hc];exact T0 (go _ (by omega)) λr _ h=>by cases r<;>exact h
   ·rw[Uh hc];exact T0 (go _ (by omega)) λr _ h=>by cases r<;>exact h
end
end SO
namespace NK
open PySem PyProof.Rows
structure VK(prog:Program)(w:World)(K:Type)[DecidableEq K] where
 is:Heap->K->Value->Prop
 hash:K->Int
 draws:K->Nat
 dep:Nat
 inj:∀{h:Heap}{v:Value}{x y:K},is h x v->is h y v->x=y
 keeps:∀{h h':Heap}{k:K}{v:Value},is h k v->(∀b o i n,h.get? b=some o->o.data=.seq i n->h'.get? b=some o)->is h' k v
 pyHash:∀{A:Around}{E:VP}{s:Shared}{k:K}{v:Value}{Q:Int->Shared->Prop},A.units+dep<cLine->is s.heap k v->Q (hash k) {s with toks:=s.toks+draws k}->wpAny (model prog w) A (PySem.pyHash v) Q E s
 eqBool:∀{A:Around}{E:VP}{s:Shared}{x y:K}{u v:Value}{Q:Bool->Shared->Prop},A.units+dep<cLine->is s.heap x u->is s.heap y v->Q (decide (x=y)) s->wpAny (model prog w) A (PySem.eqBool u v) Q E s
 quiet:∀{A:Around}{E:VP}{s:Shared}{k:K}{v:Value}{Q:Bool->Shared->Prop}(n:Nat),dep<=n->is s.heap k v->Q true s->wpAny (model prog w) A (eqIsQuiet n v) Q E s
section
variable{prog:Program}{w:World}{A:Around}{E:VP}{s:Shared}
def intV(prog:Program)(w:World):VK prog w Int where
 is:=λ_ k v=>Value.isInt k v=true
 hash:=hashInt
 draws:=λ_=>1
 dep:=0
 inj:=λhx hy=>(intKind prog w).inj _ _ _ hx hy
 keeps:=λh _=>h
 pyHash:=λ_ hv h=>(intKind prog w).pyHash hv h
 eqBool:=λ_ hu hv h=>(intKind prog w).eqBool hu hv h
 quiet:=λn _ hv h=>by rw[eqIsQuiet_byValue n ((intKind prog w).byValue _ _ hv)];exact Uc h
def Tp(h:Heap)(a:Addr)(us:List Value):Prop:=∃o items n,h.get? a=some o/\o.cls=.type "tuple"/\o.data=.seq items n/\items.toList=us
theorem Tp.typeIs(x:Tp s.heap a us):s.TypeIs (.ref a) "tuple":=let ⟨o,_,_,ho,hc,_⟩:=x;⟨o,ho,hc⟩
theorem Tp.inj(x:Tp h a us)(y:Tp h a vs):us=vs:=by obtain⟨o,i,n,ho,_,hd,rfl⟩:=x;obtain⟨o',i',n',ho',_,hd',rfl⟩:=y;obtain rfl:o=o':=Option.some.inj (ho.symm.trans ho');rw[hd]at hd';injection hd' with h1 _;rw[h1]
theorem Tp.keeps(x:Tp h a us)(k:∀b o i n,h.get? b=some o->o.data=.seq i n->h'.get? b=some o):Tp h' a us:=
 let ⟨o,i,n,ho,hc,hd,e⟩:=x;⟨o,i,n,k a o i n ho hd,hc,hd,e⟩
def O2(prog:Program)(w:World)(dep:Nat)(h:Heap)(p:Int×Nat)(v:Value):Prop:=∀{A:Around}{E:VP}{s:Shared}{Q:Int->Shared->Prop},s.heap=h->A.units+dep<cLine->Q p.1 {s with toks:=s.toks+p.2}->wpAny (model prog w) A (PySem.pyHash v) Q E s
inductive Al{α β:Type}(R:α->β->Prop):List α->List β->Prop
 |nil:Al R [] []
 |cons {a:α} {b:β} {as:List α} {bs:List β}:R a b->Al R as bs->Al R (a::as) (b::bs)
theorem Al.len(h:Al R as bs):as.length=bs.length:=by
 induction h with
 |nil=>rfl|cons _ _ ih=>simp[ih]
def Nj(ps:List (Int×Nat)):Nat:=(ps.map (·.2)).sum
theorem GZ{dep:Nat}{a:Addr}{us:List Value}{ps:List (Int×Nat)}{Q:Int->Shared->Prop}(hu:A.units+(dep+1)<cLine)(ht:Tp s.heap a us)(hi:Al (O2 prog w dep s.heap) ps us)(h:Q (reduceHash (Builtin.Tuple.tupleHashOf (ps.map (·.1)))) {s with toks:=s.toks+(Nj ps+1)}):wpAny (model prog w) A (PySem.pyHash (.ref a)) Q E s:=by
 have hT:=ht.typeIs;obtain⟨o,items,n,ho,_,hd,rfl⟩:=ht;unfold PySem.pyHash;first|unfold pyHashByItsType|skip
 first|refine Ua (wpAny_cRoomFor_or (.inr (by omega)) ?_)|skip
 refine Ua (RD hT WL.lookup ?_);show wpAny _ _ (if (some (Value.builtin "tuple.__hash__")==some Value.none)=true then _ else _) Q E s;rw[Uh (by rw[beq_builtin_none];exact Uj)];refine Ua (RD hT WL.lookup ?_);show wpAny _ _ (callSpecialIfBoundUnlessNone? (.ref a) "__hash__" _ >>= _) Q E s;refine Ua (wpAny_callSpecialIfBoundUnlessNone?_slot hT WL (UW WL hT F.entry_tuple_hash ?_ (F.args_tuple_hash_1 _)));show wpAny _ _ (Builtin.Tuple.tupleItemsOf (.ref a) >>= _) _ _ s;refine Ua (Ru ho hd ?_);refine Ua ?_;rw[<-Array.forIn_toList];refine Wn _
  (λrest (b:Array Int) s'=>∃done left,ps=done++left/\Al (O2 prog w dep s.heap) left rest/\b.toList=done.map (·.1)/\s' = {s with toks:=s.toks+Nj done})
  _ ?_ ?_ _ _ ⟨[],ps,rfl,hi,rfl,rfl⟩
 ·rintro x rest b s' ⟨done,left,rfl,hl,hb,rfl⟩;cases hl with
  |@cons p _ ps' _ h1 hl'=>
   refine Ua (h1 rfl (by show A.units+1+dep<cLine;omega) ?_);first
    |exact Uc ⟨done++[p],ps',by simp,hl',by simp[hb],by simp[Nj,Wc]⟩
    |exact Ua (Uc (Uc ⟨done++[p],ps',by simp,hl',by simp[hb],by simp[Nj,Wc]⟩))
 ·rintro b s' ⟨done,left,rfl,hl,hb,rfl⟩;cases hl;rw[U6]at h;show wpAny _ _ (retInt (Builtin.Tuple.tupleHashOf b.toList)) _ _ _;rw[hb];refine wpAny_ret_mkInt ?_;show wpAny _ _ (if (decide (-(2:Int) ^ 63<=Builtin.Tuple.tupleHashOf (done.map (·.1)))&&decide (Builtin.Tuple.tupleHashOf (done.map (·.1))<2^63))=true then _ else _) Q E _;unfold reduceHash at h;by_cases hr:(decide (-(2:Int) ^ 63<=Builtin.Tuple.tupleHashOf (done.map (·.1)))&&decide (Builtin.Tuple.tupleHashOf (done.map (·.1))<2^63))=true
  ·rw[Uf hr];rw[Uf hr]at h;exact Uc (by simpa[Wc]using h)
  ·rw[Uh hr];rw[Uh hr]at h;exact Ua (TC (Uc (by simpa[Wc]using h)))
def EqAt(prog:Program)(w:World)(dep:Nat)(h:Heap)(b:Bool)(p:Value×Value):Prop:=∀{A:Around}{E:VP}{s:Shared}{Q:Bool->Shared->Prop},s.heap=h->A.units+dep<cLine->Q b s->wpAny (model prog w) A (PySem.eqBool p.1 p.2) Q E s
theorem O3{dep:Nat}{a c:Addr}{us vs:List Value}{bs:List Bool}{r:Bool}{Q:Bool->Shared->Prop}(hu:A.units+(dep+1)<cLine)(hx:Tp s.heap a us)(hy:Tp s.heap c vs)(hi:Al (EqAt prog w dep s.heap) bs (us.zip vs))(hr:r=(bs.all id&&(us.length==vs.length)))(hs:a=c->r=true)(h:Q r s):wpAny (model prog w) A (PySem.eqBool (.ref a) (.ref c)) Q E s:=by
 unfold PySem.eqBool;try with_reducible refine Tt ?_
 show wpAny _ _ (if (Value.ref a==Value.ref c)=true then _ else _) Q E s;by_cases hab:(Value.ref a==Value.ref c)=true
 ·rw[Uf hab];have e:a=c:=by have:=eq_of_beq hab;injection this
  rw[hs e]at h;exact Ua (TC (Uc (by simpa using h)))
 ·rw[Uh hab];have hTa:=hx.typeIs;have hTb:=hy.typeIs;obtain⟨oa,xs,na,hoa,_,hda,rfl⟩:=hx;obtain⟨ob,ys,nb,hob,_,hdb,rfl⟩:=hy;refine Ua (Bn (op:=.Eq) hTa hTb F.slot_tuple_eq (UW F.slot_tuple_eq hTa F.entry_tuple_eq ?_ (F.args_tuple_eq_2 _ _)) (by omega));show wpAny _ _ (isInstance (.ref c) (.type "tuple") >>= _) _ _ s;refine Ua (T7 hTb WV ?_);simp only[RK,UU,Rn];refine Ua (Ru hoa hda ?_);refine Ua (Ru hob hdb ?_);refine Ua ?_;have fin:wpAny (model prog w) A.in1 (pure (Fin.done (.ret (.bool r)))) (λfin s'=>∃v,fin=.done (.ret v)/\v≠.notImplemented/\wpAny (model prog w) A (truthy v) Q E s') E s:=Uc ⟨_,rfl,(λe=>nomatch e),Tf h⟩;refine Wn _
   (λrest q s'=>q.1=none/\s'=s/\∃bs',Al (EqAt prog w dep s.heap) bs' rest/\(bs'.all id&&(xs.toList.length==ys.toList.length))=r)
   _ ?_ ?_ _ _ ⟨rfl,rfl,bs,hi,hr.symm⟩
  ·rintro ⟨u,v⟩ rest q s' ⟨hq,rfl,bs',hb,hdec⟩;cases hb with
   |@cons b1 _ bs'' _ h1 hb'=>
    refine Ua (h1 rfl (by show A.units+1+dep<cLine;omega) ?_);cases b1 with
    |true =>simp only[RK,UU,Rn];exact Uc ⟨rfl,rfl,bs'',hb',by simpa using hdec⟩|false=>
     simp only[Bz,W6];have hf:r=false:=by rw[<-hdec];simp
     rw[hf]at h;exact Ua (Uc (Uc (Uc ⟨_,rfl,(λe=>nomatch e),Tf h⟩)))
  ·rintro ⟨r1,r2⟩ s' ⟨hq,rfl,bs',hb,hdec⟩;simp only at hq;subst hq;cases hb;refine Uc ⟨_,rfl,(λe=>nomatch e),Tf ?_⟩;have:(xs.size==ys.size)=r:=by simpa using hdec
   rw[this];exact h
theorem Fg(n:Nat)(ht:Tp s.heap a us)(hi:∀v∈us,∀{A:Around} {E:VP} {Q:Bool->Shared->Prop},Q true s->wpAny (model prog w) A (eqIsQuiet n v) Q E s)(h:Q true s):wpAny (model prog w) A (eqIsQuiet (n+1) (.ref a)) Q E s:=by
 have hT:=ht.typeIs;obtain⟨o,items,k,ho,_,hd,rfl⟩:=ht;unfold eqIsQuiet;refine Ua (RD hT F.slot_tuple_eq.lookup ?_);show wpAny _ _ (isInstance (.ref a) (.type "tuple") >>= _) _ _ s;refine Ua (T7 hT WV ?_);simp only[RK,UU,Rn];refine Ua (BA ho hd ?_);refine Ua ?_;show wpAny _ _ (forIn items _ _) _ _ s;rw[<-Array.forIn_toList];refine Wn _ (λrest r s'=>r.1=none/\s'=s/\∀v∈rest,v∈items.toList) _ ?_ ?_ _ _ ⟨rfl,rfl,λv hv=>hv⟩
 ·rintro v rest r s' ⟨hr,rfl,hall⟩;refine Ua (hi v (hall v Uy) ?_);simp only[RK,UU,Rn];exact Uc ⟨rfl,rfl,λu hu'=>hall u (Uz _ hu')⟩
 ·rintro ⟨r1,r2⟩ s' ⟨hr,rfl,_⟩;simp only at hr;subst hr;exact Uc h
theorem Al.map(h:Al R as bs)(g:∀a b,R a b->S (f a) b):Al S (as.map f) bs:=by
 induction h with
 |nil=>exact .nil|cons a _ ih=>exact .cons (g _ _ a) ih
theorem Al.imp(h:Al R as bs)(g:∀a b,R a b->S a b):Al S as bs:=by
 induction h with
 |nil=>exact .nil|cons a _ ih=>exact .cons (g _ _ a) ih
theorem Al.mem(h:Al R as bs):∀b∈bs,∃a,R a b:=by
 induction h with
 |nil=>intro b hb;cases hb|cons a _ ih=>intro b hb;rcases UG.mp hb with rfl|z;exact⟨_,a⟩;exact ih b z
variable{K:Type}[DecidableEq K]
theorem O4{v:VK prog w K}{h:Heap}{x y:List K}{us:List Value}(hx:Al (v.is h) x us)(hy:Al (v.is h) y us):x=y:=by
 induction hx generalizing y with
 |nil=>cases hy;rfl|cons a _ ih=>cases hy with|cons b t=>rw[v.inj a b,ih t]
theorem lD{v:VK prog w K}{h:Heap}{x y:List K}{us vs:List Value}(hx:Al (v.is h) x us)(hy:Al (v.is h) y vs):∃bs,Al (EqAt prog w v.dep h) bs (us.zip vs)/\decide (x=y)=(bs.all id&&(us.length==vs.length)):=by
 induction hx generalizing y vs with
 |nil=>cases hy with
  |nil=>exact⟨[],.nil,by simp⟩|cons _ _=>exact⟨[],.nil,by simp⟩
 |@cons k u ks us' a t ih=>cases hy with
  |nil=>exact⟨[],.nil,by simp⟩|@cons k2 u2 ks2 us2 b t2=>
   obtain⟨bs,h1,h2⟩:=ih t2;refine⟨decide (k=k2)::bs,.cons (λ{A E s Q} e hu q=>v.eqBool hu (by rw[e];exact a) (by rw[e];exact b) q) h1,?_⟩;rw[Ws,UJ,UJ];by_cases hk:k=k2
   ·by_cases hks:ks=ks2<;>simp[hk,hks]at h2 ⊢ <;> simpa using h2
   ·simp[hk]
def lstV(v:VK prog w K):VK prog w (List K) where
 is:=λh ks u=>∃a us,u=.ref a/\Tp h a us/\Al (v.is h) ks us
 hash:=λks=>reduceHash (Builtin.Tuple.tupleHashOf (ks.map v.hash))
 draws:=λks=>(ks.map v.draws).sum+1
 dep:=v.dep+1
 inj:=λ{h u x y} hx hy=>by obtain⟨a,us,rfl,t1,i1⟩:=hx;obtain⟨b,vs,e,t2,i2⟩:=hy;injection e with e;subst e;obtain rfl:=t1.inj t2;exact O4 i1 i2
 keeps:=λ{h h' k u} hx kp=>by obtain⟨a,us,rfl,t1,i1⟩:=hx;exact⟨a,us,rfl,t1.keeps kp,i1.imp λ_ _ q=>v.keeps q kp⟩
 pyHash:=λ{A E s k u Q} hu hx h=>by obtain⟨a,us,rfl,t1,i1⟩:=hx;refine GZ (ps:=k.map λx=>(v.hash x,v.draws x)) hu t1 (i1.map λx y q=>λ{A E s Q} e hu h=>v.pyHash hu (by rw[e];exact q) h) ?_;simpa[Nj,Function.comp_def]using h
 eqBool:=λ{A E s x y u z Q} hu hx hy h=>by obtain⟨a,us,rfl,t1,i1⟩:=hx;obtain⟨b,vs,rfl,t2,i2⟩:=hy;obtain⟨bs,h1,h2⟩:=lD i1 i2;refine O3 hu t1 t2 h1 h2 (λe=>?_) h;subst e;obtain rfl:=t1.inj t2;exact Us (O4 i1 i2)
 quiet:=λ{A E s k u Q} n hn hx h=>by obtain⟨a,us,rfl,t1,i1⟩:=hx;obtain⟨n,rfl⟩:∃j,n=j+1:=⟨n-1,by omega⟩;exact Fg n t1 (λv' hv' {A E Q} q=>let ⟨_,hq⟩:=i1.mem v' hv';v.quiet n (by omega) hq q) h
variable{K2 K3:Type}[DecidableEq K2][DecidableEq K3]
theorem up(h:dep<=dep')(hu:A.units+dep'<cLine):A.units+dep<cLine:=by omega
def hk(v:VK prog w K)(hd:v.dep<=8):HeapKind prog w K where
 is:=λh k a=>v.is h k (.ref a)
 hash:=v.hash
 draws:=v.draws
 room:=λA=>A.units+v.dep<cLine
 inj:=λhx hy=>v.inj hx hy
 keeps:=λ{h h' k a d o es ep} hx ho hdat hs=>v.keeps hx λb o' i n hb hq=>(hs.2 b (by rintro rfl;obtain rfl:o'=o:=Option.some.inj (hb.symm.trans ho);rw[hdat]at hq;exact nomatch hq)).trans hb
 pyHash:=λhu hx h=>v.pyHash hu hx h
 eqBool:=λhu hx hy h=>v.eqBool hu hx hy h
 quiet:=λhx h=>v.quiet 8 hd hx h
end
section
variable{prog:Program}{w:World}{K:Type}[DecidableEq K]{knd:HeapKind prog w K}{A:Around}{E:VP}{s:Shared}
theorem eG{d a:Addr}{xs:List (K×Addr×Value)}{k:K}{v:Value}{Q:VP}(hu:knd.room A)(hkey:knd.is s.heap k a)(hm:s.heap.DictOfH knd d xs)(hz:xs.length<=sizeLine)(h1:∀p,atKey xs k=some p->Q p.2 {s with toks:=s.toks+knd.draws k})(h2:atKey xs k=none->∀h',h'.DictOfH knd d (xs++[(k,a,v)])->Heap.SameBut d s.heap h'->Q v {s with heap:=h',toks:=s.toks+knd.draws k}):
  wpAny (model prog w) A (dictSetDefault d (.ref a) v) Q E s:=by
 obtain⟨o,es,ep,ho,hc,hd,he,his,hn⟩:=hm;unfold dictSetDefault;try with_reducible refine Tt ?_
 refine Ua (knd.pyHash hu hkey (Ua (wpAny_dictFind_heap (s:={s with toks:=s.toks+knd.draws k}) hu hkey ho hd he his hn ?_ ?_)))
 ·intro hno;have hnot:k∉xs.map (·.1):=not_mem_keys_of_get hno;refine Ua (TC (Ua (wpAny_updateDictKeys (hz:=by have e:=size_of_entries he;omega) (s:={s with toks:=s.toks+knd.draws k}) ho hd (Uc (h2 (atKey_none_of_get hno) _ ⟨_,_,ep+1,RY _ ho (Obj.isFreed_of_dict (Obj.data_mapDictKeys hd _)),hc.mapDictKeys _,Obj.data_mapDictKeys hd _,?_,?_,?_⟩ (TF ..))))))
  ·simp[he,entryOfKey]
  ·intro x hx;rcases Ut.mp hx with hx|hx
   ·exact knd.keeps (his x hx) ho hd (TF ..)
   ·rw[Ui.mp hx];exact knd.keeps hkey ho hd (TF ..)
  ·rw[UO,RH];refine⟨hn,by simp,λx hx y hy e=>hnot ?_⟩;have hy:y=k:=by simpa using hy
   rw[<-hy,<-e];exact hx
 ·intro j p hj;refine Ua (RI (s:={s with toks:=s.toks+knd.draws k}) ho hd ?_);rw[entry_at he j,hj];exact Ua (TC (Uc (h1 p (atKey_of_get hn hj))))
theorem meetsSetDef(hd:(d==sysModules)=false)(v:Value):
  MeetsIn prog w (Builtin.«dict.setdefault» ⟨[.ref d,.ref a,v],[]⟩) (λA R s=>knd.room A.in1/\∃k xs,knd.is s.heap k a/\s.heap.DictOfH knd d xs/\xs.length<=sizeLine/\(∀p,atKey xs k=some p->R (.ok (.ret p.2)) {s with toks:=s.toks+knd.draws k})/\(atKey xs k=none->∀h',h'.DictOfH knd d (xs++[(k,a,v)])->Heap.SameBut d s.heap h'->R (.ok (.ret v)) {s with heap:=h',toks:=s.toks+knd.draws k})):=
 .of_wp λA R s ⟨hu,k,xs,hkey,hm,hz,h1,h2⟩=>by unfold Builtin.«dict.setdefault»;refine Ua ?_;unfold Builtin.Dict.keyAndDefault;refine Ua (RZ hm.typeIs ?_);show wpAny _ _ (pure (d,Value.ref a,some v)) _ _ s;refine Uc ?_;show wpAny _ _ (if (d==sysModules)=true then _ else (dictSetDefault d (.ref a) v >>= _)) _ _ s;rw[Uh (by rw[hd];exact Uj)];exact Ua (eG hu hkey hm hz (λp hp=>Uc ⟨p.2,rfl,h1 p hp⟩) λhn h' hm' hs'=>Uc ⟨v,rfl,h2 hn h' hm' hs'⟩)
end
def DE(h:Heap)(d:Addr)(es:Array DictEntry)(ep:Nat):Prop:=∃o,h.get? d=some o/\o.ExactDict/\o.data=.dict es ep
theorem DE.typeIs{s:Shared}{d:Addr}{es:Array DictEntry}{ep:Nat}(x:DE s.heap d es ep):s.TypeIs (.ref d) "dict":=let ⟨o,ho,hc,_⟩:=x;⟨o,ho,hc.1⟩
section
variable{prog:Program}{w:World}{A:Around}{E:VP}{s:Shared}
def itIs(b:Bool)(h:Heap)(it d:Addr)(i n ep:Nat):Prop:=if b=true then h.IsValIter it d i n ep else h.IsKeyIter it d i n ep
theorem next_item(b:Bool){it d:Addr}{i ep:Nat}{es:Array DictEntry}{Q:Option Value->Shared->Prop}(hit:itIs b s.heap it d i es.size ep)(hm:DE s.heap d es ep)(hi:i<es.size)(hQ:∀h',itIs b h' it d (i+1) es.size ep->Heap.SameBut it s.heap h'->Q (some (if b=true then es[i].val else es[i].key)) {s with heap:=h'}):wpAny (model prog w) A (pyNext (.ref it)) Q E s:=by
 cases b;all_goals
  obtain⟨o,ho,hc,hd⟩:=id hit;obtain⟨od,hod,_,hdd⟩:=hm;have hT:s.TypeIs (.ref it) _:=⟨o,ho,hc⟩;have ow1:Builtin.Dict_items.ownsTuple "dict_keyiterator"=false:=by decide
  have ow2:Builtin.Dict_items.ownsTuple "dict_valueiterator"=false:=by decide
  have Za:∃o',(s.heap.update it (Obj.mapFields (·.setIfInBounds 1 (rawInt ((i:Int)+1))))).get? it=some o'/\o'.cls=_/\o'.data=.fields #[.ref d,.int ((i+1:Nat):Int) 0,.int es.size 0,.int ep 0]:=⟨_,RY _ ho (Obj.isFreed_of_fields (Bv hd _)),(Obj.cls_mapFields ..).trans hc,by rw[Bv hd];simp[rawInt]⟩
  have uT:({s with heap:=s.heap.update it (Obj.mapFields (·.setIfInBounds 1 (rawInt ((i:Int)+1))))}:Shared).TypeIs (.ref it) _:=let ⟨o',a,c,_⟩:=Za;⟨o',a,c⟩;unfold pyNext;first
   |refine Ua (Wb (U0 (name:=Str.ofString "__next__") hT TK (UW TK hT W9 ?_ (W4 _))))
   |refine Ua (Wb (U0 (name:=Str.ofString "__next__") hT Tz (UW Tz hT WR ?_ (WD _))))
  refine Ua (Uc (Ua (Ua ?_)));first|refine Ua (T9 hT (Uc ?_))|refine Ua (Ra hT (Uc ?_))
  refine Ua (wpAny_fieldsOf ho hd ?_);simp only[ow1,ow2,UU,Rn];show wpAny _ _ (if (Value.ref d==Value.none)=true then _ else _) _ _ s;rw[Uh (show ¬((Value.ref d==Value.none)=true) from Uj)];refine Ua (Uc (Ua (RI hod hdd ?_)));rw[Uh (by simp)];refine Ua (Uc (Ua (Bg hod hdd ?_)));rw[Uh (by simp)];refine Uc ?_;simp only[show ¬((i:Int)<0) from by omega,Rn,TH,BF hi];refine Ua ?_;first|refine Ua (T9 hT (Uc ?_))|refine Ua (Ra hT (Uc ?_))
  first|refine Ua (wpAny_isOneOf_keyiter hT ?_)|refine Ua (WW hT ?_)
  show wpAny _ _ (setField (.ref it) 1 (rawInt ((i:Int)+1)) >>= _) _ _ s;refine Ua (WN ho hd (by simp) (Ua (Tt ?_)));first
   | (refine Ua (WW uT ?_);refine Ua (WW uT ?_))
   |refine Ua (wpAny_isOneOf_keyiter uT ?_)
  first|show wpAny _ _ (pure es[i].key) _ _ _|show wpAny _ _ (pure es[i].val) _ _ _
  exact Uc (Uc ⟨_,rfl,Uc (hQ _ Za (TF ..))⟩)
theorem next_end(b:Bool){it d:Addr}{i ep:Nat}{es:Array DictEntry}{Q:Option Value->Shared->Prop}(hh:A.handled=none)(hit:itIs b s.heap it d i es.size ep)(hm:DE s.heap d es ep)(hi:es.size<=i)(hQ:∀h',Heap.ExtBut it s.heap h'->Q none {s with heap:=h'}):wpAny (model prog w) A (pyNext (.ref it)) Q E s:=by
 cases b;all_goals
  obtain⟨o,ho,hc,hd⟩:=id hit;obtain⟨od,hod,_,hdd⟩:=hm;have hT:s.TypeIs (.ref it) _:=⟨o,ho,hc⟩;have ow1:Builtin.Dict_items.ownsTuple "dict_keyiterator"=false:=by decide
  have ow2:Builtin.Dict_items.ownsTuple "dict_valueiterator"=false:=by decide
  unfold pyNext;first
   |refine Ua (Wb (U0 (name:=Str.ofString "__next__") hT TK (UW TK hT W9 ?_ (W4 _))))
   |refine Ua (Wb (U0 (name:=Str.ofString "__next__") hT Tz (UW Tz hT WR ?_ (WD _))))
  refine Ua (Uc (Ua (Ua ?_)));first|refine Ua (T9 hT (Uc ?_))|refine Ua (Ra hT (Uc ?_))
  refine Ua (wpAny_fieldsOf ho hd ?_);simp only[ow1,ow2,UU,Rn];show wpAny _ _ (if (Value.ref d==Value.none)=true then _ else _) _ _ s;rw[Uh (show ¬((Value.ref d==Value.none)=true) from Uj)];refine Ua (Uc (Ua (RI hod hdd ?_)));rw[Uh (by simp)];refine Ua (Uc (Ua (Bg hod hdd ?_)));rw[Uh (by simp)];refine Uc ?_;simp only[show ¬((i:Int)<0) from by omega,Rn,TH,WH hi];refine Ua ?_;first|refine Ua (T9 hT (Uc ?_))|refine Ua (Ra hT (Uc ?_))
  show wpAny _ _ (setField (.ref it) 0 .none >>= _) _ _ s;refine Ua (WN ho hd (by simp) ?_);show wpAny _ _ (newExc (.type "StopIteration") [] >>= _) _ _ _;simp only[newExc,newTuple];refine Ua (Ua (UP (Ua (m:=firstArgMember _ _) (RJ (a:=Value.none) (by first|rfl|(simp only[firstArgMember];rfl)) (UP ?_ (by size_fits)))) (by size_fits)));simp only[raiseNew];refine Ua (wpAny_handled ?_);rw[show A.in1.handled=none from hh];refine Ua (Uc (wpAny_throw ?_));refine Ua (T7 (T:="StopIteration") (b:=true) ⟨_,Uu _ rfl,rfl⟩ isSubtype_stop ?_);exact Uc (hQ _ (((TF ..).extBut.push _).push _))
theorem iterK{d:Addr}{es:Array DictEntry}{ep:Nat}{Q:VP}(hs:(d==sysModules)=false)(hm:DE s.heap d es ep)(hQ:Q (.ref s.heap.objs.size) {s with heap:=s.heap.push {cls:=.type "dict_keyiterator",data:=.fields #[.ref d,.int 0 0,.int es.size 0,.int ep 0]} }):wpAny (model prog w) A (pyIter (.ref d)) Q E s:=by have hT:=hm.typeIs;obtain⟨o,ho,_,hd⟩:=hm;refine BJ hT F.slot_dict_iter (UW F.slot_dict_iter hT F.entry_dict_iter ?_ (F.args_dict_iter_1 _));unfold Builtin.«dict.__iter__» Builtin.Dict.dictSlotNone;refine Ua (Ua (RZ hT ?_));show wpAny _ _ (pure (Value.ref d)) _ _ s;refine Uc ?_;show wpAny _ _ (Builtin.Dict.showsAll d >>= _) _ _ s;unfold Builtin.Dict.showsAll;rw[Uh (by rw[hs];exact Uj)];refine Ua (Uc (Ua (RI ho hd (Ua (Bg ho hd (Ua (UP (Uc ⟨_,rfl, "dict_keyiterator",_,⟨_,Uu _ rfl,rfl⟩,TK.lookup,?_⟩))))))));simpa[rawInt]using hQ
theorem valuesK{d:Addr}(hs:(d==sysModules)=false):MeetsIn prog w (Builtin.«dict.values» ⟨[.ref d],[]⟩) (λ_ R s=>(∃es ep,DE s.heap d es ep)/\R (.ok (.ret (.ref s.heap.objs.size))) {s with heap:=s.heap.push {cls:=.type "dict_values",data:=.fields #[.ref d]} }):=
 .of_wp λA R s ⟨⟨es,ep,hm⟩,h⟩=>by refine Ua ?_;unfold Builtin.Dict.noArgs;refine Ua (RZ hm.typeIs ?_);show wpAny _ _ (pure d) _ _ s;refine Uc ?_;show wpAny _ _ (Builtin.Dict.showsAll d >>= _) _ _ s;unfold Builtin.Dict.showsAll;rw[Uh (by rw[hs];exact Uj)];exact Ua (Uc (Ua (UP (Uc ⟨_,rfl,h⟩))))
theorem iterV{v d:Addr}{es:Array DictEntry}{ep:Nat}{Q:VP}(hv:s.heap.IsValuesView v d)(hm:DE s.heap d es ep)(hQ:Q (.ref s.heap.objs.size) {s with heap:=s.heap.push {cls:=.type "dict_valueiterator",data:=.fields #[.ref d,.int 0 0,.int es.size 0,.int ep 0]} }):wpAny (model prog w) A (pyIter (.ref v)) Q E s:=by
 obtain⟨ov,hov,_,hdv⟩:=id hv;obtain⟨o,ho,_,hd⟩:=hm;have own:Builtin.Dict_items.ownsTuple "dict_valueiterator"=false:=by decide
 refine BJ hv.typeIs F.slot_dict_values_iter (UW F.slot_dict_values_iter hv.typeIs F.entry_dict_values_iter ?_ (F.args_dict_values_iter_1 _));unfold Builtin.«dict_values.__iter__» Builtin.Dict_items.dictOf Builtin.Dict_items.newIterator;refine Ua (Uc (Ua (Ua (Rh hov hdv (x:=.ref d) rfl (Uc (Ua (Ua (RI ho hd (Ua (Bg ho hd ?_))))))))));simp only[own,UU,Rn];refine UP (Uc ⟨_,rfl, "dict_valueiterator",_,⟨_,Uu _ rfl,rfl⟩,Tz.lookup,?_⟩);simpa[rawInt]using hQ
end
section
variable{prog:Program}{w:World}{A:Around}{E:VP}{s:Shared}
def Fh(prog:Program)(w:World)(dep:Nat)(h:Heap)(o:Option Bool)(p:Value×Value):Prop:=∀{A:Around}{E:VP}{s:Shared},s.heap=h->A.units+dep<cLine->(∀{Q:Bool->Shared->Prop},Q o.isNone s->wpAny (model prog w) A (PySem.eqBool p.1 p.2) Q E s)/\∀r,o=some r->∀{Q:VP},Q (.bool r) s->wpAny (model prog w) A (PySem.richCompare .Lt p.1 p.2) Q E s
def Jz(z:Bool):List (Option Bool)->Bool
 |[]=>z|none::r=>Jz z r|some b::_=>b
theorem O5{dep:Nat}{a c:Addr}{us vs:List Value}{os:List (Option Bool)}{Q:VP}(hu:A.units+(dep+1)<cLine)(hx:Tp s.heap a us)(hy:Tp s.heap c vs)(hi:Al (Fh prog w dep s.heap) os (us.zip vs))(h:Q (.bool (Jz (decide (us.length<vs.length)) os)) s):wpAny (model prog w) A (PySem.richCompare .Lt (.ref a) (.ref c)) Q E s:=by
 have hTa:=hx.typeIs;have hTb:=hy.typeIs;obtain⟨oa,xs,na,hoa,_,hda,rfl⟩:=hx;obtain⟨ob,ys,nb,hob,_,hdb,rfl⟩:=hy;refine Bn (op:=.Lt) hTa hTb F.slot_tuple_lt (UW F.slot_tuple_lt hTa F.entry_tuple_lt ?_ (F.args_tuple_lt_2 _ _)) (by omega);show wpAny _ _ (isInstance (.ref c) (.type "tuple") >>= _) _ _ s;refine Ua (T7 hTb WV ?_);simp only[RK,UU,Rn];refine Ua (Ru hoa hda ?_);refine Ua (Ru hob hdb ?_);refine Ua ?_;refine Wn _
  (λrest q s'=>q.1=none/\s'=s/\∃os',Al (Fh prog w dep s.heap) os' rest/\Jz (decide (xs.toList.length<ys.toList.length)) os'=Jz (decide (xs.toList.length<ys.toList.length)) os)
  _ ?_ ?_ _ _ ⟨rfl,rfl,os,hi,rfl⟩
 ·rintro ⟨u,v⟩ rest q s' ⟨hq,rfl,os',hb,hdec⟩;cases hb with
  |@cons o1 _ os'' _ h1 hb'=>
   obtain⟨he,hl⟩:=h1 (A:=A.in1) (E:=E) (s:=s') rfl (by show A.units+1+dep<cLine;omega);refine Ua (he ?_);cases o1 with
   |none =>simp only[Option.isNone_none,RK,UU,Rn];exact Uc ⟨rfl,rfl,os'',hb',hdec⟩|some r =>simp only[Option.isNone_some,Bz,W6];have hf:Jz (decide (xs.toList.length<ys.toList.length)) os=r:=hdec.symm;rw[hf]at h;refine Ua (TC ?_);refine Ua (hl r rfl ?_);exact Ua (Uc (Uc (Uc ⟨_,rfl,(λe=>nomatch e),h⟩)))
 ·rintro ⟨r1,r2⟩ s' ⟨hq,rfl,os',hb,hdec⟩;simp only at hq;subst hq;cases hb;refine Uc ⟨_,rfl,(λe=>nomatch e),?_⟩;have e:Jz (decide (xs.toList.length<ys.toList.length)) os=decide (xs.size<ys.size):=by rw[<-hdec];simp[Jz]
  rw[e]at h;exact h
end
abbrev tuples'(b:Bool):SortKind:=(sortPriv% PySem.Builtin.KeyKind.tuples) b
theorem ES(b:Bool)(x y:Value):keyLt' (tuples' b) x y=(do
  let xs <-Builtin.List.listItems x;let ys <-Builtin.List.listItems y
  for ((p,q),i) in (xs.toList.zip ys.toList).zipIdx do
   if !(<-eqBool p q) then return <-oneLt' (b&&i==0) p q
  return xs.size<ys.size):=rfl
section
variable{prog:Program}{w:World}{A:Around}{E:VP}{s:Shared}
theorem G0(hl:∀{Q:VP},Q (.bool r) s->wpAny (model prog w) A (PySem.richCompare .Lt u v) Q E s)(h:Q r s):wpAny (model prog w) A (oneLt' false u v) Q E s:=by rw[oneLt'_eq];simp only[UU,Rn];exact Ua (hl (Tf h))
theorem Fi{dep:Nat}{a c:Addr}{us vs:List Value}{os:List (Option Bool)}{b:Bool}{Q:Bool->Shared->Prop}(hu:A.units+dep<cLine)(hx:Tp s.heap a us)(hy:Tp s.heap c vs)(hi:Al (Fh prog w dep s.heap) os (us.zip vs))(hb:b=true->∀u v r,(us.zip vs).head?=some (u,v)->os.head?=some (some r)->∀{Q:Bool->Shared->Prop},Q r s->wpAny (model prog w) A (oneLt' true u v) Q E s)(h:Q (Jz (decide (us.length<vs.length)) os) s):wpAny (model prog w) A (keyLt' (tuples' b) (.ref a) (.ref c)) Q E s:=by
 obtain⟨oa,xs,na,hoa,_,hda,rfl⟩:=hx;obtain⟨ob,ys,nb,hob,_,hdb,rfl⟩:=hy;rw[ES];refine Ua (listItems_at hoa hda ?_);refine Ua (listItems_at hob hdb ?_);refine Ua ?_;refine Wn _
  (λrest q s'=>q.1=none/\s'=s/\∃(j:Nat)(L:List (Value×Value))(os':List (Option Bool)),rest=L.zipIdx j/\Al (Fh prog w dep s.heap) os' L/\Jz (decide (xs.toList.length<ys.toList.length)) os'=Jz (decide (xs.toList.length<ys.toList.length)) os/\(j=0->L=xs.toList.zip ys.toList/\os'=os))
  _ ?_ ?_ _ _ ⟨rfl,rfl,0,_,os,rfl,hi,rfl,λ_=>⟨rfl,rfl⟩⟩
 ·rintro ⟨⟨u,v⟩,i⟩ rest q s' ⟨hq,rfl,j,L,os',hL,hal,hdec,hj⟩;cases hal with
  |nil=>cases hL|@cons o1 p os'' L' h1 hb'=>
   rw[BZ]at hL;injection hL with e1 e2;injection e1 with e3 e4;subst e3 e4 e2;obtain⟨he,hl⟩:=h1 (A:=A) (E:=E) (s:=s') rfl hu;refine Ua (he ?_);cases o1 with
   |none =>simp only[Option.isNone_none,RK,UU,Rn];exact Uc ⟨rfl,rfl,i+1,L',os'',rfl,hb',hdec,λz=>absurd z (Nat.succ_ne_zero _)⟩|some r=>
    simp only[Option.isNone_some,Bz,W6];have hf:Jz (decide (xs.toList.length<ys.toList.length)) os=r:=hdec.symm;rw[hf]at h;have key:wpAny (model prog w) A (oneLt' (b&&i==0) u v) (λr' s2=>r'=r/\s2=s') E s':=by
     cases hbz:(b&&i==0) with
     |false=>exact G0 (hl r rfl) ⟨rfl,rfl⟩|true =>rw[UN]at hbz;obtain⟨q1,q2⟩:=hj (by simpa using hbz.2);exact hb hbz.1 u v r (by rw[<-q1];rfl) (by rw[<-q2];rfl) ⟨rfl,rfl⟩
    refine Ua (Rw key (λr' s2 z=>?_) λ_ _ e=>e);obtain⟨rfl,rfl⟩:=z;exact Uc (Uc h)
 ·rintro ⟨r1,r2⟩ s' ⟨hq,rfl,j,L,os',hL,hal,hdec,hj⟩;simp only at hq;subst hq;cases hal with
  |cons _ _=>rw[BZ]at hL;cases hL|nil=>
   have e:Jz (decide (xs.toList.length<ys.toList.length)) os=decide (xs.size<ys.size):=by rw[<-hdec];simp[Jz]
   rw[e]at h;exact Uc h
end
end NK
namespace NZ
open PySem PyProof.Rows
def kr(rk:Value->Int)(xs:Array Keyed)(i:Nat):Int:=match xs[i]? with
 |some p=>rk p.1|none=>0
def Up(rk:Value->Int)(xs:Array Keyed)(k:Nat):Prop:=∀i j,i<=j->j<k->kr rk xs i<=kr rk xs j
structure Ord(prog:Program)(w:World)(A:Around)(s:Shared)(kd:SortKind)(rk:Value->Int)(a₀:Array Keyed):Prop where
 lt:∀p q,p∈a₀.toList->q∈a₀.toList->∀{E:VP}{Q:Bool->Shared->Prop},Q (decide (rk p.1<rk q.1)) s->wpAny (model prog w) A (keyLt' kd p.1 q.1) Q E s
 ne:(a₀.toList.map λp=>rk p.1).Nodup
theorem qT{prog:Program}{w:World}{A:Around}{E:VP}{s:Shared}{kd:SortKind}{a₀:Array Keyed}{rk:Value->Int}{Q:Unit->SortSt->Prop}(O:Ord prog w A s kd rk a₀)(h:∀st',(arrOf st').Perm a₀->failedOf st'=none->Up rk (arrOf st') a₀.size->Q () st'):wpS (model prog w) A E s sortRuns' Q (SortSt.mk' kd a₀ #[] 7 none):=letI:SO.Rk:=⟨rk,λx=>x∈a₀.toList,kd⟩
 letI:SO.Cmp prog w A s:=⟨λx y hx hy=>O.lt x y hx hy⟩
 SO.wp_runs (a₀:=a₀) (λx hx=>Tx.mpr hx) ⟨rfl,rfl,List.Perm.refl _,rfl,Tv _⟩ h
section
variable{M:Model}{A:Around}{E:VP}{s:Shared}
theorem FX   : ∀(l:List α),(∀x∈l,∀{Q:β->Shared->Prop},Q (g x) s->wpAny M A (f x) Q E s)->∀{Q:List β->Shared->Prop},Q (l.map g) s->wpAny M A (l.mapM f) Q E s
 |[],_,Q,h=>by rw[List.mapM_nil];exact Uc h
 |x::l,hf,Q,h=>by rw[List.mapM_cons];exact Ua (hf x (Uy ..) (Ua (FX l (λy hy=>hf y (Uz _ hy)) (Uc h))))
end
section
variable{prog:Program}{w:World}{A:Around}{E:VP}{s:Shared}
theorem Kj(v:Value):firstOfTuple' v=(do
  if (<-typeOf v) != .type "tuple" then return none
  return (<-Builtin.List.listItems v)[0]?):=rfl
theorem kind_tup{vs:List Value}{fst:Value->Value}{T:String}{Q:SortKind->Shared->Prop}(hv:vs≠[])(h1:∀v∈vs,∃a us,v=.ref a/\NK.Tp s.heap a us/\us.head?=some (fst v))(h2:∀v∈vs,s.TypeIs (fst v) T)(h:Q (tuples' (Value.type T != .type "tuple")) s):wpAny (model prog w) A (keyKind' vs.toArray) Q E s:=by
 rw[keyKind'_eq,List.mapM_toArray];refine Ua (wpAny_map (FX (g:=λv=>some (fst v)) vs (λv hv Q hQ=>?_) ?_))
 ·obtain⟨a,us,rfl,ht,hu⟩:=h1 v hv;rw[Kj];refine Ua (Rr ht.typeIs ?_);rw[Uh (by simp)];obtain⟨o,items,n,ho,_,hd,rfl⟩:=ht;refine Ua (listItems_at ho hd (Uc ?_));have:items[0]?=some (fst (.ref a)):=by rw[<-Tr,<-List.head?_eq_getElem?];exact hu
  rw[this];exact hQ
 ·rw[Uf (by simp)];refine Ua (TC ?_);have e:(vs.map λv=>some (fst v)).toArray.filterMap id=(vs.map fst).toArray:=by
   rw[List.filterMap_toArray];congr 1;induction vs with
   |nil=>rfl|cons v r ih=>simp
  rw[e,oneTypeOnly'_eq,List.mapM_toArray];refine Ua (Ua (wpAny_map (FX (g:=λ_=>Value.type T) _ (λu hu Q hQ=>?_) ?_)))
  ·obtain⟨v,hv,rfl⟩:=UR.mp hu;exact Rr (h2 v hv) hQ
  ·have h0:(List.map (λ_=>Value.type T) (vs.map fst)).toArray[0]?=some (Value.type T):=by
    cases vs with
    |nil=>exact absurd rfl hv|cons v r=>simp
   rw[h0];dsimp only;rw[Uf (by simp)];exact Uc (Uc (by simpa using h))
theorem sort_tup{kd:SortKind}{rk:Value->Int}{a:Addr}{vs:List Value}{n:Nat}{P:Fin->Shared->Prop}(ho:s.heap.get? a=some (seqObj "list" vs.toArray n))(h64:vs.length<1000)(hO:∀h',(∀b o,b≠a->s.heap.get? b=some o->h'.get? b=some o)->Ord prog w A {s with heap:=h'} kd rk (pairsOf vs))(hK:2<=vs.length->∀h',(∀b o,b≠a->s.heap.get? b=some o->h'.get? b=some o)->∀{Q:SortKind->Shared->Prop},Q kd {s with heap:=h'}->wpAny (model prog w) A (keyKind' vs.toArray) Q E {s with heap:=h'})(h:∀st':SortSt,(arrOf st').Perm (pairsOf vs)->Up rk (arrOf st') (pairsOf vs).size->P (.done (.ret .none)) {s with heap:=sortedHeap s.heap a vs ((arrOf st').map (·.2))}):
  wpAny (model prog w) A (Builtin.«list.sort» ⟨[.ref a],[]⟩) P E s:=by
 rw[list_sort_plain];have ha:a<s.heap.objs.size:=UB ho;refine Ua (listItems_at ho rfl (Ua (listUpdate_at ho rfl ?_)));obtain⟨e1,ho1⟩:∃e1,(s.heap.update a (Obj.mapSeq λ_=>#[])).get? a=some (seqObj "list" #[] e1):=⟨_,get?_update_seq ho (λ_=>#[])⟩;refine Ua (seqEpoch_at ho1 rfl (Ua (wpAny_newTuple (Ua (wpAny_newList (Tt ?_))))));have keep:∀b o,b≠a->s.heap.get? b=some o->(((s.heap.update a (Obj.mapSeq λ_=>#[])).push (seqObj "tuple" vs.toArray 0)).push (seqObj "list" #[] 0)).get? b=some o:=λb o hb e=>
  Ub _ (Ub _ ((Heap.get?_update_ne _ _ _ _ hb).trans e))
 have ho6:(((s.heap.update a (Obj.mapSeq λ_=>#[])).push (seqObj "tuple" vs.toArray 0)).push (seqObj "list" #[] 0)).get? a=some (seqObj "list" #[] e1):=Ub _ (Ub _ ho1);show wpAny (model prog w) A _ P E {s with heap:=((s.heap.update a (Obj.mapSeq λ_=>#[])).push (seqObj "tuple" vs.toArray 0)).push (seqObj "list" #[] 0)};dsimp only;have hsz:vs.toArray.size=vs.length:=by simp
 by_cases h2:vs.toArray.size<2
 ·rw[Uf h2,Uf h2];refine Ua (Uc ?_);rw[StateT.run_pure];refine Ua (Uc ?_);dsimp only;refine Ua (seqEpoch_at ho6 rfl (Ua (listUpdate_at ho6 rfl ?_ (hsz2:=by rw[Array.size_map];show(pairsOf vs).size<=_;rw[pairsOf_size,TU];omega))));simp only[bne_self_eq_false,UU,Rn];refine Uc (h (SortSt.mk' general' (vs.toArray.zip vs.toArray) #[] 7 none) (Array.Perm.refl _) λi j hij hj=>?_);have:i=j:=by rw[pairsOf_size]at hj;omega
  subst this;exact Tw _
 ·rw[Uh h2,Uh h2];refine Ua (hK (by omega) _ keep ?_);refine Ua (Rw (qT (kd:=kd) (rk:=rk) (a₀:=pairsOf vs)
   (Q:=λ_ st'=>(arrOf st').Perm (pairsOf vs)/\failedOf st'=none/\Up rk (arrOf st') (pairsOf vs).size)
   (hO _ keep) λst' a1 a2 a3=>⟨a1,a2,a3⟩) ?_ λ_ _ e=>e)
  rintro ⟨⟨⟩,st'⟩ s' ⟨rfl,hp,hf,hs⟩;dsimp only;refine Ua (seqEpoch_at ho6 rfl (Ua (listUpdate_at ho6 rfl ?_ (hsz2:=by refine Uk (WP ((Array.size_map ..).trans (hp.size_eq.trans (pairsOf_size _)))) ?_;rw[TU];omega))));rw[hf];simp only[bne_self_eq_false,UU,Rn];exact Uc (h st' hp hs)
end
end NZ
namespace NK
open PySem PySem.W PyProof.Rows
section
variable{prog:Program}{w:World}{A:Around}{E:VP}{s:Shared}
theorem DE.at'(x:DE h d es ep)(k:∀o,h.get? d=some o->h'.get? d=some o):DE h' d es ep:=let ⟨o,ho,r⟩:=x;⟨o,k o ho,r⟩
theorem DE.lt(x:DE h d es ep):d<h.objs.size:=let ⟨_,ho,_⟩:=x;UB ho
theorem lE(hh:A.handled=none)(I d:Addr)(hne:d≠I)(es:Array DictEntry)(ep:Nat):Walks prog w A I [I,d] [I] es.size (λi v=>∃h:i<es.size,v=es[i].key) (λi h=>h.IsKeyIter I d i es.size ep/\DE h d es ep) where
 sub:=λb hb=>by simp at hb;simp[hb]
 frame:=λ_ _ _ st hk=>⟨st.1.at λo e=>hk I (by simp) o e,st.2.at' λo e=>hk d (by simp) o e⟩
 item:=λi s Q E hi st hQ=>next_item false st.1 st.2 hi λh' it' hs'=>hQ _ h' s.toks ⟨hi,rfl⟩ ⟨it',st.2.at' λo e=>hs'.extBut d o hne e⟩ λb o hb e=>hs'.extBut b o (λh=>hb (by simp[h])) e
 done:=λs Q E st hQ=>next_end false hh st.1 st.2 (Ug _) λh' he'=>hQ h' s.toks λb o hb e=>he' b o (λh=>hb (by simp[h])) e
 self:=λ_ _ _ _ st hQ=>wpAny_pyIter_keyiter st.1 hQ
theorem srcK(lo:(d==sysModules)=false):KdlSrc prog w "dict" d d es.size (λi v=>∃h:i<es.size,v=es[i].key) (λh=>DE h d es ep) where
 type:=λ_ hm=>hm.typeIs
 there:=λ_ hm=>⟨hm.lt,hm.lt⟩
 keep:=λ_ _ hm hk=>hm.at' λo e=>hk d (.inl rfl) o e
 notList:=by decide
 notTuple:=by decide
 hint:=λ_ _ _ _ hm hq=>kdl_hint_dict hm.typeIs hq
 iter:=λ_ _ hh hm=>⟨_,_,(λ_ _ hq=>iterK lo hm hq),lE hh _ d (UY hm.lt) es ep,⟨_,Uu _ rfl,rfl,rfl⟩,hm.at' λ_ e=>Ub _ e⟩
theorem IG{kd:SortKind}{rk:Value->Int}{r:Value}{vs:List Value}{Q:VP}(h64:vs.length<1000)(hc:∀{R:List Value->Shared->Prop},(∀h' tk,(∀b o,s.heap.get? b=some o->h'.get? b=some o)->R vs {s with heap:=h',toks:=tk})->wpAny (model prog w) A.in1 (collect r) R E s)(hO:∀h' tk,(∀b o,s.heap.get? b=some o->h'.get? b=some o)->NZ.Ord prog w A.in1.in1 {s with heap:=h',toks:=tk} kd rk (pairsOf vs))(hK:2<=vs.length->∀h' tk,(∀b o,s.heap.get? b=some o->h'.get? b=some o)->∀{Q:SortKind->Shared->Prop},Q kd {s with heap:=h',toks:=tk}->wpAny (model prog w) A.in1.in1 (keyKind' vs.toArray) Q E {s with heap:=h',toks:=tk})(h:∀(h1 h':Heap) (tk:Nat) (out:Array Keyed) (e:Nat),(∀b o,s.heap.get? b=some o->h1.get? b=some o)->(∀b o,h1.get? b=some o->h'.get? b=some o)->h'.get? h1.objs.size=some (seqObj "list" (out.map (·.2)) e)->out.Perm (pairsOf vs)->NZ.Up rk out (pairsOf vs).size->Q (.ref h1.objs.size) {s with heap:=h',toks:=tk}):
  wpAny (model prog w) A (call (.builtin "sorted") [r]) Q E s:=by
 refine Calls.call_function_entry kind_sorted plain_sorted entry_sorted (args_sorted1 _) ?_;unfold Builtin.«sorted»;refine Ua (m:=checkCount "sorted" 1 1 _) (Uc ?_);refine Ua (hc λh1 tk k1=>?_);refine Ua (wpAny_newList ?_);have hoL:(h1.push (seqObj "list" vs.toArray 0)).get? h1.objs.size=some (seqObj "list" vs.toArray 0):=Uu _ rfl;have k2:∀b o,s.heap.get? b=some o->(h1.push (seqObj "list" vs.toArray 0)).get? b=some o:=λb o e=>Ub _ (k1 b o e);have hne:∀b o,s.heap.get? b=some o->b≠h1.objs.size:=λb o e z=>absurd (UB (k1 b o e)) (by rw[z];exact TL _);refine Ua (Tt (UW slot_list_sort ⟨_,hoL,rfl⟩ entry_list_sort (NZ.sort_tup (kd:=kd) (rk:=rk) hoL h64 (λh' kk=>hO h' tk λb o e=>kk b o (hne b o e) (k2 b o e)) (λh2 h' kk Q hq=>hK h2 h' tk (λb o e=>kk b o (hne b o e) (k2 b o e)) hq) λst' a1 a2=>⟨_,rfl,?_⟩) (args_list_sort _)));obtain⟨e,he⟩:=sortedHeap_at (out:=(arrOf st').map (·.2)) hoL;refine Uc ⟨_,rfl,h h1 _ tk (arrOf st') e k1 (λb o eb=>?_) he a1 a2⟩;have hb:=UB eb;have hb2:b<(h1.push (seqObj "list" vs.toArray 0)).objs.size:=by rw[size_push'];exact Nat.lt_succ_of_lt hb
 rw[sortedHeap_old (UY hb) hb2];exact Ub _ eb
end
end NK
namespace NK
open PySem PyProof.Rows
section
variable{prog:Program}{w:World}{A:Around}{E:VP}{s:Shared}{K K2 K3 K4:Type}[DecidableEq K][DecidableEq K2][DecidableEq K3][DecidableEq K4]
structure OV(v:VK prog w K) where
 lt:K->K->Bool
 rich:∀{A:Around}{E:VP}{s:Shared}{x y:K}{u u':Value}{Q:VP},A.units+v.dep<cLine->v.is s.heap x u->v.is s.heap y u'->x≠y->Q (.bool (lt x y)) s->wpAny (model prog w) A (PySem.richCompare .Lt u u') Q E s
 irr:∀x,lt x x=false
 tr:∀x y z,lt x y=true->lt y z=true->lt x z=true
 tot:∀x y,x≠y->lt x y=true\/lt y x=true
def OV.cmp{v:VK prog w K}(o:OV v)(x y:K):Option Bool:=if x=y then none else some (o.lt x y)
theorem OV.at'{v:VK prog w K}(o:OV v){dep:Nat}{h:Heap}{x y:K}{u u':Value}(hd:v.dep<=dep)(hx:v.is h x u)(hy:v.is h y u'):Fh prog w dep h (o.cmp x y) (u,u'):=λ{A E s} e hu=>by
 subst e;unfold OV.cmp;by_cases z:x=y
 ·rw[Uf z];refine⟨λ{Q} hq=>v.eqBool (up hd hu) hx hy ?_,λr hr=>by cases hr⟩;rw[Us z];exact hq
 ·rw[Uh z];refine⟨λ{Q} hq=>v.eqBool (up hd hu) hx hy ?_,λr hr {Q} hq=>?_⟩
  ·rw[Uv z];exact hq
  ·cases hr;exact o.rich (up hd hu) hx hy z hq
def intO:OV (intV prog w) where
 lt:=λx y=>decide (x<y)
 rich:=λ{A E s x y u u' Q} _ hx hy _ h=>by obtain⟨t,rfl⟩:=RG hx;obtain⟨t',rfl⟩:=RG hy;exact wpAny_lt_int h
 irr:=λx=>Uv (Int.lt_irrefl x)
 tr:=λx y z h1 h2=>Us (Int.lt_trans (UC h1) (UC h2))
 tot:=λx y h=>by
  rcases Int.lt_or_gt_of_ne h with z|z
  ·exact .inl (Us z)
  ·exact .inr (Us z)
def XG(lt:K->K->Bool):List K->List K->Bool
 |[],[]=>false|[],_::_=>true|_::_,[]=>false|a::x,b::y=>if a=b then XG lt x y else lt a b
theorem IH{v:VK prog w K}(o:OV v):∀x y:List K,Jz (decide (x.length<y.length)) (List.zipWith o.cmp x y)=XG o.lt x y
 |[],[]=>rfl|[],_::_=>by simp[Jz,XG]
 |_::_,[]=>by simp[Jz,XG]
 |a::x,b::y=>by
  rw[B7];unfold XG OV.cmp;by_cases h:a=b
  ·rw[Uf h,Uf h,<-IH o x y];simp[Jz];rfl
  ·rw[Uh h,Uh h];rfl
theorem G1:∀x:List K,XG lt x x=false
 |[]=>rfl|a::x=>by unfold XG;rw[Uf rfl];exact G1 x
theorem G2(ht:∀x y,x≠y->lt x y=true\/lt y x=true):∀x y:List K,x≠y->XG lt x y=true\/XG lt y x=true
 |[],[],h=>absurd rfl h|[],_::_,_=>.inl rfl|_::_,[],_=>.inr rfl|a::x,b::y,h=>by
  unfold XG;by_cases e:a=b
  ·subst e;rw[Uf rfl,Uf rfl];exact G2 ht x y λz=>h (by rw[z])
  ·rw[Uh e,Uh (Ne.symm e)];exact ht a b e
theorem LM(hi:∀x,lt x x=false)(ht:∀x y z,lt x y=true->lt y z=true->lt x z=true):∀x y z:List K,XG lt x y=true->XG lt y z=true->XG lt x z=true
 |[],_,[],h1,h2=>by
  rename_i y;cases y with
  |nil=>cases h1|cons _ _=>cases h2
 |[],_,_::_,_,_=>rfl|_::_,[],_,h1,_=>by cases h1
 |_::_,_::_,[],_,h2=>by cases h2
 |a::x,b::y,c::z,h1,h2=>by
  unfold XG at h1 h2 ⊢;by_cases e1:a=b
  ·subst e1;rw[Uf rfl]at h1;by_cases e2:a=c
   ·subst e2;rw[Uf rfl]at h2 ⊢;exact LM hi ht x y z h1 h2
   ·rw[Uh e2]at h2 ⊢;exact h2
  ·rw[Uh e1]at h1;by_cases e2:b=c
   ·subst e2;rw[Uh e1];exact h1
   ·rw[Uh e2]at h2;have h3:=ht a b c h1 h2;by_cases e3:a=c
    ·subst e3;rw[hi]at h3;cases h3
    ·rw[Uh e3];exact h3
theorem O6{v:VK prog w K}(o:OV v){h:Heap}:∀{x y:List K}{us vs:List Value},Al (v.is h) x us->Al (v.is h) y vs->Al (Fh prog w v.dep h) (List.zipWith o.cmp x y) (us.zip vs):=by
 intro x y us vs a;induction a generalizing y vs with
 |nil=>intro b;simpa using Al.nil
 |cons a1 a2 ih=>
  intro b;cases b with
  |nil=>simpa using Al.nil
  |cons b1 b2=>exact .cons (o.at' (Ug _) a1 b1) (ih b2)
def lF{v:VK prog w K}(o:OV v):OV (lstV v) where
 lt:=XG o.lt
 rich:=λ{A E s x y u u' Q} hu hx hy _ h=>by obtain⟨a,us,rfl,t1,i1⟩:=hx;obtain⟨b,vs,rfl,t2,i2⟩:=hy;refine O5 hu t1 t2 (O6 o i1 i2) ?_;rw[<-i1.len,<-i2.len,IH];exact h
 irr:=G1
 tr:=LM o.irr o.tr
 tot:=G2 o.tot
end
section
variable{prog:Program}{w:World}{K K2 K3 K4:Type}[DecidableEq K][DecidableEq K2][DecidableEq K3][DecidableEq K4]
def bA(a:VK prog w K)(b:VK prog w K2)(c:VK prog w K3)(d:VK prog w K4):VK prog w (K×K2×K3×K4) where
 is:=λh k u=>∃r x y z t,u=.ref r/\Tp h r [x,y,z,t]/\a.is h k.1 x/\b.is h k.2.1 y/\c.is h k.2.2.1 z/\d.is h k.2.2.2 t
 hash:=λk=>reduceHash (Builtin.Tuple.tupleHashOf [a.hash k.1,b.hash k.2.1,c.hash k.2.2.1,d.hash k.2.2.2])
 draws:=λk=>a.draws k.1+(b.draws k.2.1+(c.draws k.2.2.1+d.draws k.2.2.2))+1
 dep:=max a.dep (max b.dep (max c.dep d.dep))+1
 inj:=λ{h u x y} hx hy=>by obtain⟨r,x1,x2,x3,x4,rfl,t1,i1,i2,i3,i4⟩:=hx;obtain⟨r',y1,y2,y3,y4,e,t2,j1,j2,j3,j4⟩:=hy;injection e with e;subst e;have:=t1.inj t2;injection this with e1 this;injection this with e2 this;injection this with e3 this;injection this with e4 this;subst e1 e2 e3 e4;obtain⟨k1,k2,k3,k4⟩:=x;obtain⟨l1,l2,l3,l4⟩:=y;rw[show k1=l1 from a.inj i1 j1,show k2=l2 from b.inj i2 j2,show k3=l3 from c.inj i3 j3,show k4=l4 from d.inj i4 j4]
 keeps:=λ{h h' k u} hx kp=>by obtain⟨r,x1,x2,x3,x4,rfl,t1,i1,i2,i3,i4⟩:=hx;exact⟨r,x1,x2,x3,x4,rfl,t1.keeps kp,a.keeps i1 kp,b.keeps i2 kp,c.keeps i3 kp,d.keeps i4 kp⟩
 pyHash:=λ{A E s k u Q} hu hx h=>by obtain⟨r,x1,x2,x3,x4,rfl,t1,i1,i2,i3,i4⟩:=hx;refine GZ (ps:=[(a.hash k.1,a.draws k.1),(b.hash k.2.1,b.draws k.2.1),(c.hash k.2.2.1,c.draws k.2.2.1),(d.hash k.2.2.2,d.draws k.2.2.2)]) hu t1 (.cons (λ{A E s Q} e hu h=>a.pyHash (up (by omega) hu) (by rw[e];exact i1) h) (.cons (λ{A E s Q} e hu h=>b.pyHash (up (by omega) hu) (by rw[e];exact i2) h) (.cons (λ{A E s Q} e hu h=>c.pyHash (up (by omega) hu) (by rw[e];exact i3) h) (.cons (λ{A E s Q} e hu h=>d.pyHash (up (by omega) hu) (by rw[e];exact i4) h) .nil)))) ?_;simpa[Nj]using h
 eqBool:=λ{A E s x y u z Q} hu hx hy h=>by
  obtain⟨r,x1,x2,x3,x4,rfl,t1,i1,i2,i3,i4⟩:=hx;obtain⟨r',y1,y2,y3,y4,rfl,t2,j1,j2,j3,j4⟩:=hy;obtain⟨k1,k2,k3,k4⟩:=x;obtain⟨l1,l2,l3,l4⟩:=y;refine O3 (bs:=[decide (k1=l1),decide (k2=l2),decide (k3=l3),decide (k4=l4)]) hu t1 t2 (.cons (λ{A E s Q} e hu h=>a.eqBool (up (by omega) hu) (by rw[e];exact i1) (by rw[e];exact j1) h) (.cons (λ{A E s Q} e hu h=>b.eqBool (up (by omega) hu) (by rw[e];exact i2) (by rw[e];exact j2) h) (.cons (λ{A E s Q} e hu h=>c.eqBool (up (by omega) hu) (by rw[e];exact i3) (by rw[e];exact j3) h) (.cons (λ{A E s Q} e hu h=>d.eqBool (up (by omega) hu) (by rw[e];exact i4) (by rw[e];exact j4) h) .nil)))) ?_ (λe=>?_) h
  ·simp only[Prod.mk.injEq,Bool.decide_and,Ws,List.all_nil,Bool.and_true,id,UJ,beq_self_eq_true]
  ·subst e;have:=t1.inj t2;injection this with e1 this;injection this with e2 this;injection this with e3 this;injection this with e4 this;subst e1 e2 e3 e4;have q1:k1=l1:=a.inj i1 j1;have q2:k2=l2:=b.inj i2 j2;have q3:k3=l3:=c.inj i3 j3;have q4:k4=l4:=d.inj i4 j4;simp[q1,q2,q3,q4]
 quiet:=λ{A E s k u Q} n hn hx h=>by
  obtain⟨r,x1,x2,x3,x4,rfl,t1,i1,i2,i3,i4⟩:=hx;obtain⟨n,rfl⟩:∃j,n=j+1:=⟨n-1,by omega⟩;refine Fg n t1 (λv' hv' {A E Q} q=>?_) h;rcases UG.mp hv' with rfl|hv'
  ·exact a.quiet n (by omega) i1 q
  rcases UG.mp hv' with rfl|hv'
  ·exact b.quiet n (by omega) i2 q
  rcases UG.mp hv' with rfl|hv'
  ·exact c.quiet n (by omega) i3 q
  rw[Ui.mp hv'];exact d.quiet n (by omega) i4 q
def VM{va:VK prog w K}{vb:VK prog w K2}{vc:VK prog w K3}{vd:VK prog w K4}(a:OV va)(b:OV vb)(c:OV vc)(d:OV vd)(x y:K×K2×K3×K4):List (Option Bool):=[a.cmp x.1 y.1,b.cmp x.2.1 y.2.1,c.cmp x.2.2.1 y.2.2.1,d.cmp x.2.2.2 y.2.2.2]
theorem VN{v:VK prog w K}(o:OV v){z:Bool}{x y:K}{r:List (Option Bool)}:Jz z (o.cmp x y::r)=if x=y then Jz z r else o.lt x y:=by
 unfold OV.cmp;by_cases h:x=y
 ·rw[Uf h,Uf h];rfl
 ·rw[Uh h,Uh h];rfl
theorem Cz{v:VK prog w K}(o:OV v){x y z:K}{p q r:Bool}(h:p=true->q=true->r=true)(h1:(if x=y then p else o.lt x y)=true)(h2:(if y=z then q else o.lt y z)=true):(if x=z then r else o.lt x z)=true:=by
 by_cases e1:x=y
 ·subst e1;rw[Uf rfl]at h1;by_cases e2:x=z
  ·subst e2;rw[Uf rfl]at h2 ⊢;exact h h1 h2
  ·rw[Uh e2]at h2 ⊢;exact h2
 ·rw[Uh e1]at h1;by_cases e2:y=z
  ·subst e2;rw[Uh e1];exact h1
  ·rw[Uh e2]at h2;have h3:=o.tr x y z h1 h2;by_cases e3:x=z
   ·subst e3;rw[o.irr]at h3;cases h3
   ·rw[Uh e3];exact h3
theorem VO{v:VK prog w K}(o:OV v){x y:K}{p q:Bool}(h:x=y->p=true\/q=true):(if x=y then p else o.lt x y)=true\/(if y=x then q else o.lt y x)=true:=by
 by_cases e:x=y
 ·rw[Uf e,Uf e.symm];exact h e
 ·rw[Uh e,Uh (Ne.symm e)];exact o.tot x y e
def lG{va:VK prog w K}{vb:VK prog w K2}{vc:VK prog w K3}{vd:VK prog w K4}(a:OV va)(b:OV vb)(c:OV vc)(d:OV vd):OV (bA va vb vc vd) where
 lt:=λx y=>Jz false (VM a b c d x y)
 rich:=λ{A E s x y u u' Q} hu hx hy _ h=>by obtain⟨r,x1,x2,x3,x4,rfl,t1,i1,i2,i3,i4⟩:=hx;obtain⟨r',y1,y2,y3,y4,rfl,t2,j1,j2,j3,j4⟩:=hy;exact O5 (os:=VM a b c d x y) hu t1 t2 (.cons (a.at' (by omega) i1 j1) (.cons (b.at' (by omega) i2 j2) (.cons (c.at' (by omega) i3 j3) (.cons (d.at' (by omega) i4 j4) .nil)))) h
 irr:=λx=>by unfold VM;simp only[VN,W6];rfl
 tr:=λx y z h1 h2=>by unfold VM at h1 h2 ⊢;simp only[VN]at h1 h2 ⊢;exact Cz a (λp q=>Cz b (λp q=>Cz c (λp q=>Cz d (λp _=>p) p q) p q) p q) h1 h2
 tot:=λx y h=>by unfold VM;simp only[VN];exact VO a λe1=>VO b λe2=>VO c λe3=>VO d λe4=>absurd (jC e1 (jC e2 (jC e3 e4))) h
end
theorem LN{α:Type}{p q:α->Bool}(h:∀x,p x=true->q x=true):∀l:List α,(l.filter p).length<=(l.filter q).length
 |[]=>Ug _|x::l=>by
  have ih:=LN h l;rw[W8,W8];by_cases hp:p x=true
  ·rw[Uf hp,Uf (h x hp)];simpa using ih
  ·rw[Uh hp];split
   ·simp;omega
   ·exact ih
theorem LO{α:Type}{p q:α->Bool}(h:∀x,p x=true->q x=true):∀{l:List α}{a:α},a∈l->p a=false->q a=true->(l.filter p).length<(l.filter q).length
 |x::l,a,hm,h1,h2=>by
  rw[W8,W8];rcases UG.mp hm with rfl|hm
  ·rw[Uh (by rw[h1];exact Uj),Uf h2];have:=LN h l;simp;omega
  ·have ih:=LO h hm h1 h2;by_cases hp:p x=true
   ·rw[Uf hp,Uf (h x hp)];simpa using ih
   ·rw[Uh hp];split
    ·simp;omega
    ·exact ih
section
variable{prog:Program}{w:World}{K:Type}[DecidableEq K]{v:VK prog w K}
def OV.rank(o:OV v)(ks:List K)(x:K):Nat:=(ks.filter λy=>o.lt y x).length
theorem OV.rank_lt(o:OV v){ks:List K}{x y:K}(hx:x∈ks):o.lt x y=true->o.rank ks x<o.rank ks y:=λh=>
 LO (λz hz=>o.tr z x y hz h) hx (o.irr x) h
theorem OV.rank_iff(o:OV v)(hx:x∈ks)(hy:y∈ks):o.rank ks x<o.rank ks y↔o.lt x y=true:=by
 refine⟨λh=>?_,o.rank_lt hx⟩;by_cases e:x=y
 ·subst e;exact absurd h (TL _)
 ·rcases o.tot x y e with z|z
  ·exact z
  ·have:=o.rank_lt hy z;omega
theorem OV.rank_inj(o:OV v)(hx:x∈ks)(hy:y∈ks)(h:o.rank ks x=o.rank ks y):x=y:=by
 by_cases e:x=y
 ·exact e
 ·rcases o.tot x y e with z|z
  ·have:=o.rank_lt hx z;omega
  ·have:=o.rank_lt hy z;omega
open Classical in
def OV.rk(o:OV v)(h:Heap)(ks:List K)(u:Value):Int:=if e:∃x,v.is h x u then (o.rank ks e.choose:Nat) else 0
theorem OV.rk_eq(o:OV v)(hx:v.is h x u):o.rk h ks u=(o.rank ks x:Nat):=by have e:∃x,v.is h x u:=⟨x,hx⟩;unfold OV.rk;rw[iS e,v.inj e.choose_spec hx]
theorem Al.has(h:Al R as bs):∀b∈bs,∃a∈as,R a b:=by
 induction h with
 |nil=>intro b hb;cases hb|cons r _ ih=>
  intro b hb;rcases UG.mp hb with rfl|hb
  ·exact⟨_,Uy ..,r⟩
  ·obtain⟨a,h1,h2⟩:=ih b hb;exact⟨a,Uz _ h1,h2⟩
theorem O7(o:OV v)  : ∀{ks:List K}{vs:List Value},Al (v.is h) ks vs->(vs.map λu=>o.rk h ls u)=ks.map λx=>((o.rank ls x:Nat):Int)
 |_,_,.nil=>rfl|_,_,.cons a b=>by rw[UH,UH,o.rk_eq a,O7 o b]
theorem AW(p:vs.Perm us):∀{ks:List α},Al R ks vs->∃ls:List α,ls.Perm ks/\Al R ls us:=by
 induction p with
 |nil =>intro ks al;exact⟨ks,.refl _,al⟩|cons x _ ih=>
  intro ks al;cases al with
  |cons a b=>obtain⟨ls,q1,q2⟩:=ih b;exact⟨_::ls,q1.cons _,.cons a q2⟩
 |swap x y l=>
  intro ks al;cases al with
  |cons a b=>cases b with
   |cons c d=>exact⟨_,List.Perm.swap ..,.cons c (.cons a d)⟩
 |trans _ _ ih1 ih2 =>intro ks al;obtain⟨ls,q1,q2⟩:=ih1 al;obtain⟨ms,q3,q4⟩:=ih2 q2;exact⟨ms,q3.trans q1,q4⟩
theorem eH{α β:Type}{R:α->β->Prop}{as:List α}{bs:List β}(h:Al R as bs):∀{i:Nat}{a:α}{b:β},as[i]?=some a->bs[i]?=some b->R a b:=by
 induction h with
 |nil=>intro i a b h1;simp at h1|cons r _ ih=>
  intro i a b h1 h2;cases i with
  |zero=>simp at h1 h2;subst h1 h2;exact r|succ j=>simp at h1 h2;exact ih h1 h2
theorem eI(o:OV v){A:Around}{s:Shared}{h:Heap}{kd:SortKind}{ks:List K}{vs:List Value}(al:Al (v.is h) ks vs)(hn:ks.Nodup)(hl:∀x y u u',x∈ks->y∈ks->v.is h x u->v.is h y u'->∀{E:VP} {Q:Bool->Shared->Prop},Q (o.lt x y) s->wpAny (model prog w) A (keyLt' kd u u') Q E s):NZ.Ord prog w A s kd (o.rk h ks) (pairsOf vs) where
 lt:=λp q hp hq {E Q} hQ=>by
  rw[BB]at hp hq;obtain⟨_,m1⟩:=mem_zip_self hp;obtain⟨_,m2⟩:=mem_zip_self hq;obtain⟨x,x1,x2⟩:=al.has _ m1;obtain⟨y,y1,y2⟩:=al.has _ m2;rw[o.rk_eq x2,o.rk_eq y2]at hQ;refine hl x y _ _ x1 y1 x2 y2 ?_;have e:decide (((o.rank ks x:Nat):Int)<((o.rank ks y:Nat):Int))=o.lt x y:=by rw[Ri,Tg,<-o.rank_iff x1 y1];omega
  rw[e]at hQ;exact hQ
 ne:=by rw[BB,show(λp:Keyed=>o.rk h ks p.1)=(λu=>o.rk h ks u)∘Prod.fst from rfl,<-Te,List.map_fst_zip (Ug _),O7 o al];refine BK.mpr (hn.imp_of_mem λ{a b} ha hb hab z=>hab ?_);exact o.rank_inj ha hb (by exact_mod_cast z)
theorem eJ(o:OV v){h:Heap}{ks:List K}{vs:List Value}{out:Array Keyed}(al:Al (v.is h) ks vs)(hp:out.Perm (pairsOf vs))(hu:NZ.Up (o.rk h ks) out (pairsOf vs).size)(hn:ks.Nodup):∃ls:List K,ls.Perm ks/\Al (v.is h) ls (out.map (·.2)).toList/\ls.Pairwise λx y=>o.lt x y=true:=by
 have hp':out.toList.Perm (vs.zip vs):=by rw[<-BB];exact TV.mp hp
 have hsnd:(out.map (·.2)).toList=out.toList.map (·.2):=Array.toList_map ..;have same:∀p∈out.toList,p.1=p.2/\p.1∈vs:=λp hm=>mem_zip_self (hp'.mem_iff.mp hm);have hperm:(out.toList.map (·.2)).Perm vs:=by have:=hp'.map (·.2);rwa[List.map_snd_zip (Ug _)]at this
 obtain⟨ls,l1,l2⟩:=AW hperm.symm al;rw[hsnd];refine⟨ls,l1,l2,Ry.mpr λi j hi hj hij=>?_⟩;have hlen:ls.length=out.size:=by rw[l2.len,Ue,Uo]
 have hsz:out.size=(pairsOf vs).size:=hp.size_eq;have kr:∀k (hk:k<ls.length),NZ.kr (o.rk h ks) out k=((o.rank ks ls[k]:Nat):Int):=λk hk=>by
  have hk':k<out.size:=by omega
  have e1:out[k]?=some out[k]:=oN _ k hk';have hm:out[k]∈out.toList:=by simp
  have hr:v.is h ls[k] out[k].2:=eH (i:=k) l2 (UK hk) (by rw[UL,Tr,e1];rfl);unfold NZ.kr;rw[e1];dsimp only;rw[(same _ hm).1,o.rk_eq hr]
 have hle:=hu i j (by omega) (by omega);rw[kr i hi,kr j hj]at hle;have m1:ls[i]∈ks:=l1.mem_iff.mp (Tk hi);have m2:ls[j]∈ks:=l1.mem_iff.mp (Tk hj);have hne:ls[i]≠ls[j]:=Ry.mp (l1.nodup_iff.mpr hn) i j hi hj hij;rcases o.tot _ _ hne with z|z
 ·exact z
 ·have:=o.rank_lt m2 z;omega
theorem O8(hu:A.units+4<cLine)(hx:(lstV (intV prog w)).is s.heap x u)(hy:(lstV (intV prog w)).is s.heap y u')(h:Q ((lF (intO (prog:=prog) (w:=w))).lt x y) s):
  wpAny (model prog w) A (keyLt' (PyProof.Rows.tuples' true) u u') Q E s:=by
 obtain⟨a,us,rfl,t1,i1⟩:=hx;obtain⟨b,vs,rfl,t2,i2⟩:=hy;refine Fi (dep:=0) (os:=List.zipWith (intO (prog:=prog) (w:=w)).cmp x y) (by omega) t1 t2 (O6 intO i1 i2) (λ_ p q r e1 e2 {Q} hq=>?_) ?_
 ·cases i1 with
  |nil=>simp at e1|cons a1 _=>cases i2 with
   |nil=>simp at e1|cons b1 _=>
    rw[List.zip_cons_cons,Bh]at e1;rw[B7,Bh]at e2;injection e1 with e1;injection e1 with p1 p2;subst p1 p2;obtain⟨t,rfl⟩:=RG a1;obtain⟨t',rfl⟩:=RG b1;refine oneLt_int ?_;injection e2 with e2;unfold OV.cmp at e2;split at e2
    ·cases e2
    ·injection e2 with e2;have e2:decide (_<_)=r:=e2;rw[e2];exact hq
 ·rw[<-i1.len,<-i2.len,IH];exact h
end
abbrev SK:=Sum (List Int) (List Int×Int×Int×List Int)
section
variable(prog:Program)(w:World)
abbrev O9:VK prog w (List Int):=lstV (intV prog w)
abbrev AX:VK prog w (List Int×Int×Int×List Int):=bA (O9 prog w) (intV prog w) (intV prog w) (O9 prog w)
def tagV(t:Bool):VK prog w SK where
 is:=λh k u=>match k with
  |.inl g=>t=false/\(O9 prog w).is h g u|.inr c=>t=true/\(AX prog w).is h c u
 hash:=λk=>match k with
  |.inl g=>(O9 prog w).hash g|.inr c=>(AX prog w).hash c
 draws:=λk=>match k with
  |.inl g=>(O9 prog w).draws g|.inr c=>(AX prog w).draws c
 dep:=2
 inj:=λ{h v x y} hx hy=>by
  cases x with
  |inl x=>cases y with
   |inl y=>rw[(O9 prog w).inj hx.2 hy.2]|inr y=>rw[hx.1]at hy;cases hy.1
  |inr x=>cases y with
   |inl y=>rw[hx.1]at hy;cases hy.1|inr y=>rw[(AX prog w).inj hx.2 hy.2]
 keeps:=λ{h h' k v} hx kp=>by
  cases k with
  |inl g=>exact⟨hx.1,(O9 prog w).keeps hx.2 kp⟩|inr c=>exact⟨hx.1,(AX prog w).keeps hx.2 kp⟩
 pyHash:=λ{A E s k v Q} hu hx h=>by
  cases k with
  |inl g=>exact(O9 prog w).pyHash (show A.units+1<cLine by omega) hx.2 h|inr c=>exact(AX prog w).pyHash hu hx.2 h
 eqBool:=λ{A E s x y u v Q} hu hx hy h=>by
  cases x with
  |inl x=>cases y with
   |inl y=>exact(O9 prog w).eqBool (show A.units+1<cLine by omega) hx.2 hy.2 (by simpa using h)|inr y=>rw[hx.1]at hy;cases hy.1
  |inr x=>cases y with
   |inl y=>rw[hx.1]at hy;cases hy.1|inr y=>exact(AX prog w).eqBool hu hx.2 hy.2 (by simpa using h)
 quiet:=λ{A E s k v Q} n hn hx h=>by
  cases k with
  |inl g=>exact(O9 prog w).quiet n (show 1<=n by omega) hx.2 h|inr c=>exact(AX prog w).quiet n hn hx.2 h
def tagK(t:Bool):HeapKind prog w SK:=hk (tagV prog w t) (show 2<=8 by decide)
end
def Pa(g:List Int):Int:=reduceHash (Builtin.Tuple.tupleHashOf (g.map hashInt))
def lH:SK->Int
 |.inl g=>Pa g|.inr c=>reduceHash (Builtin.Tuple.tupleHashOf [Pa c.1,hashInt c.2.1,hashInt c.2.2.1,Pa c.2.2.2])
def ents(xs:List (SK×Addr×Value)):List DictEntry:=xs.map λx=>⟨lH x.1,.ref x.2.1,x.2.2⟩
theorem ents_eq(prog:Program)(w:World)(t:Bool)(xs:List (SK×Addr×Value)):ents xs=xs.map (entryOfKey (tagK prog w t)):=by unfold ents;refine Tn λx _=>?_;obtain⟨k,r⟩:=x;cases k<;>rfl
def DObj(a:Addr)(xs:List (SK×Addr×Value))(h:Heap):Prop:=∃o es ep,h.get? a=some o/\o.ExactDict/\o.data=.dict es ep/\es.toList=ents xs
end NK
namespace L3
open PySem
inductive D where
 |non|bl (b:Bool)|int (i:Int)|str (s:Str)|ref (n:Nat)|tup (ds:List D)|fl (ds:List D)
inductive GO where
 |lst (ds:List D)|ins (c:Nat) (fs:List (Str×D))|dct (kvs:List (Sum Int Str×D))|dcn (t:Bool) (kvs:List ((Sum (List Int) (List Int×Int×Int×List Int))×D))|dcf (t:Bool) (kvs:List ((Sum (List Int) (List Int×Int×Int×List Int))×D))
abbrev G:=List GO
abbrev S3:=List (Option D)
inductive Res(α:Type) where
 |ok (a:α) (g:G)|stuck
def Res.bind:Res α->(α->G->Res β)->Res β
 |.ok a g,k=>k a g|.stuck,_=>.stuck
inductive Out where
 |nx (σ:S3) (g:G)|rt (d:D) (g:G)|bk (σ:S3) (g:G)|ct (σ:S3) (g:G)|stuck
abbrev ME:=S3->G->Res D
abbrev MT:=S3->G->Res Bool
abbrev MA:=S3->G->Res (List D)
abbrev MS:=S3->G->Out
abbrev MF:=List D->G->Res D
theorem Res.bind_ok(a:α)(g:G)(k:α->G->Res β):(Res.ok a g).bind k=k a g:=rfl
def SZ:Nat:=1000000
noncomputable def Qa(i:Nat):ME:=λσ g=>match σ[i]? with
 |some (some d)=>.ok d g|_=>.stuck
noncomputable def Qp(d:D):ME:=λ_ g=>.ok d g
abbrev mI(i:Int):ME:=Qp (.int i)
noncomputable def Qi(f:D->G->Res D)(a:ME):ME:=λσ g=>(a σ g).bind f
noncomputable def Qc(f:D->D->G->Res D)(a b:ME):ME:=λσ g=>(a σ g).bind λx g1=>(b σ g1).bind λy g2=>f x y g2
noncomputable def Qd:MA:=λ_ g=>.ok [] g
noncomputable def Qb(a:ME)(r:MA):MA:=λσ g=>(a σ g).bind λx g1=>(r σ g1).bind λxs g2=>.ok (x::xs) g2
noncomputable def QQ(f:List D->G->Res D)(a:MA):ME:=λσ g=>(a σ g).bind f
noncomputable def Qf(a:ME):MT:=λσ g=>(a σ g).bind λd g1=>match d with
 |.bl b=>.ok b g1|_=>.stuck
noncomputable def QR(a:MT):MT:=λσ g=>(a σ g).bind λb g1=>.ok (!b) g1
noncomputable def Vd(a b:MT):MT:=λσ g=>(a σ g).bind λc g1=>if c=true then b σ g1 else .ok false g1
noncomputable def ZV(a b:MT):MT:=λσ g=>(a σ g).bind λc g1=>if c=true then .ok true g1 else b σ g1
noncomputable def eL(a:ME):ME:=λσ g=>(a σ g).bind λd g1=>match d with
 |.bl b=>.ok (.bl (!b)) g1|_=>.stuck
noncomputable def YN(a b:ME):ME:=λσ g=>(a σ g).bind λd g1=>match d with
 |.bl c=>if c=true then b σ g1 else .ok (.bl false) g1
 |_=>.stuck
noncomputable def qU(a b:ME):ME:=λσ g=>(a σ g).bind λd g1=>match d with
 |.bl c=>if c=true then .ok (.bl true) g1 else b σ g1
 |_=>.stuck
noncomputable def ET(c:MT)(a b:ME):ME:=λσ g=>(c σ g).bind λt g1=>if t=true then a σ g1 else b σ g1
noncomputable def Kk(f f':D->D->G->Res D)(a b c:ME):ME:=λσ g=>(a σ g).bind λx g1=>(b σ g1).bind λy g2=>(f x y g2).bind λz g3=>match z with
 |.bl true=>(c σ g3).bind λw g4=>f' y w g4
 |.bl false=>.ok (.bl false) g3|_=>.stuck
noncomputable def Qv:MS:=λσ g=>.nx σ g
noncomputable def Qm(a b:MS):MS:=λσ g=>match a σ g with
 |.nx σ' g'=>b σ' g'|o=>o
noncomputable def Q6(a:ME):MS:=λσ g=>match a σ g with
 |.ok _ g'=>.nx σ g'|.stuck=>.stuck
noncomputable def Qz(a:ME):MS:=λσ g=>match a σ g with
 |.ok d g'=>.rt d g'|.stuck=>.stuck
noncomputable def Pb:MS:=λ_ g=>.rt .non g
noncomputable def ZT(c:MT)(a b:MS):MS:=λσ g=>match c σ g with
 |.ok t g'=>if t=true then a σ g' else b σ g'
 |.stuck=>.stuck
noncomputable def sM:MS:=λσ g=>.ct σ g
noncomputable def Zy:MS:=λ_ _=>.stuck
noncomputable def Pc:ME:=λ_ _=>.stuck
noncomputable def Pd:MT:=λ_ _=>.stuck
abbrev MG:=D->S3->Option S3
def Ql(i:Nat):MG:=λd σ=>some (σ.set i (some d))
def Fj:List MG->List D->S3->Option S3
 |[],[],σ=>some σ|t::ts,d::ds,σ=>(t d σ).bind λσ'=>Fj ts ds σ'
 |_,_,_=>none
def Eb(ts:List MG):MG:=λd σ=>match d with
 |.tup ds=>Fj ts ds σ|_=>none
noncomputable def QF(t:MG)(a:ME):MS:=λσ g=>match a σ g with
 |.ok d g'=>(match t d σ with
  |some σ'=>.nx σ' g'|none=>.stuck)
 |.stuck=>.stuck
structure Src where
 at':G->Nat->Option (Option D)
 top:Nat
abbrev MI:=S3->G->Res Src
def YS(src:Src)(t:MG)(body:MS):Nat->Nat->S3->G->Out
 |0,_,_,_=>.stuck|f+1,i,σ,g=>match src.at' g i with
  |some (some d)=>(match t d σ with
   |some σ1=>(match body σ1 g with
    |.nx σ2 g2=>YS src t body f (i+1) σ2 g2|.ct σ2 g2=>YS src t body f (i+1) σ2 g2|.bk σ2 g2=>.nx σ2 g2|o=>o)
   |none=>.stuck)
  |some none=>.nx σ g|none=>.stuck
noncomputable def YT(it:MI)(t:MG)(body:MS):MS:=λσ g=>match it σ g with
 |.ok src g'=>YS src t body (src.top+1) 0 σ g'|.stuck=>.stuck
def ZH(c:MT)(body:MS):Nat->S3->G->Out
 |0,_,_=>.stuck|f+1,σ,g=>match c σ g with
  |.ok true g1=>(match body σ g1 with
   |.nx σ2 g2=>ZH c body f σ2 g2|.ct σ2 g2=>ZH c body f σ2 g2|.bk σ2 g2=>.nx σ2 g2|o=>o)
  |.ok false g1=>.nx σ g1|.stuck=>.stuck
open Classical in
noncomputable def Km(c:MT)(body:MS):MS:=λσ g=>if h:∃f,ZH c body f σ g≠.stuck then ZH c body h.choose σ g else .stuck
def YB(src:Src)(t:MG)(c:MT)(e:ME):Nat->Nat->S3->G->List D->Res (List D)
 |0,_,_,_,_=>.stuck|f+1,i,σ,g,acc=>match src.at' g i with
  |some (some d)=>(match t d σ with
   |some σ1=>(match c σ1 g with
    |.ok b g1=>if b=true then (match e σ1 g1 with
     |.ok y g2=>YB src t c e f (i+1) σ1 g2 (acc++[y])|_=>.stuck) else YB src t c e f (i+1) σ1 g1 acc
    |_=>.stuck)
   |none=>.stuck)
  |some none=>.ok acc g|none=>.stuck
def X7(n:Nat)(cap:List Nat)(σ:S3):S3:=List.replicate n none++cap.map λi=>(σ[i]?).getD none
def ZD(ds:List D)(g:G):Res D:=if ds.length<=SZ then .ok (.ref g.length) (g++[.lst ds]) else .stuck
def Yy(xs:List D)(g:G):Res D:=if xs.length<=SZ then .ok (.tup xs) g else .stuck
noncomputable def Zq(it:MI)(n:Nat)(cap:List Nat)(t:MG)(c:MT)(e:ME):ME:=λσ g=>match it σ g with
 |.ok src g1=>if src.top<=SZ then (match YB src t c e (src.top+1) 0 (X7 n cap σ) g1 []with
  |.ok ds g2=>.ok (.ref g2.length) (g2++[.lst ds])|_=>.stuck) else .stuck
 |_=>.stuck
noncomputable def Zz:MT:=λ_ g=>.ok true g
noncomputable def QI(k n:Nat)(body:MS):MF:=λds g=>if ds.length=k then (match body (ds.map some++List.replicate n none) g with
 |.nx _ g'=>.ok .non g'|.rt d g'=>.ok d g'|_=>.stuck) else .stuck
noncomputable def Qg(f:MF)(a:MA):ME:=λσ g=>(a σ g).bind f
noncomputable def QD(cc:Nat)(m:Str)(f:MF)(o:ME)(a:MA):ME:=λσ g=>(o σ g).bind λx g1=>match x with
 |.ref n=>(match g1[n]? with
  |some (.ins c fs)=>if c=cc/\fs.lookup m=none then (a σ g1).bind λxs g2=>f (.ref n::xs) g2 else .stuck
  |_=>.stuck)
 |_=>.stuck
noncomputable def YC(c:Nat)(f:MF)(a:MA):ME:=λσ g=>(a σ g).bind λxs g1=>(f (.ref g1.length::xs) (g1++[.ins c []])).bind λd g2=>match d with
 |.non=>.ok (.ref g1.length) g2|_=>.stuck
noncomputable def Qj(cs:List Nat)(f:Str)(o:ME):ME:=Qi (λx g=>match x with
 |.ref n=>(match g[n]? with
  |some (.ins c fs)=>if c∈cs then (match fs.lookup f with
   |some d=>.ok d g|none=>.stuck) else .stuck
  |_=>.stuck)
 |_=>.stuck) o
def BQ(f:Str)(v:D):List (Str×D)->List (Str×D)
 |[]=>[(f,v)]| (g,x)::r=>if g=f then (g,v)::r else (g,x)::BQ f v r
noncomputable def Qw(cs:List Nat)(f:Str)(o v:ME):MS:=λσ g=>match v σ g with
 |.ok y g1=>(match o σ g1 with
  |.ok (.ref n) g2=>(match g2[n]? with
   |some (.ins c fs)=>if c∈cs/\fs.length<100 then .nx σ (g2.set n (.ins c (BQ f y fs))) else .stuck
   |_=>.stuck)
  |_=>.stuck)
 |.stuck=>.stuck
def Nk(n:Nat)(i:Int):Option Nat:=if 0<=i then (if i<n then some i.toNat else none) else if -(n:Int)<=i then some (i+n).toNat else none
noncomputable def Ec(o i v:ME):MS:=λσ g=>match v σ g with
 |.ok y g1=>(match o σ g1 with
  |.ok (.ref n) g2=>(match i σ g2 with
   |.ok (.int k) g3=>(match g3[n]? with
    |some (.lst ds)=>(match Nk ds.length k with
     |some j=>.nx σ (g3.set n (.lst (ds.set j y)))|none=>.stuck)
    |_=>.stuck)
   |_=>.stuck)
  |_=>.stuck)
 |.stuck=>.stuck
def JO(d:D)(g:G):Res Src:=match d with
 |.tup ds=>.ok ⟨λ_ i=>some ds[i]?,ds.length⟩ g|.fl ds=>.ok ⟨λ_ i=>some ds[i]?,ds.length⟩ g|.ref n=>(match g[n]? with
  |some (.lst ds)=>.ok ⟨λg i=>(match g[n]? with|some (.lst es)=>some es[i]? | _=>none),ds.length⟩ g|_=>.stuck)
 |_=>.stuck
noncomputable def QL(a:ME):MI:=λσ g=>(a σ g).bind JO
def Zs(lo:Int)(n:Nat):Src:=⟨λ_ i=>some (if i<n then some (.int (lo+i)) else none),n⟩
def On(j:Int):Prop:=-(2^62)<=j/\j<2^62
instance (j:Int):Decidable (On j):=inferInstanceAs (Decidable (_/\_))
noncomputable def Zh(a:ME):MI:=λσ g=>(a σ g).bind λd g1=>match d with
 |.int j=>if On j then .ok (Zs 0 j.toNat) g1 else .stuck
 |_=>.stuck
noncomputable def Yr(a b:ME):MI:=λσ g=>(a σ g).bind λd g1=>(b σ g1).bind λd' g2=>match d,d' with
 |.int i,.int j=>if On i/\On j then .ok (Zs i (j-i).toNat) g2 else .stuck
 |_,_=>.stuck
def QK(g:G):D->Option (Bool×List D)
 |.tup ds=>some (false,ds)|.fl ds=>some (true,ds)|.ref n=>(match g[n]? with
  |some (.lst ds)=>some (true,ds)|_=>none)
 |_=>none
def Pe(d1 d2:D)(g:G):Res Src:=match d1,d2 with
 |.tup [],.tup []=>.ok ⟨λ_ i=>if i=0 then some none else none,0⟩ g|_,_=>.stuck
noncomputable def II(a b:ME):MI:=λσ g=>(a σ g).bind λx g1=>(b σ g1).bind λy g2=>Pe x y g2
def ZE(x y:D)(g:G):Res D:=match x,y with
 |.int i,.int j=>.ok (.int (i+j)) g|.tup xs,.tup ys=>if xs.length+ys.length<=SZ then .ok (.tup (xs++ys)) g else .stuck
 |.ref n,.ref m=>(match g[n]?,g[m]? with
  |some (.lst xs),some (.lst ys)=>if xs.length+ys.length<=SZ then .ok (.ref g.length) (g++[.lst (xs++ys)]) else .stuck
  |_,_=>.stuck)
 |_,_=>.stuck
def FY(x y:D)(g:G):Res D:=match x,y with
 |.int i,.int j=>.ok (.int (i-j)) g|_,_=>.stuck
def cM(i:Int):Prop:=-(2^64)<i/\i<2^64
instance (j:Int):Decidable (cM j):=inferInstanceAs (Decidable (_/\_))
def XD(x y:D)(g:G):Res D:=match x,y with
 |.int i,.int j=>if cM i\/cM j then .ok (.int (i*j)) g else .stuck
 |_,_=>.stuck
def JA(x y:D)(g:G):Res D:=match x,y with
 |.int i,.int j=>if 0<j/\j<1073741824 then .ok (.int (i/j)) g else .stuck
 |_,_=>.stuck
def Yz(x y:D)(g:G):Res D:=match x,y with
 |.int i,.int j=>if 0<j then .ok (.int (i%j)) g else .stuck
 |_,_=>.stuck
def JP(x:D)(g:G):Res D:=match x with
 |.int i=>.ok (.int (-i)) g|_=>.stuck
def Nl(r:Int->Int->Bool)(x y:D)(g:G):Res D:=match x,y with
 |.int i,.int j=>.ok (.bl (r i j)) g|_,_=>.stuck
def FZ:=Nl λi j=>decide (i<j)
def Ar:=Nl λi j=>decide (i<=j)
def GJ:=Nl λi j=>decide (j<i)
def qV:=Nl λi j=>decide (j<=i)
def sN(b:Bool):Int:=if b then 1 else 0
def qW(x y:D):Option Bool:=match x,y with
 |.int i,.int j=>some (i==j)|.str s,.str t=>some (s==t)|_,_=>none
def VD(x y:D)(g:G):Res D:=match qW x y with
 |some b=>.ok (.bl b) g|none=>.stuck
def Ve:List D->Option (List Int)
 |[]=>some []|.int i::r=>(Ve r).map (i :: ·)|_::_=>none
def Ik(x y:D)(g:G):Res D:=match qW x y with
 |some b=>.ok (.bl (!b)) g|none=>.stuck
def Pf:D->Bool
 |.non=>true|_=>false
def bB(x y:D)(g:G):Res D:=match y with
 |.non=>.ok (.bl (Pf x)) g|_=>.stuck
def EU(xs:List α)(i:Int):Option α:=(Nk xs.length i).bind λj=>xs[j]?
def QG(x y:D)(g:G):Res D:=match x,y with
 |.tup ds,.int i=>(match EU ds i with
  |some d=>.ok d g|none=>.stuck)
 |.fl ds,.int i=>(match EU ds i with
  |some d=>.ok d g|none=>.stuck)
 |.ref n,.int i=>(match g[n]? with
  |some (.lst ds)=>(match EU ds i with
   |some d=>.ok d g|none=>.stuck)
  |_=>.stuck)
 |.str s,.int i=>if s.length<=SZ then (match EU s.cps.toList i with
  |some c=>.ok (.str ⟨#[c]⟩) g|none=>.stuck) else .stuck
 |_,_=>.stuck
def F0(n d:Nat):Option Int->Nat
 |none=>d|some v=>if v<0 then (v+(n:Int)).toNat else min v.toNat n
def B1(xs:List α)(lo hi:Option Int):List α:=(xs.drop (F0 xs.length 0 lo)).take (F0 xs.length xs.length hi-F0 xs.length 0 lo)
def Ko(x:D)(lo hi:Option Int)(g:G):Res D:=match x with
 |.tup ds=>.ok (.tup (B1 ds lo hi)) g|_=>.stuck
abbrev MO:=S3->G->Res (Option Int)
noncomputable def Zw:MO:=λ_ g=>.ok none g
noncomputable def YQ(a:ME):MO:=λσ g=>(a σ g).bind λd g1=>match d with
 |.int i=>.ok (some i) g1|_=>.stuck
noncomputable def ZW(a:ME)(lo hi:MO):ME:=λσ g=>(a σ g).bind λx g1=>(lo σ g1).bind λl g2=>(hi σ g2).bind λh g3=>Ko x l h g3
def Zj(x:D)(g:G):Res D:=match x with
 |.tup ds=>.ok (.int ds.length) g|.fl ds=>.ok (.int ds.length) g|.ref n=>(match g[n]? with
  |some (.lst ds)=>.ok (.int ds.length) g|_=>.stuck)
 |_=>.stuck
def YD(x:D)(g:G):Res D:=match x with
 |.tup ds=>.ok (.tup ds) g|.fl ds=>.ok (.tup ds) g|.ref n=>(match g[n]? with
  |some (.lst ds)=>.ok (.tup ds) g|_=>.stuck)
 |_=>.stuck
def lI(x:D)(g:G):Res D:=match x with
 |.int i=>.ok (.int i) g|.bl b=>.ok (.int (if b then 1 else 0)) g|_=>.stuck
noncomputable def Zp(o e:ME):ME:=λσ g=>(o σ g).bind λx g1=>match x with
 |.ref n=>(match g1[n]? with
  |some (.lst _)=>(e σ g1).bind λy g2=>(match g2[n]? with
   |some (.lst ds)=>if ds.length<SZ then .ok .non (g2.set n (.lst (ds++[y]))) else .stuck
   |_=>.stuck)
  |_=>.stuck)
 |_=>.stuck
def Kp(x:D)(g:G):Res D:=match x with
 |.ref n=>(match g[n]? with
  |some (.lst ds)=>(match ds[ds.length-1]? with
   |some y=>.ok y (g.set n (.lst ds.dropLast))|none=>.stuck)
  |_=>.stuck)
 |_=>.stuck
inductive Ty where
 |non|bool|int|str|tuple|list|dict
 deriving DecidableEq
def Ty.name:Ty->String
 |.non => "NoneType" |.bool => "bool" |.int => "int" |.str => "str" |.tuple => "tuple" |.list => "list" |.dict => "dict"
def VQ(t c:Ty):Bool:=t==c||(t==.bool&&c==.int)
def X8(g:G):D->Option Ty
 |.non=>some .non|.bl _=>some .bool|.int _=>some .int|.str _=>some .str|.tup _=>some .tuple|.fl _=>some .list|.ref n=>(match g[n]? with
  |some (.lst _)=>some .list|some (.dct _)=>some .dict|_=>none)
def YE(c:Ty)(x:D)(g:G):Res D:=match X8 g x with
 |some t=>.ok (.bl (VQ t c)) g|none=>.stuck
def EV:List D->Option Bool
 |[]=>some true|.bl b::r=>(EV r).map (b && ·)|_::_=>none
def XE(x:D)(g:G):Res D:=match x with
 |.ref n=>(match g[n]? with
  |some (.lst ds)=>(match EV ds with
   |some b=>.ok (.bl b) g|none=>.stuck)
  |_=>.stuck)
 |_=>.stuck
def Vf:D->Bool
 |.non=>true|.bl _=>true|.int _=>true|.str _=>true|_=>false
def oT(x y:D):Bool:=match x,y with
 |.non,.non=>true|.bl a,.bl b=>a==b|.int i,.int j=>i==j|.str s,.str t=>s==t|.bl a,.int j=>sN a==j|.int i,.bl b=>i==sN b|_,_=>false
def eM(neg:Bool)(x y:D)(g:G):Res D:=match QK g y with
 |some (_,ds)=>if Vf x=true/\ds.all Vf=true then .ok (.bl (if neg=true then !(ds.any λd=>oT d x) else ds.any λd=>oT d x)) g else .stuck
 |none=>.stuck
def kD:Sum (List Int) (List Int×Int×Int×List Int)->D
 |.inl g=>.tup (g.map .int)|.inr c=>.tup [.tup (c.1.map .int),.int c.2.1,.int c.2.2.1,.tup (c.2.2.2.map .int)]
open Classical in
def IJ{α β:Type}(P:α->Prop)(f:α->β)(y:β):Option α:=if h:∃x,y=f x/\P x then some h.choose else none
section
variable{α β:Type}{P:α->Prop}{f:α->β}{x:α}{y:β}
theorem IK(h:IJ P f y=some x):y=f x/\P x:=by
 unfold IJ at h;by_cases z:∃x,y=f x/\P x
 ·rw[iS z]at h;cases h;exact z.choose_spec
 ·rw[dif_neg z]at h;cases h
theorem Pg(p:P x)(i:∀y,f x=f y->P y->x=y):IJ P f (f x)=some x:=by have z:∃y,f x=f y/\P y:=⟨x,rfl,p⟩;exact(iS z).trans (TY some (i _ z.choose_spec.1 z.choose_spec.2).symm)
theorem LP(i:∀x y,f x=f y->P x->P y->x=y){l:List α}(p:∀x∈l,P x):IJ (λl=>∀x∈l,P x) (·.map f) (l.map f)=some l:=Pg p λm=>by
 induction l generalizing m with
 |nil=>intro e _;cases m with
  |nil=>rfl|cons=>cases e
 |cons a l ih=>intro e q;cases m with
  |nil=>cases e|cons b m =>injection e with e1 e2;rw[i a b e1 (p a (.head _)) (q b (.head _)),ih (λx h=>p x (.tail _ h)) m e2 λx h=>q x (.tail _ h)]
end
def Yl(τ:Bool)(d:D):Option (Sum (List Int) (List Int×Int×Int×List Int)):=IJ (λk=>k.isRight=τ) kD d
theorem Ph(h:Yl τ d=some k):d=kD k/\k.isRight=τ:=IK h
theorem LQ(h:Yl τ d=some k):d=kD k:=(Ph h).1
theorem IL{k k':Sum (List Int) (List Int×Int×Int×List Int)}(e:kD k=kD k')(t:k.isRight=k'.isRight):k=k':=by
 have m:∀{u v:List Int},u.map D.int=v.map .int->u=v:=λh=>(List.map_inj_right λ_ _ h=>by cases h;rfl).mp h;rcases k with g|⟨a,p,q,b⟩<;>rcases k' with g'|⟨a',p',q',b'⟩
 ·injection e with e;rw[m e]
 ·cases t
 ·cases t
 ·simp only[kD,D.tup.injEq,List.cons.injEq,D.int.injEq,and_true]at e;obtain⟨e1,rfl,rfl,e4⟩:=e;rw[m e1,m e4]
theorem AY(h:k.isRight=τ):Yl τ (kD k)=some k:=Pg h λ_ e p=>IL e (h.trans p.symm)
open PySem.Spec PyProof.Rows L2
def SqF(K:Frag)(H:Hp)(a:Addr)(xs:List V):Prop:=(∃o,H a=some (.frz o (.lst xs)))\/SqL K (λ_=>none) a xs
theorem SqF.sq{K:Frag}{H:Hp}{a:Addr}{xs:List V}(h:SqF K H a xs):SqL K H a xs:=by
 rcases h with⟨o,h⟩|(h|⟨o,h⟩)|h
 ·exact .inl (.inr ⟨o,h⟩)
 ·cases h
 ·cases h
 ·exact .inr h
mutual
inductive Den(K:Frag)(μ:List Addr)(H:Hp):V->D->Prop where
 |non:Den K μ H .non .non
 |bl (b:Bool):Den K μ H (.bl b) (.bl b)
 |int (i:Int):Den K μ H (.int i) (.int i)
 |str (x:Str):Den K μ H (.str x) (.str x)
 |ref {n:Nat} {a:Addr} (h:μ[n]?=some a):Den K μ H (.ref a) (.ref n)
 |tup {a:Addr} {vs:List V} {ds:List D} (h:SqT K H a vs) (hs:Dens K μ H vs ds):Den K μ H (.ref a) (.tup ds)
 |fl {a:Addr} {vs:List V} {ds:List D} (h:SqF K H a vs) (hs:Dens K μ H vs ds):Den K μ H (.ref a) (.fl ds)
inductive Dens(K:Frag)(μ:List Addr)(H:Hp):List V->List D->Prop where
 |nil:Dens K μ H [] []
 |cons {v:V} {d:D} {vs:List V} {ds:List D} (h:Den K μ H v d) (hs:Dens K μ H vs ds):Dens K μ H (v::vs) (d::ds)
end
structure Ext(K:Frag)(μ:List Addr)(H:Hp)(μ':List Addr)(H':Hp):Prop where
 pre:∃t,μ'=μ++t
 tup:∀a xs,SqT K H a xs->SqT K H' a xs
 fl:∀a xs,SqF K H a xs->SqF K H' a xs
 frz:∀a o u,H a=some (.frz o u)->H' a=some (.frz o u)
section
variable{K:Frag}{ca:Nat->Addr}{μ μ' μ'':List Addr}{H H' H'':Hp}
theorem Ext.refl:Ext K μ H μ H:=⟨⟨[],by simp⟩,λ_ _ h=>h,λ_ _ h=>h,λ_ _ _ h=>h⟩
theorem Ext.trans(a:Ext K μ H μ' H')(b:Ext K μ' H' μ'' H''):Ext K μ H μ'' H'':=by obtain⟨t,e⟩:=a.pre;obtain⟨u,f⟩:=b.pre;exact⟨⟨t++u,by rw[f,e,UE]⟩,λx xs h=>b.tup x xs (a.tup x xs h),λx xs h=>b.fl x xs (a.fl x xs h),λx o u h=>b.frz x o u (a.frz x o u h)⟩
theorem Ext.at(e:Ext K μ H μ' H'){n:Nat}{a:Addr}(h:μ[n]?=some a):μ'[n]?=some a:=by obtain⟨t,rfl⟩:=e.pre;have hl:n<μ.length:=(Um.mp h).1;rw[Ul hl];exact h
mutual
theorem Den.mono(e:Ext K μ H μ' H'):∀{v:V}{d:D},Den K μ H v d->Den K μ' H' v d
 |_,_,.non=>.non|_,_,.bl b=>.bl b|_,_,.int i=>.int i|_,_,.str x=>.str x|_,_,.ref h=>.ref (e.at h)|_,_,.tup h hs=>.tup (e.tup _ _ h) (Dens.mono e hs)|_,_,.fl h hs=>.fl (e.fl _ _ h) (Dens.mono e hs)
theorem Dens.mono(e:Ext K μ H μ' H'):∀{vs:List V}{ds:List D},Dens K μ H vs ds->Dens K μ' H' vs ds
 |_,_,.nil=>.nil|_,_,.cons h hs=>.cons (Den.mono e h) (Dens.mono e hs)
end
theorem Dens.length:∀{vs:List V}{ds:List D},Dens K μ H vs ds->vs.length=ds.length
 |_,_,.nil=>rfl|_,_,.cons _ t=>by rw[UJ,UJ,Dens.length t]
theorem Dens.get:∀{vs:List V}{ds:List D}{i:Nat}{d:D},Dens K μ H vs ds->ds[i]?=some d->∃v,vs[i]?=some v/\Den K μ H v d
 |_,_,_,_,.nil,e=>by simp at e
 |_,_,0,_,.cons r _,e=>by simp at e;subst e;exact⟨_,rfl,r⟩
 |_,_,i+1,x,.cons _ t,e=>by obtain⟨u,h1,h2⟩:=Dens.get (i:=i) (d:=x) t (by simpa using e);exact⟨u,by simpa using h1,h2⟩
theorem Dens.append:∀{vs ws:List V}{ds es:List D},Dens K μ H vs ds->Dens K μ H ws es->Dens K μ H (vs++ws) (ds++es)
 |_,_,_,_,.nil,h=>h|_,_,_,_,.cons a b,h=>.cons a (Dens.append b h)
theorem Dens.set(r:Den K μ H x u):∀{xs:List V}{us:List D}(i:Nat),Dens K μ H xs us->Dens K μ H (xs.set i x) (us.set i u)
 |_,_,_,.nil=>.nil|_,_,0,.cons _ t=>.cons r t|_,_,i+1,.cons q t=>.cons q (Dens.set r i t)
theorem Dens.take:∀{xs:List V}{us:List D}(n:Nat),Dens K μ H xs us->Dens K μ H (xs.take n) (us.take n)
 |_,_,0,_=>.nil|_,_,_+1,.nil=>.nil|_,_,n+1,.cons r t=>.cons r (Dens.take n t)
theorem Dens.drop:∀{xs:List V}{us:List D}(n:Nat),Dens K μ H xs us->Dens K μ H (xs.drop n) (us.drop n)
 |_,_,0,r=>r|_,_,_+1,.nil=>.nil|_,_,n+1,.cons _ t=>Dens.drop n t
theorem Dens.ints(ns:List Int):Dens K μ H (ns.map V.int) (ns.map D.int):=by
 induction ns with
 |nil=>exact .nil|cons n r ih=>exact .cons (.int n) ih
def FRel(K:Frag)(μ:List Addr)(H:Hp):List (Str×V)->List (Str×D)->Prop:=Paired λp q=>p.1=q.1/\Den K μ H p.2 q.2
def KRel(K:Frag)(μ:List Addr)(H:Hp):List (X6×V)->List (X6×D)->Prop:=Paired λp q=>p.1=q.1/\Den K μ H p.2 q.2
def ND(a:Addr)(xs:List (NK.SK×Addr×Value)):HO:=.ext (NK.DObj a xs)
def NRel(K:Frag)(t:Bool)(μ:List Addr)(H:Hp):List (NK.SK×Addr×Value)->List (NK.SK×D)->Prop:=Paired λx q=>x.1=q.1/\(∃d,Yl t d=some x.1/\Den K μ H (.ref x.2.1) d)/\∃v,RelV v x.2.2/\Den K μ H v q.2
theorem NRel.mono(e:Ext K μ H μ' H')(h:NRel K t μ H xs ks):NRel K t μ' H' xs ks:=Paired.imp' (λ_ _ q=>⟨q.1,let ⟨d,a,b⟩:=q.2.1;⟨d,a,b.mono e⟩,let ⟨v,a,b⟩:=q.2.2;⟨v,a,b.mono e⟩⟩) h
def ORep(K:Frag)(ca:Nat->Addr)(μ:List Addr)(H:Hp)(a:Addr):GO->Prop
 |.dct ks=>∃kv,H a=some (.dK kv)/\KRel K μ H kv ks|.dcn t ks=>∃xs,H a=some (ND a xs)/\NRel K t μ H xs ks/\(xs.map (·.1)).Nodup/\(a==sysModules)=false|.dcf t ks=>∃o xs,H a=some (.frz o (ND a xs))/\NRel K t μ H xs ks/\(xs.map (·.1)).Nodup/\(a==sysModules)=false|.lst ds=>∃vs,H a=some (.lst vs)/\Dens K μ H vs ds|.ins c fs=>∃dx fv,H a=some (.ins (ca c) dx fv)/\FRel K μ H fv fs
structure GRep(K:Frag)(ca:Nat->Addr)(μ:List Addr)(H:Hp)(g:G):Prop where
 len:μ.length=g.length
 nd:μ.Nodup
 obj:∀(n:Nat)(a:Addr)(o:GO),μ[n]?=some a->g[n]?=some o->ORep K ca μ H a o
structure Rep(K:Frag)(ca:Nat->Addr)(μ:List Addr)(σ3:S3)(g:G)(σ:L2.St)(H:Hp):Prop where
 g:GRep K ca μ H g
 len:σ.length=σ3.length
 st:∀(i:Nat)(d:D),σ3[i]?=some (some d)->∃v,σ[i]?=some (some v)/\Den K μ H v d
theorem FRel.mono(e:Ext K μ H μ' H')(h:FRel K μ H fv fs):FRel K μ' H' fv fs:=Paired.imp' (λ_ _ q=>⟨q.1,q.2.mono e⟩) h
theorem KRel.mono(e:Ext K μ H μ' H')(h:KRel K μ H fv fs):KRel K μ' H' fv fs:=Paired.imp' (λ_ _ q=>⟨q.1,q.2.mono e⟩) h
theorem Rep.go{σ3:S3}{g g':G}{σ:L2.St}(r:Rep K ca μ σ3 g σ H)(e:Ext K μ H μ' H')(h:GRep K ca μ' H' g'):Rep K ca μ' σ3 g' σ H':=⟨h,r.len,λi d z=>by obtain⟨v,h1,h2⟩:=r.st i d z;exact⟨v,h1,h2.mono e⟩⟩
theorem GRep.addr{g:G}(r:GRep K ca μ H g){n:Nat}{o:GO}(h:g[n]?=some o):∃a,μ[n]?=some a/\ORep K ca μ H a o:=by
 have hl:n<g.length:=(Um.mp h).1;have hm:n<μ.length:=by rw[r.len];exact hl
 exact⟨μ[n],by simp[hm],r.obj n _ o (by simp[hm]) h⟩
theorem ORep.is(h:ORep K ca μ H a o):∃u,H a=some u:=by
 cases o with
 |lst ds=>obtain⟨_,h,_⟩:=h;exact⟨_,h⟩|ins c fs=>obtain⟨_,_,h,_⟩:=h;exact⟨_,h⟩|dct ks=>obtain⟨_,h,_⟩:=h;exact⟨_,h⟩|dcn t ks=>obtain⟨_,h,_⟩:=h;exact⟨_,h⟩|dcf t ks=>obtain⟨_,_,h,_⟩:=h;exact⟨_,h⟩
theorem GRep.known(r:GRep K ca μ H g)(h:a∈μ):∃u,H a=some u:=by
 obtain⟨n,hn⟩:=List.getElem?_of_mem h;have hl:n<μ.length:=(Um.mp hn).1;have hg:n<g.length:=by rw[<-r.len];exact hl
 exact(r.obj n a g[n] hn (by simp[hg])).is
theorem Q8(hp:H p=none):Ext K μ H μ (Za H p o):=⟨⟨[],by simp⟩,λa xs h=>by
 rcases h with(h|⟨u,h⟩)|h
 ·exact .inl (.inl (by rw[QH (Q4 h hp)];exact h))
 ·exact .inl (.inr ⟨u,by rw[QH (Q4 h hp)];exact h⟩)
 ·exact .inr h,λa xs h=>by
 rcases h with⟨u,h⟩|h
 ·exact .inl ⟨u,by rw[QH (Q4 h hp)];exact h⟩
 ·exact .inr h,λa o u h=>by rw[QH (Q4 h hp)];exact h⟩
theorem ORep.mono(e:Ext K μ H μ' H')(ha:∀u,H a=some u->H' a=some u)(h:ORep K ca μ H a o):ORep K ca μ' H' a o:=by
 cases o with
 |lst ds=>obtain⟨vs,h,q⟩:=h;exact⟨vs,ha _ h,q.mono e⟩|ins c fs=>obtain⟨dx,fv,h,q⟩:=h;exact⟨dx,fv,ha _ h,q.mono e⟩|dct ks=>obtain⟨kv,h,q⟩:=h;exact⟨kv,ha _ h,q.mono e⟩|dcn t ks=>obtain⟨xs,h,q,r⟩:=h;exact⟨xs,ha _ h,q.mono e,r⟩|dcf t ks=>obtain⟨o,xs,h,q,r⟩:=h;exact⟨o,xs,ha _ h,q.mono e,r⟩
theorem GRep.new(r:GRep K ca μ H g)(hp:H p=none):GRep K ca μ (Za H p o) g:=⟨r.len,r.nd,λn a u h1 h2=>(r.obj n a u h1 h2).mono (Q8 hp) λz hz=>by rw[QH (Q4 hz hp)];exact hz⟩
theorem Q3(hp:H p=none):Ext K μ H (μ++[p]) (Za H p o):=⟨⟨[p],rfl⟩,(Q8 (μ:=μ) hp).tup,(Q8 (μ:=μ) hp).fl,(Q8 (K:=K) (μ:=μ) hp).frz⟩
theorem GRep.push(r:GRep K ca μ H g)(hp:H p=none)(ho:ORep K ca (μ++[p]) (Za H p o) p u):GRep K ca (μ++[p]) (Za H p o) (g++[u]):=by
 have nm:p∉μ:=λh=>by obtain⟨z,hz⟩:=r.known h;rw[hp]at hz;cases hz
 refine⟨by rw[Uq,Uq,r.len];rfl,?_,λn a w h1 h2=>?_⟩
 ·rw[RH];exact⟨r.nd,by simp,λx hx y hy e=>nm (by rw[Ui.mp hy]at e;rw[<-e];exact hx)⟩
 ·by_cases hn:n<g.length
  ·rw[Ul hn]at h2;rw[Ul (by rw[r.len];exact hn)]at h1;exact(r.obj n a w h1 h2).mono (Q3 hp) λz hz=>by rw[QH (Q4 hz hp)];exact hz
  ·rw[UD (by omega)]at h2;rw[UD (by rw[r.len];omega)]at h1;have e0:n-g.length=0:=by have:=(Um.mp h2).1;simp at this;omega
   rw[e0]at h2;rw[r.len,e0]at h1;simp at h1 h2;subst h1 h2;exact ho
theorem Z4(h:H a=some o)(no:∀xs,o≠.tup xs)(nf:∀b u,o≠.frz b u):Ext K μ H μ (Za H a o'):=⟨⟨[],by simp⟩,λb xs hb=>by
 rcases hb with(z|⟨u,z⟩)|z
 ·exact .inl (.inl (by rw[QH (VE z h (Ne.symm (no xs)))];exact z))
 ·exact .inl (.inr ⟨u,by rw[QH (VE z h (Ne.symm (nf u _)))];exact z⟩)
 ·exact .inr z,λb xs hb=>by
 rcases hb with⟨u,z⟩|z
 ·exact .inl ⟨u,by rw[QH (VE z h (Ne.symm (nf u _)))];exact z⟩
 ·exact .inr z,λb u v z=>by rw[QH (VE z h (Ne.symm (nf u v)))];exact z⟩
theorem GRep.set(r:GRep K ca μ H g)(hn:μ[n]?=some a)(h:H a=some o)(no:∀xs,o≠.tup xs)(nf:∀b u,o≠.frz b u)(ho:ORep K ca μ (Za H a o') a u):
  GRep K ca μ (Za H a o') (g.set n u):=by
 refine⟨by rw[UQ,r.len],r.nd,λm b w h1 h2=>?_⟩;by_cases e:m=n
 ·subst e;rw[hn]at h1;cases h1;have hl:m<g.length:=by rw[<-r.len];exact(Um.mp hn).1
  rw[UT hl]at h2;cases h2;exact ho
 ·rw[Ud (Ne.symm e)]at h2;have nb:b≠a:=λz=>by subst z;have e1:=(Um.mp h1);have e2:=(Um.mp hn);obtain⟨l1,q1⟩:=e1;obtain⟨l2,q2⟩:=e2;exact e ((BX r.nd).mp (q1.trans q2.symm))
  exact(r.obj m b w h1 h2).mono (Z4 h no nf) λz hz=>by rw[QH nb];exact hz
abbrev xo(X:Cx):Cx:={X with xe:=λ_ _=>False}
noncomputable def PostR{α β:Type}(K:Frag)(ca:Nat->Addr)(B:List Addr->Hp->β->α->Prop)(Q:β->Hp->Prop)(H:Hp)(μ:List Addr):Res α->Prop
 |.ok d g'=>∀v H' μ',Ext K μ H μ' H'->GRep K ca μ' H' g'->B μ' H' v d->Q v H'|.stuck=>False
abbrev Jg(K:Frag)(ca:Nat->Addr):=PostR K ca (Den K)
def PostT(K:Frag)(ca:Nat->Addr)(Q:Bool->Hp->Prop)(H:Hp)(μ:List Addr):Res Bool->Prop
 |.ok b g'=>∀H' μ',Ext K μ H μ' H'->GRep K ca μ' H' g'->Q b H'|.stuck=>False
def PostS(K:Frag)(ca:Nat->Addr)(E:Ends)(H:Hp)(μ:List Addr):Out->Prop
 |.nx σ3 g'=>∀σ' H' μ',Ext K μ H μ' H'->Rep K ca μ' σ3 g' σ' H'->E.nx σ' H'|.bk σ3 g'=>∀σ' H' μ',Ext K μ H μ' H'->Rep K ca μ' σ3 g' σ' H'->E.bk σ' H'|.ct σ3 g'=>∀σ' H' μ',Ext K μ H μ' H'->Rep K ca μ' σ3 g' σ' H'->E.ct σ' H'|.rt d g'=>∀v H' μ',Ext K μ H μ' H'->GRep K ca μ' H' g'->Den K μ' H' v d->E.rt v H'|.stuck=>False
def iV{α β:Type}(K:Frag)(ca:Nat->Addr)(B:List Addr->Hp->β->α->Prop)(m:S3->G->Res α)(σ:L2.St)(H:Hp)(Q:β->Hp->Prop):Prop:=∃σ3 g μ,Rep K ca μ σ3 g σ H/\PostR K ca B Q H μ (m σ3 g)
abbrev up(K:Frag)(ca:Nat->Addr)(m:ME):TE:=iV K ca (Den K) m
abbrev lJ(K:Frag)(ca:Nat->Addr)(m:MA):TA:=iV K ca (Dens K) m
def eO(K:Frag)(ca:Nat->Addr)(m:MT):TT:=λσ H Q=>∃σ3 g μ,Rep K ca μ σ3 g σ H/\PostT K ca Q H μ (m σ3 g)
def iW(K:Frag)(ca:Nat->Addr)(m:MS):TS:=λE σ H=>∃σ3 g μ,Rep K ca μ σ3 g σ H/\PostS K ca E H μ (m σ3 g)
def Qs(ca:Nat->Addr)(X:Cx)(e:Expr)(m:ME):Prop:=PE (xo X) e (up X.K ca m)
def B3(ca:Nat->Addr)(X:Cx)(e:Expr)(m:MT):Prop:=PT (xo X) e (eO X.K ca m)
def bC(ca:Nat->Addr)(X:Cx)(e:Expr)(m:MT):Prop:=PW (xo X) e (eO X.K ca m)
def Oo(ca:Nat->Addr)(X:Cx)(es:List Expr)(m:MA):Prop:=PA (xo X) es (lJ X.K ca m)
def F2(ca:Nat->Addr)(X:Cx)(st:Stmt)(m:MS):Prop:=PS (xo X) st (iW X.K ca m)
def VR(ca:Nat->Addr)(X:Cx)(sts:List Stmt)(m:MS):Prop:=Im (xo X) sts (iW X.K ca m)
variable{σ:L2.St}
theorem PostR.go(e:Ext K μ H μ' H')(h:PostR K ca B Q H μ r):PostR K ca B Q H' μ' r:=by
 cases r with
 |ok d g'=>exact λv H2 μ2 e2=>h v H2 μ2 (e.trans e2)
 |stuck=>exact h
theorem PostT.go(e:Ext K μ H μ' H')(h:PostT K ca Q H μ r):PostT K ca Q H' μ' r:=by
 cases r with
 |ok d g'=>exact λH2 μ2 e2=>h H2 μ2 (e.trans e2)
 |stuck=>exact h
theorem PostS.go(e:Ext K μ H μ' H')(h:PostS K ca E H μ r):PostS K ca E H' μ' r:=by cases r<;>first|exact λv H2 μ2 e2=>h v H2 μ2 (e.trans e2)|exact h
theorem Zl(R:Rep K ca μ σ3 g σ H)(hp:PostR K ca B' Q H μ ((m σ3 g).bind k)):
  iV K ca B m σ H λx H1=>∃d g1 μ1,Ext K μ H μ1 H1/\Rep K ca μ1 σ3 g1 σ H1/\B μ1 H1 x d/\PostR K ca B' Q H1 μ1 (k d g1):=by
 refine⟨σ3,g,μ,R,?_⟩;cases hm:m σ3 g with
 |ok d g1=>rw[hm]at hp;exact λv H1 μ1 e1 r1 d1=>⟨d,g1,μ1,e1,R.go e1 r1,d1,PostR.go e1 hp⟩
 |stuck=>rw[hm]at hp;exact hp
theorem bD(R:Rep K ca μ σ3 g σ H)(hp:PostT K ca Q H μ ((m σ3 g).bind k)):
  iV K ca B m σ H λx H1=>∃d g1 μ1,Ext K μ H μ1 H1/\Rep K ca μ1 σ3 g1 σ H1/\B μ1 H1 x d/\PostT K ca Q H1 μ1 (k d g1):=by
 refine⟨σ3,g,μ,R,?_⟩;cases hm:m σ3 g with
 |ok d g1=>rw[hm]at hp;exact λv H1 μ1 e1 r1 d1=>⟨d,g1,μ1,e1,R.go e1 r1,d1,PostT.go e1 hp⟩
 |stuck=>rw[hm]at hp;exact hp
theorem eQ(R:Rep K ca μ σ3 g σ H)(hp:PostR K ca B Q H μ ((m σ3 g).bind k)):
  eO K ca m σ H λb H1=>∃g1 μ1,Ext K μ H μ1 H1/\Rep K ca μ1 σ3 g1 σ H1/\PostR K ca B Q H1 μ1 (k b g1):=by
 refine⟨σ3,g,μ,R,?_⟩;cases hm:m σ3 g with
 |ok d g1=>rw[hm]at hp;exact λH1 μ1 e1 r1=>⟨g1,μ1,e1,R.go e1 r1,PostR.go e1 hp⟩
 |stuck=>rw[hm]at hp;exact hp
theorem IM(R:Rep K ca μ σ3 g σ H)(hp:PostT K ca Q H μ ((m σ3 g).bind k)):
  eO K ca m σ H λb H1=>∃g1 μ1,Ext K μ H μ1 H1/\Rep K ca μ1 σ3 g1 σ H1/\PostT K ca Q H1 μ1 (k b g1):=by
 refine⟨σ3,g,μ,R,?_⟩;cases hm:m σ3 g with
 |ok d g1=>rw[hm]at hp;exact λH1 μ1 e1 r1=>⟨g1,μ1,e1,R.go e1 r1,PostT.go e1 hp⟩
 |stuck=>rw[hm]at hp;exact hp
theorem QC(h:iV K ca B m σ H Q)(i:∀x H1,Q x H1->Q' x H1):iV K ca B m σ H Q':=by
 obtain⟨σ3,g,μ,R,p⟩:=h;refine⟨σ3,g,μ,R,?_⟩;cases hm:m σ3 g with
 |ok d g1=>rw[hm]at p;exact λv H1 μ1 e r q=>i _ _ (p v H1 μ1 e r q)
 |stuck=>rw[hm]at p;exact p
theorem VS(h:eO K ca m σ H Q)(i:∀x H1,Q x H1->Q' x H1):eO K ca m σ H Q':=by
 obtain⟨σ3,g,μ,R,p⟩:=h;refine⟨σ3,g,μ,R,?_⟩;cases hm:m σ3 g with
 |ok d g1=>rw[hm]at p;exact λH1 μ1 e r=>i _ _ (p H1 μ1 e r)
 |stuck=>rw[hm]at p;exact p
end
theorem QZ(h:PE X e t)(i:∀σ H Q,t' σ H Q->t σ H Q):PE X e t':=λpins s σ H Q I q=>h pins s σ H Q I (i σ H Q q)
theorem F3(h:PT X e t)(i:∀σ H Q,t' σ H Q->t σ H Q):PT X e t':=λpins s σ H Q I q=>h pins s σ H Q I (i σ H Q q)
theorem LR(h:PW X e t)(i:∀σ H Q,t' σ H Q->t σ H Q):PW X e t':=λw pins s σ H Q I q=>h w pins s σ H Q I (i σ H Q q)
theorem LS(h:PA X e t)(i:∀σ H Q,t' σ H Q->t σ H Q):PA X e t':=λp pins s σ H Q I q=>h p pins s σ H Q I (i σ H Q q)
theorem ZO(h:PS X e t)(i:∀D σ H,t' D σ H->t D σ H):PS X e t':=λpins s σ H D I q=>h pins s σ H D I (i D σ H q)
theorem Ed(h:Im X e t)(i:∀D σ H,t' D σ H->t D σ H):Im X e t':=λpins s σ H D I q=>h pins s σ H D I (i D σ H q)
section
variable{X:Cx}{ca:Nat->Addr}{a b c e:Expr}{es rest:List Expr}{ma mb me:ME}{tc ta tb:MT}{mr:MA}{pos:Pos}
theorem qX{sc:Scope}{x:Str}(h:sc.names.lookup x=some .local):jE sc x:=Or.inl h
theorem eR{sc:Scope}{x:Str}(h:sc.names.lookup x=some .local):L2.Loc sc x:=Or.inl h
theorem lK(i:Nat){x:Str}(hN:X.N[i]?=some x:=by exact Eq.refl (some _))(hv:jE X.env.scope x:=by first|exact qX (Eq.refl (some _))|exact Or.inr (Or.inl rfl)|exact Or.inr (Or.inr rfl))(hd:(x==("__debug__" : Str))=false:=by exact Eq.refl false)(hcd:(x==("__classdict__" : Str))=false:=by exact Eq.refl false):Qs ca X (.Name x pos) (Qa i):=
 QZ (bW (X:=xo X) hN hv hd hcd) λσ H Q hQ=>by
  obtain⟨σ3,g,μ,R,p⟩:=hQ;unfold Qa at p;cases e:σ3[i]? with
  |none=>rw[e]at p;exact p.elim|some o=>
   cases o with
   |none=>rw[e]at p;exact p.elim|some d =>rw[e]at p;obtain⟨v,h1,h2⟩:=R.st i d e;exact⟨v,h1,p v H μ .refl R.g h2⟩
theorem G3(h:PE (xo X) e (tC v))(hd:∀K μ H,Den K μ H v d):Qs ca X e (Qp d):=QZ h λ_ H _ ⟨_,_,μ,R,p⟩=>p v H μ .refl R.g (hd _ _ _)
theorem lL  : Qs ca X (.Constant (.int i) j pos) (Qp (.int i)):=G3 bX λ_ _ _=>.int i
theorem lM  : Qs ca X (.Constant (.str x) j pos) (Qp (.str x)):=G3 bZ λ_ _ _=>.str x
theorem qY  : Qs ca X (.Constant (.bool x) j pos) (Qp (.bl x)):=G3 jF λ_ _ _=>.bl x
theorem lO:Qs ca X (.Constant .none j pos) (Qp .non):=G3 bY λ_ _ _=>.non
theorem Pi(hm:X.mg x=some u)(r:RelV v u)(hd':∀K μ H,Den K μ H v d)(hg:Gl X x:=by exact Eq.refl (some _))(hd:(x==("__debug__" : Str))=false:=by exact Eq.refl false):Qs ca X (.Name x pos) (Qp d):=G3 (LB (X:=xo X) hg hm r hd) hd'
def Yd(K:Frag)(ca:Nat->Addr)(r:R2)(f:D->D->G->Res D):Prop:=∀(H:Hp)(μ:List Addr)(g:G)(x y:V)(dx dy:D)(Q:VK),GRep K ca μ H g->Den K μ H x dx->Den K μ H y dy->Jg K ca Q H μ (f dx dy g)->r x y H Q
theorem F4{K:Frag}{r:R2}{f:D->D->G->Res D}(hp:Yd K ca r f)(σ:L2.St)(H:Hp)(Q:VK)(h:up K ca (Qc f ma mb) σ H Q):jU r (up K ca ma) (up K ca mb) σ H Q:=by obtain⟨σ3,g,μ,R,p⟩:=h;refine QC (Zl R p) λx H1 ⟨dx,g1,μ1,e1,R1,q1,p1⟩=>?_;refine QC (Zl R1 p1) λy H2 ⟨dy,g2,μ2,e2,R2,q2,p2⟩=>?_;exact hp H2 μ2 g2 x y dx dy Q R2.g (q1.mono e2) q2 p2
theorem Fk(ho:OpR (xo X) (binaryOp op) r)(hp:Yd X.K ca r f)(ha:Qs ca X a ma)(hb:Qs ca X b mb):Qs ca X (.BinOp a op b pos) (Qc f ma mb):=QZ (jV ho ha hb) (F4 hp)
theorem Fl(ho:OpR (xo X) (compareOp op) r)(hp:Yd X.K ca r f)(ha:Qs ca X a ma)(hb:Qs ca X b mb)(hm:behindInMarks op b=false):Qs ca X (.Compare a [op] [b] pos) (Qc f ma mb):=QZ (AF ho ha hb hm) (F4 hp)
theorem lP(ho:IxR (xo X) r)(hp:Yd X.K ca r f)(ha:Qs ca X a ma)(hb:Qs ca X b mb)(hs:Co b:=by exact λ_ _=>rfl):Qs ca X (.Subscript a b pos) (Qc f ma mb):=QZ (kH ho ha hb hs) (F4 hp)
theorem qZ{op:UnaryOp}{r:V->Hp->VK->Prop}{f:D->G->Res D}(ho:oQ (xo X) (unaryOp op) r)(hp:∀(H:Hp) (μ:List Addr) (g:G) (x:V) (dx:D) (Q:VK),GRep X.K ca μ H g->Den X.K μ H x dx->Jg X.K ca Q H μ (f dx g)->r x H Q)(ha:Qs ca X a ma):Qs ca X (.UnaryOp op a pos) (Qi f ma):=QZ (jW ho ha) λσ H Q ⟨σ3,g,μ,R,p⟩=>QC (Zl R p) λx H1 ⟨dx,g1,μ1,e1,R1,q1,p1⟩=>hp H1 μ1 g1 x dx Q R1.g q1 p1
theorem JW:Oo ca X [] Qd:=LS (FL (X:=xo X)) λ_ H _ ⟨_,_,μ,R,p⟩=>p [] H μ .refl R.g .nil
theorem ZN(ha:Qs ca X e me)(hr:Oo ca X es mr)(hs:starEach (e::es) X.env=(false,eval e X.env)::starEach es X.env:=by rfl):Oo ca X (e::es) (Qb me mr):=LS (Xf (X:=xo X) ha hr hs) λσ H Q ⟨σ3,g,μ,R,p⟩=>QC (Zl R p) λx H1 ⟨d,g1,μ1,e1,R1,q1,p1⟩=>
  QC (Zl R1 p1) λxs H2 ⟨ds,g2,μ2,e2,R2,q2,p2⟩=>p2 (x::xs) H2 μ2 .refl R2.g (.cons (q1.mono e2) q2)
theorem eS(ha:Qs ca X a ma)(he:∀whole,isTrue a X.env whole=(do let v <-whole;standAt a.pos;holding [v] (truthy v)):=by intro _;rfl):B3 ca X a (Qf ma):=
 F3 (cA (X:=xo X) ha he) λσ H Q ⟨σ3,g,μ,R,p⟩=>QC (bD R p) λx H1 hQ=>by
  obtain⟨d,g1,μ1,e1,R1,q1,p1⟩:=hQ;cases q1 with
  |bl b=>exact⟨b,rfl,p1 H1 μ1 .refl R1.g⟩|_=>exact p1.elim
theorem JB(ho:OpR (xo X) (compareOp op) r)(hp:Yd X.K ca r f)(ha:Qs ca X a ma)(hb:Qs ca X b mb)(hm:behindInMarks op b=false):B3 ca X (.Compare a [op] [b] pos) (Qf (Qc f ma mb)):=
 F3 (AG ho ha hb hm) λσ H Q hQ=>by
  obtain⟨σ3,g,μ,R,p⟩:=hQ;have q:up X.K ca (Qc f ma mb) σ H λx H'=>∃k,x=.bl k/\Q k H':=QC (bD R p) λx H1 hQ=>by
   obtain⟨d,g1,μ1,e1,R1,q1,p1⟩:=hQ;cases q1 with
   |bl b=>exact⟨b,rfl,p1 H1 μ1 .refl R1.g⟩|_=>exact p1.elim
  exact F4 hp σ H _ q
theorem eT(ha:B3 ca X a ta):B3 ca X (.UnaryOp .Not a pos) (QR ta):=F3 (cD (X:=xo X) ha) λσ H Q ⟨σ3,g,μ,R,p⟩=>VS (IM R p) λb H1 ⟨g1,μ1,e1,R1,p1⟩=>p1 H1 μ1 .refl R1.g
theorem AZ(ha:B3 ca X a ta):bC ca X (.BoolOp .And [a] pos) ta:=Av (X:=xo X) ha
theorem eU(ha:B3 ca X a ta):bC ca X (.BoolOp .Or [a] pos) ta:=cB (X:=xo X) ha
theorem Pj(ha:B3 ca X a ta)(hb:bC ca X (.BoolOp .And (b::rest) pos) tb):bC ca X (.BoolOp .And (a::b::rest) pos) (Vd ta tb):=
 LR (cC (X:=xo X) ha hb) λσ H Q ⟨σ3,g,μ,R,p⟩=>VS (IM R p) λb H1 hQ=>by
  obtain⟨g1,μ1,e1,R1,p1⟩:=hQ;cases b with
  |true=>rw[Uf rfl]at p1 ⊢;exact⟨σ3,g1,μ1,R1,p1⟩|false=>rw[Uh Uj]at p1 ⊢;exact p1 H1 μ1 .refl R1.g
theorem bE(ha:B3 ca X a ta)(hb:bC ca X (.BoolOp .Or (b::rest) pos) tb):bC ca X (.BoolOp .Or (a::b::rest) pos) (ZV ta tb):=
 LR (jG (X:=xo X) ha hb) λσ H Q ⟨σ3,g,μ,R,p⟩=>VS (IM R p) λb H1 hQ=>by
  obtain⟨g1,μ1,e1,R1,p1⟩:=hQ;cases b with
  |true=>rw[Uf rfl]at p1 ⊢;exact p1 H1 μ1 .refl R1.g|false=>rw[Uh Uj]at p1 ⊢;exact⟨σ3,g1,μ1,R1,p1⟩
theorem sO(h:bC ca X e ta):B3 ca X e ta:=h.pt
theorem lQ(ha:Qs ca X a ma):Qs ca X (.UnaryOp .Not a pos) (eL ma):=
 QZ (cG (X:=xo X) ha) λσ H Q ⟨σ3,g,μ,R,p⟩=>QC (Zl R p) λx H1 hQ=>by
  obtain⟨d,g1,μ1,e1,R1,q1,p1⟩:=hQ;cases q1 with
  |bl b=>exact⟨b,rfl,p1 _ H1 μ1 .refl R1.g (.bl _)⟩|_=>exact p1.elim
theorem lR(ha:Qs ca X a ma):Qs ca X (.BoolOp op [a] pos) ma:=cE (X:=xo X) ha
theorem lS(ha:Qs ca X a ma)(hb:Qs ca X (.BoolOp .And (b::rest) pos) mb):Qs ca X (.BoolOp .And (a::b::rest) pos) (YN ma mb):=
 QZ (cF (X:=xo X) ha hb) λσ H Q ⟨σ3,g,μ,R,p⟩=>QC (Zl R p) λx H1 hQ=>by
  obtain⟨d,g1,μ1,e1,R1,q1,p1⟩:=hQ;cases q1 with
  |bl b=>
   refine⟨b,rfl,?_⟩;cases b with
   |true=>rw[Uf rfl];exact⟨σ3,g1,μ1,R1,p1⟩|false=>rw[Uh Uj];exact p1 _ H1 μ1 .refl R1.g (.bl _)
  |_=>exact p1.elim
theorem rA(ha:Qs ca X a ma)(hb:Qs ca X (.BoolOp .Or (b::rest) pos) mb):Qs ca X (.BoolOp .Or (a::b::rest) pos) (qU ma mb):=
 QZ (jJ (X:=xo X) ha hb) λσ H Q ⟨σ3,g,μ,R,p⟩=>QC (Zl R p) λx H1 hQ=>by
  obtain⟨d,g1,μ1,e1,R1,q1,p1⟩:=hQ;cases q1 with
  |bl b=>
   refine⟨b,rfl,?_⟩;cases b with
   |true=>rw[Uf rfl];exact p1 _ H1 μ1 .refl R1.g (.bl _)|false=>rw[Uh Uj];exact⟨σ3,g1,μ1,R1,p1⟩
  |_=>exact p1.elim
theorem lT(hc:B3 ca X c tc)(ha:Qs ca X a ma)(hb:Qs ca X b mb):Qs ca X (.IfExp c a b pos) (ET tc ma mb):=
 QZ (Ou (X:=xo X) hc ha hb) λσ H Q ⟨σ3,g,μ,R,p⟩=>VS (eQ R p) λb H1 hQ=>by
  obtain⟨g1,μ1,e1,R1,p1⟩:=hQ;cases b with
  |true=>rw[Uf rfl]at p1 ⊢;exact⟨σ3,g1,μ1,R1,p1⟩|false=>rw[Uh Uj]at p1 ⊢;exact⟨σ3,g1,μ1,R1,p1⟩
theorem Z5:SZ<=sizeLine:=by rw[TU];decide
theorem Dens.sz{K:Frag}{μ:List Addr}{H:Hp}{vs:List V}{ds:List D}(h:Dens K μ H vs ds)(z:ds.length<=SZ):vs.length<=sizeLine:=by rw[h.length];exact Uk z Z5
theorem lU(h:Oo ca X es mr):Qs ca X (.Tuple es k pos) (QQ Yy mr):=
 QZ (OF (X:=xo X) h) λσ H Q ⟨σ3,g,μ,R,p⟩=>QC (Zl R p) λxs H1 hQ=>by
  obtain⟨ds,g1,μ1,e1,R1,q1,p1⟩:=hQ;unfold Yy at p1;by_cases z:ds.length<=SZ
  ·rw[Uf z]at p1;exact⟨q1.sz z,λt ht=>p1 _ _ μ1 (Q8 ht) (R1.g.new ht) (.tup (.of Qr) (q1.mono (Q8 ht)))⟩
  ·rw[Uh z]at p1;exact p1.elim
theorem lV(h:Oo ca X es mr):Qs ca X (.List es pos) (QQ ZD mr):=
 QZ (cY (X:=xo X) h) λσ H Q ⟨σ3,g,μ,R,p⟩=>QC (Zl R p) λxs H1 hQ=>by
  obtain⟨ds,g1,μ1,e1,R1,q1,p1⟩:=hQ;unfold ZD at p1;by_cases z:ds.length<=SZ
  ·rw[Uf z]at p1;refine⟨q1.sz z,λt ht=>p1 _ _ (μ1++[t]) (Q3 ht) (R1.g.push ht ⟨xs,Qr,q1.mono (Q3 ht)⟩) (.ref ?_)⟩;rw[<-R1.g.len];simp
  ·rw[Uh z]at p1;exact p1.elim
end
end L3
namespace L3
open PySem PySem.Spec PyProof.Rows L2
section
variable{X:Cx}{ca:Nat->Addr}{a b c e:Expr}{st:Stmt}{sts rest:List Stmt}{ma mb me:ME}{tc:MT}{m m':MS}{pos:Pos}
theorem eV:VR ca X [] Qv:=Ed (Aw (X:=xo X)) λ_ σ H ⟨_,_,μ,R,p⟩=>p σ H μ .refl R
theorem eY{K:Frag}(E:Ends)(σ:L2.St)(H:Hp)(h:iW K ca (Qm m m') E σ H):jL (iW K ca m) (iW K ca m') E σ H:=by
 obtain⟨σ3,g,μ,R,p⟩:=h;refine⟨σ3,g,μ,R,?_⟩;unfold Qm at p;cases hm:m σ3 g with
 |nx σ1 g1 =>rw[hm]at p;exact λσ' H' μ' e' R'=>⟨σ1,g1,μ',R',PostS.go e' p⟩
 |rt d g1=>rw[hm]at p;exact p|bk _ _=>rw[hm]at p;exact p|ct _ _=>rw[hm]at p;exact p|stuck=>rw[hm]at p;exact p
theorem A0(h1:F2 ca X st m)(h2:VR ca X rest m'):VR ca X (st::rest) (Qm m m'):=Ed (Ov (X:=xo X) h1 h2) eY
theorem eZ(h1:F2 ca X st m):VR ca X [st] m:=Ax (X:=xo X) h1
theorem fA:F2 ca X (.Continue pos) sM:=ZO (GR (X:=xo X)) λ_ σ H ⟨_,_,μ,R,p⟩=>p σ H μ .refl R
theorem A1:F2 ca X st Zy:=ZO (Ox (X:=xo X)) λ_ _ _ ⟨_,_,_,_,p⟩=>p
theorem Pk:VR ca X sts Zy:=Ed (MR (X:=xo X)) λ_ _ _ ⟨_,_,_,_,p⟩=>p
theorem fB:Qs ca X e Pc:=λ_ _ _ _ _ _ ⟨_,_,_,_,p⟩=>p.elim
theorem fE:B3 ca X e Pd:=λ_ _ _ _ _ _ ⟨_,_,_,_,p⟩=>p.elim
theorem fF(he:Qs ca X e me)(hs:swapsWith e none pos.line X.env=pure false:=by rfl):F2 ca X (.Expr e pos) (Q6 me):=
 ZO (Ay (X:=xo X) he hs) λE σ H ⟨σ3,g,μ,R,p⟩=>⟨σ3,g,μ,R,by
  unfold Q6 at p;cases hm:me σ3 g with
  |ok d g1=>rw[hm]at p;exact λv H' μ' e' r' _=>p σ H' μ' e' (R.go e' r')
  |stuck=>rw[hm]at p;exact p⟩
theorem lW(he:Qs ca X e me):F2 ca X (.Return (some e) pos) (Qz me):=
 ZO (cH (X:=xo X) he) λE σ H ⟨σ3,g,μ,R,p⟩=>⟨σ3,g,μ,R,by
  unfold Qz at p;cases hm:me σ3 g with
  |ok d g1=>rw[hm]at p;exact p|stuck=>rw[hm]at p;exact p⟩
theorem fG:F2 ca X (.Return none pos) Pb:=ZO (Az (X:=xo X)) λ_ σ H ⟨_,_,μ,R,p⟩=>p .non H μ .refl R.g .non
theorem rB(hc:B3 ca X c tc)(ha:VR ca X sa m)(hb:VR ca X sb m'):F2 ca X (.If c sa sb pos) (ZT tc m m'):=
 ZO (jP (X:=xo X) hc ha hb) λE σ H ⟨σ3,g,μ,R,p⟩=>⟨σ3,g,μ,R,by
  unfold ZT at p;cases hm:tc σ3 g with
  |ok d g1=>
   rw[hm]at p;cases d with
   |true=>exact λH' μ' e' r'=>by show(if true=true then _ else _);rw[Uf rfl];exact⟨σ3,g1,μ',R.go e' r',PostS.go e' (by simpa using p)⟩
   |false=>exact λH' μ' e' r'=>by show(if false=true then _ else _);rw[Uh Uj];exact⟨σ3,g1,μ',R.go e' r',PostS.go e' (by simpa using p)⟩
  |stuck=>rw[hm]at p;exact p⟩
def sP(K:Frag)(ca:Nat->Addr)(f:MG):TG:=λv σ H Q=>∃σ3 g μ d σ3',Rep K ca μ σ3 g σ H/\Den K μ H v d/\f d σ3=some σ3'/\∀σ',Rep K ca μ σ3' g σ' H->Q σ' H
def A2(ca:Nat->Addr)(X:Cx)(tg:Expr)(f:MG):Prop:=PG (xo X) tg (sP X.K ca f)
theorem LT(h:PG X tg t)(i:∀v σ H Q,t' v σ H Q->t v σ H Q):PG X tg t':=λpins s σ H x u Q I r q=>h pins s σ H x u Q I r (i x σ H Q q)
theorem Rep.set{K:Frag}{μ:List Addr}{σ3:S3}{g:G}{σ:L2.St}{H:Hp}{v:V}{d:D}(R:Rep K ca μ σ3 g σ H)(h:Den K μ H v d)(i:Nat):Rep K ca μ (σ3.set i (some d)) g (σ.set i (some v)) H:=by
 refine⟨R.g,by rw[UQ,UQ,R.len],λj x hx=>?_⟩;by_cases e:j=i
 ·subst e;have hl:j<σ3.length:=by have:=(Um.mp hx).1;simpa using this
  rw[UT hl]at hx;cases hx;exact⟨v,by rw[UT (by rw[R.len];exact hl)],h⟩
 ·rw[Ud (Ne.symm e)]at hx;obtain⟨w,h1,h2⟩:=R.st j x hx;exact⟨w,by rw[Ud (Ne.symm e)];exact h1,h2⟩
theorem fH(i:Nat){x:Str}(hN:X.N.Nodup)(hi:X.N[i]?=some x:=by exact Eq.refl (some _))(hx:Loc X.env.scope x:=by first|exact eR (Eq.refl (some _))|exact Or.inr rfl)(hf:X.fn x=true\/X.env.scope.names.lookup x=some .local:=by first|exact .inl rfl|exact .inr rfl):A2 ca X (.Name x pos) (Ql i):=
 LT (AB (X:=xo X) hN hi hx hf) λv σ H Q hQ=>by obtain⟨σ3,g,μ,d,σ3',R,q,e,k⟩:=hQ;cases e;exact k _ (R.set q i)
def rC(K:Frag)(ca:Nat->Addr)(fs:List MG):aQ:=λvs σ H Q=>∃σ3 g μ ds σ3',Rep K ca μ σ3 g σ H/\Dens K μ H vs ds/\Fj fs ds σ3=some σ3'/\∀σ',Rep K ca μ σ3' g σ' H->Q σ' H
def Pl(ca:Nat->Addr)(X:Cx)(tgs:List Expr)(fs:List MG):Prop:=cI (xo X) tgs (rC X.K ca fs)
theorem G4(h:cI X tg t)(i:∀v σ H Q,t' v σ H Q->t v σ H Q):cI X tg t':=λpins s σ H xs us Q I r q=>h pins s σ H xs us Q I r (i xs σ H Q q)
theorem fI:Pl ca X [] []:=G4 (AC (X:=xo X)) λvs σ H Q hQ=>by
 obtain⟨σ3,g,μ,ds,σ3',R,q,e,k⟩:=hQ;cases q with
 |nil=>cases e;exact⟨rfl,k _ R⟩|cons _ _=>cases e
theorem A3{es:List Expr}{f:MG}{fs:List MG}(h1:A2 ca X e f)(h2:Pl ca X es fs)(hs:(assignEach (e::es) X.env).map (·.2)=assign e X.env::(assignEach es X.env).map (·.2):=by rfl):Pl ca X (e::es) (f::fs):=
 G4 (Oy (X:=xo X) h1 h2 hs) λvs σ H Q hQ=>by
  obtain⟨σ3,g,μ,ds,σ3',R,q,e,k⟩:=hQ;cases q with
  |nil=>cases e|@cons v d vs ds q1 q2=>
   unfold Fj at e;cases hf:f d σ3 with
   |none=>rw[hf]at e;cases e|some σ4 =>rw[hf]at e;exact⟨v,vs,rfl,σ3,g,μ,d,σ4,R,q1,hf,λσ' R'=>⟨σ4,g,μ,ds,σ3',R',q2,e,k⟩⟩
theorem Fm:∀{fs:List MG}{ds:List D}{σ σ':S3},Fj fs ds σ=some σ'->ds.length=fs.length
 |[],[],_,_,_=>rfl|[],_::_,_,_,h=>by cases h
 |_::_,[],_,_,h=>by cases h
 |f::fs,d::ds,σ,σ',h=>by
  unfold Fj at h;cases hf:f d σ with
  |none=>rw[hf]at h;cases h|some σ4 =>rw[hf]at h;rw[UJ,UJ,Fm (fs:=fs) h]
theorem fJ{es:List Expr}{k:Nat}{fs:List MG}(hc:X.calm=true)(h:Pl ca X es fs)(hn:(assignEach es X.env).length=fs.length:=by rfl)(hst:(assignEach es X.env).findIdx? (·.1)=none:=by rfl):A2 ca X (.Tuple es k pos) (Eb fs):=
 LT (cK (X:=xo X) hc h hn hst) λv σ H Q hQ=>by
  obtain⟨σ3,g,μ,d,σ3',R,q,e,kk⟩:=hQ;cases q with
  |@tup a vs ds ht hs =>exact⟨a,vs,rfl,ht,hs.length.trans (Fm e),σ3,g,μ,ds,σ3',R,hs,e,kk⟩|_=>cases e
theorem fK{K:Frag}{f:MG}(E:Ends)(σ:L2.St)(H:Hp)(h:iW K ca (QF f me) E σ H):cL (up K ca me) (sP K ca f) E σ H:=by
 obtain⟨σ3,g,μ,R,p⟩:=h;refine⟨σ3,g,μ,R,?_⟩;unfold QF at p;cases hm:me σ3 g with
 |ok d g1=>
  rw[hm]at p;dsimp only at p;intro v H' μ' e' r' q';cases hf:f d σ3 with
  |none=>rw[hf]at p;exact p.elim|some σ4 =>rw[hf]at p;exact⟨σ3,g1,μ',d,σ4,R.go e' r',q',hf,λσ' R'=>p σ' H' μ' e' R'⟩
 |stuck=>rw[hm]at p;exact p
theorem lX{tg:Expr}{f:MG}(he:Qs ca X e me)(hg:A2 ca X tg f)(hs:swapsWithSole [tg] e pos.line X.env=pure false:=by rfl)(hw:swappedStores [tg] e X.env=pure none:=by rfl)(h1:(assignEach [tg] X.env).map (·.2)=[assign tg X.env]:=by rfl):F2 ca X (.Assign [tg] e pos) (QF f me):=ZO (FK (X:=xo X) he hg hs hw h1) fK
theorem lY(i:Nat){x:Str}{pos':Pos}(hN:X.N.Nodup)(he:Qs ca X e me)(hi:X.N[i]?=some x:=by exact Eq.refl (some _))(hx:Loc X.env.scope x:=by first|exact eR (Eq.refl (some _))|exact Or.inr rfl)(hs:swapsWith e (some (.Name x pos')) pos.line X.env=pure false:=by rfl)(hf:X.fn x=true\/X.env.scope.names.lookup x=some .local:=by first|exact .inl rfl|exact .inr rfl):
  F2 ca X (.Assign [.Name x pos'] e pos) (QF (Ql i) me):=
 ZO (cN (X:=xo X) hN hi hx he hs hf) λE σ H h=>by
  obtain⟨σ3,g,μ,R,p⟩:=h;refine⟨σ3,g,μ,R,?_⟩;unfold QF Ql at p;cases hm:me σ3 g with
  |ok d g1 =>rw[hm]at p;exact λv H' μ' e' r' q'=>p _ H' μ' e' ((R.go e' r').set q' i)
  |stuck=>rw[hm]at p;exact p
structure FldOk(K:Frag)(ca:Nat->Addr)(cs:List Nat)(f:Str):Prop where
 cl:∀c∈cs,Cls K (ca c)
 no:∀c∈cs,NoAttr K (ca c) f
theorem FRel.look{K:Frag}{μ:List Addr}{H:Hp}{f:Str}{d:D}:∀{fv:List (Str×V)}{fs:List (Str×D)},FRel K μ H fv fs->fs.lookup f=some d->∃v,fv.lookup f=some v/\Den K μ H v d
 |_,_,.nil,h=>by cases h
 | (k,v)::r,(k',d')::r',.cons ⟨e,q⟩ t,h=>by
  have e:k=k':=e;subst e;cases hb:f==k with
  |true =>simp only[List.lookup,hb]at h ⊢;cases h;exact⟨v,rfl,q⟩|false =>simp only[List.lookup,hb]at h ⊢;exact FRel.look t h
theorem FRel.no{K:Frag}{μ:List Addr}{H:Hp}{f:Str}:∀{fv:List (Str×V)}{fs:List (Str×D)},FRel K μ H fv fs->fs.lookup f=Option.none->fv.lookup f=Option.none
 |_,_,.nil,_=>rfl| (k,v)::r,(k',d')::r',.cons ⟨e,q⟩ t,h=>by
  have e:k=k':=e;subst e;cases hb:f==k with
  |true=>simp only[List.lookup,hb]at h;cases h|false =>simp only[List.lookup,hb]at h ⊢;exact FRel.no t h
theorem FRel.put{K:Frag}{μ:List Addr}{H:Hp}{f:Str}{v:V}{d:D}(q:Den K μ H v d):∀{fv:List (Str×V)}{fs:List (Str×D)},FRel K μ H fv fs->FRel K μ H (Xe f v fv) (BQ f d fs)
 |_,_,.nil=>.cons ⟨rfl,q⟩ .nil| (k,w)::r,(k',d')::r',.cons ⟨e,z⟩ t=>by
  have e:k=k':=e;subst e;show FRel K μ H (if k=f then (k,v)::r else (k,w)::Xe f v r) (if k=f then (k,d)::r' else (k,d')::BQ f d r');by_cases h:k=f
  ·rw[Uf h,Uf h];exact .cons ⟨rfl,q⟩ t
  ·rw[Uh h,Uh h];exact .cons ⟨rfl,z⟩ (FRel.put q t)
theorem fL{cs:List Nat}{f:Str}(he:Qs ca X e me)(ok:FldOk X.K ca cs f)(hb:attributeBase e f X.env (eval e X.env)=eval e X.env:=by rfl):Qs ca X (.Attribute e f pos) (Qj cs f me):=
 QZ (cW (X:=xo X) he hb) λσ H Q ⟨σ3,g,μ,R,p⟩=>QC (Zl R p) λx H1 hQ=>by
  obtain⟨d,g1,μ1,e1,R1,q1,p1⟩:=hQ;cases q1 with
  |@ref n a hn=>
   dsimp only at p1;cases hg:g1[n]? with
   |none=>rw[hg]at p1;exact p1.elim|some o=>
    rw[hg]at p1;obtain⟨a',ha',ob⟩:=R1.g.addr hg;rw[hn]at ha';cases ha';cases o with
    |ins c fs=>
     dsimp only at p1;obtain⟨dx,fv,hH,fr⟩:=ob;by_cases hc:c∈cs
     ·rw[Uf hc]at p1;cases hl:fs.lookup f with
      |none=>rw[hl]at p1;exact p1.elim|some y =>rw[hl]at p1;obtain⟨v,h1,h2⟩:=fr.look hl;exact⟨a,ca c,dx,fv,v,rfl,hH,ok.cl c hc,ok.no c hc,h1,p1 v H1 μ1 .refl R1.g h2⟩
     ·rw[Uh hc]at p1;exact p1.elim
    |_=>exact p1.elim
  |_=>exact p1.elim
theorem Nm(ho:Qs ca X o mo)(he:Qs ca X e me)(ok:FldOk X.K ca cs f)(hs:swapsWith e (some (.Attribute o f pos')) pos.line X.env=pure false:=by rfl):
  F2 ca X (.Assign [.Attribute o f pos'] e pos) (Qw cs f mo me):=
 ZO (cX (X:=xo X) ho he hs) λE σ H ⟨σ3,g,μ,R,p⟩=>⟨σ3,g,μ,R,by
  unfold Qw at p;cases hm:me σ3 g with
  |ok y g1=>
   rw[hm]at p;dsimp only at p;intro vy H1 μ1 e1 r1 q1;refine⟨σ3,g1,μ1,R.go e1 r1,?_⟩;cases hm2:mo σ3 g1 with
   |ok d g2=>
    rw[hm2]at p;intro vx H2 μ2 e2 r2 q2;cases q2 with
    |@ref n a hn=>
     dsimp only at p;cases hg:g2[n]? with
     |none=>rw[hg]at p;exact p.elim|some ob=>
      rw[hg]at p;obtain⟨a',ha',orp⟩:=r2.addr hg;rw[hn]at ha';cases ha';cases ob with
      |ins c fs=>
       dsimp only at p;obtain⟨dx,fv,hH,fr⟩:=orp;by_cases hc:c∈cs/\fs.length<100
       ·rw[Uf hc]at p;have fl:fv.length=fs.length:=Paired.length fr;refine⟨a,ca c,dx,fv,rfl,hH,ok.cl c hc.1,ok.no c hc.1,by omega,?_⟩;have ex:Ext X.K μ2 H2 μ2 (Za H2 a (.ins (ca c) dx (Xe f vy fv))):=Z4 hH (by intro _ z;cases z) (by intro _ _ z;cases z);refine p σ _ μ2 ((e1.trans e2).trans ex) ((R.go (e1.trans e2) r2).go ex ?_);exact r2.set hn hH (by intro _ z;cases z) (by intro _ _ z;cases z) ⟨dx,_,Qr,FRel.put ((q1.mono e2).mono ex) (fr.mono ex)⟩
       ·rw[Uh hc]at p;exact p.elim
      |_=>exact p.elim
    |_=>exact p.elim
   |stuck=>rw[hm2]at p;exact p
  |stuck=>rw[hm]at p;exact p⟩
theorem A4{o i:Expr}{mo mi:ME}{pos':Pos}(ho:Qs ca X o mo)(hi:Qs ca X i mi)(he:Qs ca X e me)(hs:swapsWithSole [.Subscript o i pos'] e pos.line X.env=pure false:=by rfl)(hw:swappedStores [.Subscript o i pos'] e X.env=pure none:=by rfl)(h1:(assignEach [.Subscript o i pos'] X.env).map (·.2)=[assign (.Subscript o i pos') X.env]:=by rfl)(ha:∀v,assign (.Subscript o i pos') X.env v=(do
   let ov <-holding [v] (eval o X.env)
   let iv <-holding [v,ov] (eval i X.env)
   standAt pos'
   holding [v,ov,iv] (setItem ov iv v)
   release [v,ov,iv] []):=by intro _;rfl):F2 ca X (.Assign [.Subscript o i pos'] e pos) (Ec mo mi me):=
 ZO (FK (X:=xo X) he (Io (X:=xo X) ho hi OI ha) hs hw h1) λE σ H ⟨σ3,g,μ,R,p⟩=>⟨σ3,g,μ,R,by
  unfold Ec at p;cases hm:me σ3 g with
  |ok y g1=>
   rw[hm]at p;dsimp only at p;intro vy H1 μ1 e1 r1 q1;refine⟨σ3,g1,μ1,R.go e1 r1,?_⟩;cases hm2:mo σ3 g1 with
   |ok d g2=>
    rw[hm2]at p;intro vx H2 μ2 e2 r2 q2;cases q2 with
    |@ref n a hn=>
     dsimp only at p;refine⟨σ3,g2,μ2,R.go (e1.trans e2) r2,?_⟩;cases hm3:mi σ3 g2 with
     |ok di g3=>
      rw[hm3]at p;intro vi H3 μ3 e3 r3 q3;cases q3 with
      |int k=>
       dsimp only at p;cases hg:g3[n]? with
       |none=>rw[hg]at p;exact p.elim|some ob=>
        rw[hg]at p;obtain⟨a',ha',orp⟩:=r3.addr hg;rw[e3.at hn]at ha';cases ha';cases ob with
        |lst ds=>
         dsimp only at p;obtain⟨vs,hH,q⟩:=orp;cases hj:Nk ds.length k with
         |none=>rw[hj]at p;exact p.elim|some j =>rw[hj]at p;have ex:Ext X.K μ3 H3 μ3 (Za H3 a (.lst (vs.set j vy))):=Z4 hH (by intro _ z;cases z) (by intro _ _ z;cases z);refine⟨a,vs,k,j,rfl,rfl,hH,by rw[q.length];exact hj,?_⟩;refine p σ _ μ3 (((e1.trans e2).trans e3).trans ex) ((R.go ((e1.trans e2).trans e3) r3).go ex ?_);exact r3.set (e3.at hn) hH (by intro _ z;cases z) (by intro _ _ z;cases z) ⟨_,Qr,Dens.set (((q1.mono e2).mono e3).mono ex) j (q.mono ex)⟩
        |_=>exact p.elim
      |_=>exact p.elim
     |stuck=>rw[hm3]at p;exact p
    |_=>exact p.elim
   |stuck=>rw[hm2]at p;exact p
  |stuck=>rw[hm]at p;exact p⟩
def A5(K:Frag)(ca:Nat->Addr)(μ0:List Addr)(H0:Hp)(src:Src)(J:It):Prop:=
 ∀(i:Nat)(H:Hp)(μ:List Addr)(g:G),Ext K μ0 H0 μ H->GRep K ca μ H g->match src.at' g i with
  |some (some d)=>J.go i H/\∀x H',J.yld i H x H'->Ext K μ H μ H'/\GRep K ca μ H' g/\Den K μ H' x d|some none=>J.stop i H|none=>True
def tK(K:Frag)(ca:Nat->Addr)(m:MI):TI:=λσ H R=>∃σ3 g μ,Rep K ca μ σ3 g σ H/\match m σ3 g with
 |.ok src g'=>∀J H' μ',Ext K μ H μ' H'->GRep K ca μ' H' g'->A5 K ca μ' H' src J->R J H'|.stuck=>False
def Pm(ca:Nat->Addr)(X:Cx)(tg iter:Expr)(m:MI):Prop:=PI (xo X) tg iter (tK X.K ca m)
theorem lZ(hc:X.calm=true)(hi:Pm ca X tg iter mi)(hg:A2 ca X tg f)(hb:VR ca X body m)(hs:∀x,foldedSetIterable iter X.env x=pure x:=by intro _;rfl):
  F2 ca X (.For tg iter body [] pos) (YT mi f m):=
 ZO (cP (X:=xo X) .never hc hi hg hb hs) λE σ H ⟨σ3,g,μ,R,p⟩=>⟨σ3,g,μ,R,by
  unfold YT at p;cases hm:mi σ3 g with
  |ok src g'=>
   rw[hm]at p;dsimp only at p ⊢;intro J H' μ' e' r' sim;refine⟨λi n σ1 H1=>∃σ4 g1 μ1,Ext X.K μ' H' μ1 H1/\Rep X.K ca μ1 σ4 g1 σ1 H1/\PostS X.K ca E H1 μ1 (YS src f m n i σ4 g1),⟨src.top+1,σ3,g',μ',.refl,R.go e' r',p.go e'⟩,?_⟩;rintro i n σ1 H1 ⟨σ4,g1,μ1,e1,R1,p1⟩;have s1:=sim i H1 μ1 g1 e1 R1.g;cases n with
   |zero=>exact p1.elim|succ n=>
    unfold YS at p1;cases ha:src.at' g1 i with
    |none=>rw[ha]at p1;exact p1.elim|some od=>
     rw[ha]at p1 s1;cases od with
     |none=>exact .inl ⟨s1,p1 σ1 H1 μ1 .refl R1⟩|some d=>
      dsimp only at p1 s1;obtain⟨go,yl⟩:=s1;refine .inr ⟨go,λσ2 H2=>∃σ5 g2 μ2,Ext X.K μ' H' μ2 H2/\Rep X.K ca μ2 σ5 g2 σ2 H2/\PostS X.K ca E H2 μ2 (YS src f m n (i+1) σ5 g2),λσ2 H2 z=>⟨n,T6 n,z⟩,λx H2 y=>?_⟩;obtain⟨e2,r2,q2⟩:=yl x H2 y;cases hf:f d σ4 with
      |none=>rw[hf]at p1;exact p1.elim|some σ5 =>rw[hf]at p1;dsimp only at p1;refine⟨σ4,g1,μ1,d,σ5,R1.go e2 r2,q2,hf,λσ6 R6=>⟨σ5,g1,μ1,R6,?_⟩⟩;cases hb:m σ5 g1<;>rw[hb]at p1<;>first|exact λσ' H3 μ3 e3 R3=>⟨_,_,μ3,(e1.trans e2).trans e3,R3,PostS.go (e2.trans e3) p1⟩|exact λσ' H3 μ3 e3=>p1 σ' H3 μ3 (e2.trans e3)|exact p1
  |stuck=>rw[hm]at p;exact p⟩
theorem A6(hc:B3 ca X c tc)(hb:VR ca X body m):F2 ca X (.While c body [] pos) (Km tc m):=
 ZO (Oz (X:=xo X) .never hc hb) λE σ H hQ=>by
  obtain⟨σ3,g,μ,R,p⟩:=hQ;unfold Km at p;by_cases hh:∃f,ZH tc m f σ3 g≠.stuck
  ·rw[iS hh]at p;generalize hh.choose=k at p;refine⟨λn σ1 H1=>∃σ4 g1 μ1,Ext X.K μ H μ1 H1/\Rep X.K ca μ1 σ4 g1 σ1 H1/\PostS X.K ca E H1 μ1 (ZH tc m n σ4 g1),⟨k,σ3,g,μ,.refl,R,p⟩,?_⟩;rintro n σ1 H1 ⟨σ4,g1,μ1,e1,R1,p1⟩;cases n with
   |zero=>exact p1.elim|succ n=>
    unfold ZH at p1;refine⟨σ4,g1,μ1,R1,?_⟩;cases ht:tc σ4 g1 with
    |ok t g2=>
     rw[ht]at p1;cases t with
     |true =>dsimp only at p1;intro H2 μ2 e2 r2;rw[Uf rfl];refine⟨λσ2 H3=>∃σ5 g3 μ3,Ext X.K μ H μ3 H3/\Rep X.K ca μ3 σ5 g3 σ2 H3/\PostS X.K ca E H3 μ3 (ZH tc m n σ5 g3),λσ2 H3 z=>⟨n,T6 n,z⟩,σ4,g2,μ2,R1.go e2 r2,?_⟩;cases hb:m σ4 g2<;>rw[hb]at p1<;>first|exact λσ' H3 μ3 e3 R3=>⟨_,_,μ3,(e1.trans e2).trans e3,R3,PostS.go (e2.trans e3) p1⟩|exact λσ' H3 μ3 e3=>p1 σ' H3 μ3 (e2.trans e3)|exact p1
     |false =>intro H2 μ2 e2 r2;rw[Uh Uj];exact p1 σ1 H2 μ2 e2 (R1.go e2 r2)
    |stuck=>rw[ht]at p1;exact p1
  ·rw[dif_neg hh]at p;exact p.elim
end
abbrev Il:AK:=λ_ _ _ _ _ _=>False
abbrev E0:XK:=λ_ _ _=>True
def Nn(K:Frag)(ca:Nat->Addr)(n:Nat)(F:MF):Sp:=λvs H Q _=>vs.length=n/\∃ds g μ,GRep K ca μ H g/\Dens K μ H vs ds/\Jg K ca Q H μ (F ds g)
theorem Np{K:Frag}{ca:Nat->Addr}{μ:List Addr}{H:Hp}{g:G}{vs:List V}{ds:List D}(N:List Str)(r:GRep K ca μ H g)(q:Dens K μ H vs ds):Rep K ca μ (ds.map some++List.replicate (N.length-vs.length) none) g (L2.start N vs) H:=by
 unfold L2.start;refine⟨r,?_,λi d h=>?_⟩
 ·rw[Uq,Uq,Ue,Ue,q.length,U9,U9]
 ·by_cases hi:i<ds.length
  ·rw[Ul (by simpa using hi),UL]at h;cases hd:ds[i]? with
   |none=>rw[hd]at h;cases h|some d' =>rw[hd]at h;cases h;obtain⟨v,h1,h2⟩:=q.get hd;refine⟨v,?_,h2⟩;rw[Ul (by simpa[q.length]using hi),UL,h1];rfl
  ·rw[UD (by simpa using hi),RP]at h;split at h<;>cases h
structure FnH(P:Program)(w:World)(K:Frag)(mg:Xa)(base:Heap)(ca:Nat->Addr)(x:Str)(st:Stmt)(N:List Str)(k n:Nat)(F:MF):Prop where
 ex:∃(f:Addr)(fd:FuncData)(ps:List Str),FnOk P w K mg base Il k f fd ps (Nn K ca n F)/\mg x=some (.ref f)/\keepIn K (.ref f)=true/\Binds K fd ps []
 st:∀ds g,ds.length≠n->F ds g=.stuck
structure MtH(P:Program)(w:World)(K:Frag)(mg:Xa)(base:Heap)(ca:Nat->Addr)(c:Nat)(x:Str)(st:Stmt)(N:List Str)(k n:Nat)(F:MF):Prop where
 ex:∃(f:Addr)(fd:FuncData)(ps:List Str),FnOk P w K mg base Il k f fd ps (Nn K ca n F)/\Meth K (ca c) x f/\Cls K (ca c)/\Binds K fd ps []
 st:∀ds g,ds.length≠n->F ds g=.stuck
structure MkH(P:Program)(w:World)(K:Frag)(mg:Xa)(base:Heap)(ca:Nat->Addr)(c:Nat)(x:Str)(st:Stmt)(N:List Str)(k n:Nat)(F:MF):Prop where
 ex:∃(f:Addr)(fd:FuncData)(ps:List Str),FnOk P w K mg base Il k f fd ps (Nn K ca n F)/\Mk K (ca c) f/\mg x=some (.ref (ca c))/\Binds K fd ps []
 st:∀ds g,ds.length≠n->F ds g=.stuck
theorem F5(k n:Nat)(m:MS):∀ds g,ds.length≠k->QI k n m ds g=.stuck:=λds g h=>by unfold QI;rw[Uh h]
section
variable{P:Program}{w:World}{K:Frag}{mg:Xa}{base:Heap}{ca:Nat->Addr}
theorem Nq{N:List Str}{qual:Str}{scope:Scope}{f:Addr}{cd:Value}{A:Around}{outer:List Env}{s:Shared}{H:Hp}{E:XK}{body:List Stmt}{t:TS}(h:Im (xo (VF Il P w K mg base N qual scope f cd A outer s H E)) body t):Im (VF Il P w K mg base N qual scope f cd A outer s H E) body t:=λpins s1 σ H1 D I q=>
 Rw (h pins s1 σ H1 D (Inv.wish I _) q) (λ_ _ z=>SP.unwish (X:=VF Il P w K mg base N qual scope f cd A outer s H E) z) λ_ _ z=>z.elim
theorem LU{x qual:Str}{st:Stmt}{f:Addr}{fd:FuncData}{N ps:List Str}{k n j:Nat}{m:MS}(F:Fun K x qual st f fd)(S:FnScope N ps (QE st))(hj:ps.length=j)(hn:N.length-ps.length=n)(h:∀(cdv:Value) (A:Around) (outer:List Env) (s:Shared) (H:Hp) (E:XK),Room k (A.deeper (envOfC qual (QE st) s.heap.objs.size f cdv))->VR ca (VF Il P w K mg base N qual (QE st) f cdv A outer s H E) (Z3 st) m):FnOk P w K mg base Il (k+1) f fd ps (Nn K ca j (QI j n m)):=by
 subst hj;obtain⟨oc,od,kV,doc,pm,an,cdv,ct,osl,rfl,lk,hcd⟩:=F.ex;refine kF lk hcd S (λvs H Q E q=>q.1) λA outer s H vs Q E hr hsp=>?_;obtain⟨hl,ds,g,μ,r,q,p⟩:=hsp;refine⟨_,Nq (h cdv A outer s H E hr),ds.map some++List.replicate n none,g,μ,?_,?_⟩
 ·have z:=Np N r q;rw[hl,hn]at z;exact z
 ·unfold QI at p;rw[Uf (by rw[<-q.length,hl])]at p;cases hm:m (ds.map some++List.replicate n none) g with
  |nx σ' g'=>rw[hm]at p;exact λσ'' H' μ' e' R'=>p .non H' μ' e' R'.g .non
  |rt d g'=>rw[hm]at p;exact p|bk _ _=>rw[hm]at p;exact p.elim|ct _ _=>rw[hm]at p;exact p.elim|stuck=>rw[hm]at p;exact p.elim
theorem F6(st:∀ds g,ds.length≠n->F ds g=.stuck)(r:GRep K ca μ H g)(q:Dens K μ H vs ds)(p:Jg K ca Q H μ (F ds g)):Nn K ca n F vs H Q E0:=by refine⟨?_,ds,g,μ,r,q,p⟩;rw[q.length];apply Decidable.byContradiction;intro h;rw[st ds g h]at p;exact p
end
section
variable{X:Cx}{ca:Nat->Addr}{e o:Expr}{es:List Expr}{me mo:ME}{mr:MA}{p pos apos:Pos}{k n:Nat}{F:MF}{pn:YM}
theorem IN{f:Addr}{fd:FuncData}{ps:List Str}{pins:YM}{σ:L2.St}{H:Hp}{s:Shared}{Q:VK}{us:List Value}{vs:List V}(G:FnOk X.prog X.w X.K X.mg X.base Il k f fd ps (Nn X.K ca n F))(hr:Room k X.A)(hb:Binds X.K fd ps [])(I:Inv (xo X) pins σ H s)(r:Vals vs us)(h:Nn X.K ca n F vs H Q E0):wpAny (model X.prog X.w) X.A (call (.ref f) us) (EP (xo X) pins σ Q) (xo X).xe s:=by
 have hl:(us++[]).length=ps.length:=by rw[U6,<-r.length];exact G.len _ _ _ _ h
 have b:=hb s us I.kIn hl;rw[U6]at b;refine wpAny_call (oM (G.run X.A X.stack s H ⟨us,[]⟩ us vs Q E0 hr I.env0 b r h) λres s' hq=>?_);cases res with
 |error z=>exact False.elim hq|ok fl=>
  cases fl with
  |ret u=>exact I.after hq|_=>exact False.elim hq
theorem fM{x:Str}(h:FnH X.prog X.w X.K X.mg X.base ca x sx Nx k n F)(hr:Room k X.A)(ha:Oo ca X (e::es) mr)(hg:Gl X x:=by exact Eq.refl (some _))(hdb:(x==("__debug__" : Str))=false:=by exact Eq.refl false)(he:starEach (e::es) X.env=(false,eval e X.env)::starEach es X.env:=by rfl)(hpl:(backTo pos (starEach es X.env)).any (·.1)=false:=by exact Eq.refl false):Qs ca X (.Call (.Name x p) (e::es) [] pos) (Qg F mr):=by obtain⟨f,fd,ps,F1,m1,k1,b1⟩:=h.ex;intro pins s σ H Q I ⟨σ3,g,μ,R,q⟩;refine RT (Ci I hg m1 ?_ hdb);have z:lJ X.K ca mr σ H λvs H1=>Nn X.K ca n F vs H1 Q E0:=QC (Zl R q) λxs H1 ⟨ds,g1,μ1,e1,R1,q1,p1⟩=>F6 h.st R1.g q1 p1;refine Bw (h₀:=X.base) I.ok.mod.kin k1 (Zx (ha pos pins s σ H _ I z) λus s1 ⟨vs,H1,I1,r,q1⟩=>⟨I1.kIn,?_⟩) he hpl;exact IN F1 hr b1 I1 r q1
theorem LV{K:Frag}{c:Nat}{m:Str}{σ:L2.St}{H:Hp}{Q:VK}{α:Type}{kk:Nat->G->Res α}{R:Res α->Hp->List Addr->Prop}{d:D}{g:G}{μ:List Addr}{v:V}(r:GRep K ca μ H g)(hst:¬R .stuck H μ)(p:R (match d with
   |.ref i=>(match g[i]? with
    |some (.ins c' fs)=>if c'=c/\fs.lookup m=none then kk i g else .stuck
    |_=>.stuck)
   |_=>.stuck) H μ)(q:Den K μ H v d):∃a dx fv i,d=.ref i/\v=.ref a/\μ[i]?=some a/\H a=some (.ins (ca c) dx fv)/\fv.lookup m=none/\R (kk i g) H μ:=by
 cases q with
 |@ref i a hn=>
  dsimp only at p;cases hg:g[i]? with
  |none=>rw[hg]at p;exact(hst p).elim|some ob=>
   rw[hg]at p;obtain⟨a',ha',orp⟩:=r.addr hg;rw[hn]at ha';cases ha';cases ob with
   |ins c' fs=>
    dsimp only at p;obtain⟨dx,fv,hH,fr⟩:=orp;by_cases hc:c'=c/\fs.lookup m=none
    ·rw[Uf hc]at p;obtain⟨rfl,hl⟩:=hc;exact⟨a,dx,fv,i,rfl,rfl,hn,hH,fr.no hl,p⟩
    ·rw[Uh hc]at p;exact(hst p).elim
   |_=>exact(hst p).elim
 |_=>exact(hst p).elim
theorem fN{c:Nat}{m:Str}{pl:Sem Bool}(h:MtH X.prog X.w X.K X.mg X.base ca c m sx Nx k n F)(hr:Room k X.A)(ho:Qs ca X o mo)(ha:Oo ca X (e::es) mr)(hst:starEach (e::es) X.env=(false,eval e X.env)::starEach es X.env:=by rfl)(hpl:(backTo pos (starEach es X.env)).any (·.1)=false:=by exact Eq.refl false)(ht:eval (.Call (.Attribute o m apos) (e::es) [] pos) X.env=(do
   let ov <-eval o X.env
   standAt apos.atName
   let (f,first) <-holding [ov] (getMethod ov m pl)
   callWith pos f first (backTo pos (starEach (e::es) X.env)) (backToKw pos (keywordEach [] X.env))):=by rfl):Qs ca X (.Call (.Attribute o m apos) (e::es) [] pos) (QD c m F mo mr):=by
 obtain⟨f,fd,ps,F1,m1,k1,b1⟩:=h.ex;intro pins s σ H Q I ⟨σ3,g,μ,R,q⟩;refine methodCall_KW (pl:=pl) (Zx (ho pins s σ H _ I (Zl R q)) λu s1 ⟨x,H1,I1,rx,d,g1,μ1,e1,R1,q1,p1⟩=>?_) ht;obtain⟨a,dx,fv,i,rfl,rfl,hn,hH,hl,p2⟩:=LV (Q:=Q) (σ:=σ) (R:=λr H μ=>Jg X.K ca Q H μ r) (kk:=λi g=>(mr σ3 g).bind λxs g2=>F (.ref i::xs) g2) R1.g (λz=>z) p1 q1;obtain rfl:u=Value.ref a:=rx;refine CO I1 hH k1 m1 hl ?_;have z:lJ X.K ca mr σ H1 λvs H2=>Nn X.K ca n F (.ref a::vs) H2 Q E0:=QC (Zl R1 p2) λxs H2 ⟨ds,g2,μ2,e2,R2,q2,p3⟩=>F6 h.st R2.g (.cons (.ref (e2.at hn)) q2) p3;refine Bw (first:=[.ref a]) (h₀:=X.base) I.ok.mod.kin m1.kp (Zx (ha pos pins s1 σ H1 _ I1 z) λus s2 ⟨vs,H2,I2,r,q2⟩=>⟨I2.kIn,?_⟩) hst hpl;exact IN (us:=.ref a::us) (vs:=.ref a::vs) F1 hr b1 I2 (.cons rfl r) q2
theorem A7{c:Nat}{m:Str}{pl:Sem Bool}(h:MtH X.prog X.w X.K X.mg X.base ca c m sx Nx k n F)(hr:Room k X.A)(ho:Qs ca X o mo)(ht:eval (.Call (.Attribute o m apos) [] [] pos) X.env=(do
   let ov <-eval o X.env
   standAt apos.atName
   let (f,first) <-holding [ov] (getMethod ov m pl)
   callWith pos f first (backTo pos (starEach [] X.env)) (backToKw pos (keywordEach [] X.env))):=by rfl):Qs ca X (.Call (.Attribute o m apos) [] [] pos) (QD c m F mo Qd):=by
 obtain⟨f,fd,ps,F1,m1,k1,b1⟩:=h.ex;intro pins s σ H Q I ⟨σ3,g,μ,R,q⟩;refine methodCall_KW (pl:=pl) (Zx (ho pins s σ H _ I (Zl R q)) λu s1 ⟨x,H1,I1,rx,d,g1,μ1,e1,R1,q1,p1⟩=>?_) ht;obtain⟨a,dx,fv,i,rfl,rfl,hn,hH,hl,p2⟩:=LV (Q:=Q) (σ:=σ) (R:=λr H μ=>Jg X.K ca Q H μ r) (kk:=λi g=>(Qd σ3 g).bind λxs g2=>F (.ref i::xs) g2) R1.g (λz=>z) p1 q1;obtain rfl:u=Value.ref a:=rx;refine CO I1 hH k1 m1 hl ?_;exact callWith_K0 (first:=[.ref a]) I1.kIn m1.kp (IN (us:=[.ref a]) (vs:=[.ref a]) F1 hr b1 I1 (.cons rfl .nil) (F6 h.st R1.g (.cons (.ref hn) .nil) p2))
def sQ(X:Cx)(ca:Nat->Addr)(c n:Nat)(F:MF)(Q:VK)(vs:List V)(H1:Hp):Prop:=∀y dy,H1 y=none->H1 dy=none->dy≠y->Nn X.K ca n F (.ref y::vs) (Za (Za H1 dy (.own y)) y (.ins (ca c) dy [])) (λv H2=>v=.non/\Q (.ref y) H2) E0
theorem mB{c:Nat}{x:Str}{σ:L2.St}{H:Hp}{μ:List Addr}{σ3:S3}{g:G}{Q:VK}(h:MkH X.prog X.w X.K X.mg X.base ca c x sx Nx k n F)(R:Rep X.K ca μ σ3 g σ H)(q:Jg X.K ca Q H μ (YC c F mr σ3 g)):lJ X.K ca mr σ H (sQ X ca c n F Q):=
 QC (Zl R q) λxs H1 ⟨ds,g1,μ1,e1,R1,q1,p1⟩ y dy hy hdy ne=>by
  have hy2:(Za H1 dy (.own y)) y=none:=by rw[QH (Ne.symm ne)];exact hy
  have ex1:Ext X.K μ1 H1 μ1 (Za H1 dy (.own y)):=Q8 hdy;have g2:=R1.g.new (o:=.own y) hdy;have ex2:Ext X.K μ1 (Za H1 dy (.own y)) (μ1++[y]) (Za (Za H1 dy (.own y)) y (.ins (ca c) dy [])):=Q3 hy2;have g3:GRep X.K ca (μ1++[y]) (Za (Za H1 dy (.own y)) y (.ins (ca c) dy [])) (g1++[.ins c []]):=g2.push hy2 ⟨dy,[],Qr,.nil⟩;have ey:(μ1++[y])[g1.length]?=some y:=by rw[<-R1.g.len];simp
  refine F6 h.st g3 (.cons (.ref ey) ((q1.mono ex1).mono ex2)) ?_;cases hF:F (D.ref g1.length::ds) (g1++[.ins c []]) with
  |stuck=>rw[hF]at p1;exact p1.elim|ok d g4=>
   rw[hF,Res.bind_ok]at p1;intro v H' μ' e' r' q';cases q' with
   |non=>exact⟨rfl,p1 _ H' μ' ((ex1.trans ex2).trans e') r' (.ref (e'.at ey))⟩|_=>exact p1.elim
theorem Po{c:Nat}{x:Str}{pins:YM}{s1:Shared}{σ:L2.St}{H1:Hp}{vs:List V}{us:List Value}{Q:VK}(h:MkH X.prog X.w X.K X.mg X.base ca c x sx Nx k n F)(hr:Room (k+1) X.A)(I1:Inv (xo X) pins σ H1 s1)(r:Vals vs us)(q1:sQ X ca c n F Q vs H1):wpAny (model X.prog X.w) X.A (call (.ref (ca c)) us) (EP (xo X) pins σ Q) (xo X).xe s1:=by
 obtain⟨f,fd,ps,F1,m1,k1,b1⟩:=h.ex;have hq:=q1 (s1.heap.objs.size+1) s1.heap.objs.size (I1.hok.fresh (Nat.le_succ _)) (I1.hok.fresh (Ug _)) (UY (T6 _));have I2:=Inv.made (C:=ca c) I1;have r2:Vals (V.ref (s1.heap.objs.size+1)::vs) (Value.ref (s1.heap.objs.size+1)::us):=.cons rfl r;have hl:(Value.ref (s1.heap.objs.size+1)::us++[]).length=ps.length:=by have w:=r2.length;rw[F1.len _ _ _ _ hq]at w;rw[U6];exact w.symm
 have b2:=b1 _ (Value.ref (s1.heap.objs.size+1)::us) I2.kIn hl;rw[U6]at b2;refine wpAny_call (OE (f:=f) I1.kIn m1.makes m1.init (RM.mp m1.fn) (oM (F1.run _ X.stack _ _ ⟨Value.ref (s1.heap.objs.size+1)::us,[]⟩ (Value.ref (s1.heap.objs.size+1)::us) _ _ E0 (hr.make (ca c) us [])
  (I2.env0.make (ca c) us []) b2 r2 hq) λres s' hq'=>?_))
 cases res with
 |error z=>exact False.elim hq'|ok fl=>
  cases fl with
  |ret u =>obtain⟨v,H',I3,rv,ev,q3⟩:=I2.after hq';subst ev;exact⟨rv,⟨V.ref (s1.heap.objs.size+1),H',I3,rfl,q3⟩⟩|_=>exact False.elim hq'
theorem fO{c:Nat}{x:Str}(h:MkH X.prog X.w X.K X.mg X.base ca c x sx Nx k n F)(hr:Room (k+1) X.A)(ha:Oo ca X (e::es) mr)(hg:Gl X x:=by exact Eq.refl (some _))(hdb:(x==("__debug__" : Str))=false:=by exact Eq.refl false)(he:starEach (e::es) X.env=(false,eval e X.env)::starEach es X.env:=by rfl)(hpl:(backTo pos (starEach es X.env)).any (·.1)=false:=by exact Eq.refl false):Qs ca X (.Call (.Name x p) (e::es) [] pos) (YC c F mr):=by obtain⟨f,fd,ps,F1,m1,k1,b1⟩:=h.ex;intro pins s σ H Q I ⟨σ3,g,μ,R,q⟩;refine RT (Ci I hg k1 ?_ hdb);exact Bw (h₀:=X.base) I.ok.mod.kin m1.kp (Zx (ha pos pins s σ H _ I (mB h R q)) λus s1 ⟨vs,H1,I1,r,q1⟩=>⟨I1.kIn,Po h hr I1 r q1⟩) he hpl
theorem A8{c:Nat}{x:Str}(h:MkH X.prog X.w X.K X.mg X.base ca c x sx Nx k n F)(hr:Room (k+1) X.A)(hg:Gl X x:=by exact Eq.refl (some _))(hdb:(x==("__debug__" : Str))=false:=by exact Eq.refl false):Qs ca X (.Call (.Name x p) [] [] pos) (YC c F Qd):=by obtain⟨f,fd,ps,F1,m1,k1,b1⟩:=h.ex;intro pins s σ H Q I ⟨σ3,g,μ,R,q⟩;refine RT (Ci I hg k1 ?_ hdb);obtain⟨_,_,μ',R',p'⟩:=mB h R q;exact callWith_K0 I.kIn m1.kp (Po h hr I .nil (p' [] H μ' .refl R'.g .nil))
end
section
variable{X:Cx}{ca:Nat->Addr}{tg e:Expr}{me:ME}{mr:MA}{p pos:Pos}
theorem Xi(h:PI X tg iter t)(i:∀σ H R,t' σ H R->t σ H R):PI X tg iter t':=λpins s σ H R I q=>h pins s σ H R I (i σ H R q)
theorem Fn(K:Frag)(μ:List Addr)(H:Hp)(lo:Int)(n:Nat):A5 K ca μ H (Zs lo n) (jR lo n):=by
 intro i H1 μ1 g1 e r;unfold Zs;dsimp only;by_cases h:i<n
 ·rw[Uf h];exact⟨h,λx H' y=>by obtain⟨rfl,rfl⟩:=y;exact⟨.refl,r,.int _⟩⟩
 ·rw[Uh h];exact Wj h
theorem A9{K:Frag}{μ:List Addr}{H:Hp}{a:Addr}{vs:List V}{ds:List D}(h:SqT K H a vs)(q:Dens K μ H vs ds):A5 K ca μ H ⟨λ_ i=>some ds[i]?,ds.length⟩ (pY K a):=by
 intro i H1 μ1 g1 e r;dsimp only;cases hd:ds[i]? with
 |none =>refine⟨vs,e.tup _ _ h,?_⟩;rw[q.length];exact Wo.mp hd|some d =>obtain⟨v,h1,h2⟩:=q.get hd;refine⟨⟨vs,v,e.tup _ _ h,h1⟩,λx H' y=>?_⟩;obtain⟨rfl,y⟩:=y;have:=y vs (e.tup _ _ h);rw[h1]at this;cases this;exact⟨.refl,r,h2.mono e⟩
theorem Da{K:Frag}{μ:List Addr}{H:Hp}{a:Addr}{n t:Nat}(hn:μ[n]?=some a):A5 K ca μ H ⟨λg i=>(match g[n]? with|some (.lst es)=>some es[i]? | _=>none),t⟩ (oP K a):=by
 intro i H1 μ1 g1 e r;dsimp only;cases hg:g1[n]? with
 |none=>trivial|some o=>
  cases o with
  |lst ds=>
   dsimp only;obtain⟨a',ha',vs,hH,q⟩:=r.addr hg;rw[e.at hn]at ha';cases ha';cases hd:ds[i]? with
   |none =>refine⟨vs,.of hH,?_⟩;rw[q.length];exact Wo.mp hd|some d =>obtain⟨v,h1,h2⟩:=q.get hd;refine⟨⟨vs,v,.of hH,h1⟩,λx H' y=>?_⟩;obtain⟨rfl,y⟩:=y;have:=y vs (.of hH);rw[h1]at this;cases this;exact⟨.refl,r,h2⟩
  |_=>trivial
theorem fP{K:Frag}{μ:List Addr}{H:Hp}{a:Addr}{vs:List V}{ds:List D}(h:SqF K H a vs)(q:Dens K μ H vs ds):A5 K ca μ H ⟨λ_ i=>some ds[i]?,ds.length⟩ (oP K a):=by
 intro i H1 μ1 g1 e r;dsimp only;have sq:SqL K H1 a vs:=(e.fl _ _ h).sq;cases hd:ds[i]? with
 |none =>refine⟨vs,sq,?_⟩;rw[q.length];exact Wo.mp hd|some d =>obtain⟨v,h1,h2⟩:=q.get hd;refine⟨⟨vs,v,sq,h1⟩,λx H' y=>?_⟩;obtain⟨rfl,y⟩:=y;have:=y vs sq;rw[h1]at this;cases this;exact⟨.refl,r,h2.mono e⟩
theorem fQ(hl:PE X l tl):PI X tg l (λσ H R=>tl σ H λx H1=>(∃a,x=.ref a/\(∃xs,SqL X.K H1 a xs)/\R (oP X.K a) H1)\/∃a,x=.ref a/\(∃xs,SqT X.K H1 a xs)/\R (pY X.K a) H1):=by
 intro pins s σ H R I h;refine Zx (hl pins s σ H _ I h) λv s1 ⟨x,H1,I1,r1,q1⟩=>?_;rcases q1 with⟨a,e,⟨xs,hq⟩,q⟩|⟨a,e,⟨xs,hq⟩,q⟩
 ·subst e;cases r1;obtain⟨its,rv,p,hz⟩:=I1.list hq;refine BL p.isList ?_;refine⟨s1.heap.objs.size,[s1.heap.objs.size],_,_,H1,rfl,I1.kept (t':=s1.toks) λb o e=>Ub _ e,MU a _,⟨_,Uu _ rfl,rfl,rfl⟩,λb hb=>?_,q⟩;have e:b=s1.heap.objs.size:=by simpa using hb
  subst e;exact I1.fpOk (Ug _) (I1.hok.fresh (Ug _))
 ·subst e;cases r1;obtain⟨its,rv,p,hz⟩:=I1.tuple hq;refine wpAny_pyIter_tuple (show s1.heap.IsTuple a its.toArray from p) ?_;refine⟨s1.heap.objs.size,[s1.heap.objs.size],_,_,H1,rfl,I1.kept (t':=s1.toks) λb o e=>Ub _ e,Ip a _,⟨_,Uu _ rfl,rfl,rfl⟩,λb hb=>?_,q⟩;have e:b=s1.heap.objs.size:=by simpa using hb
  subst e;exact I1.fpOk (Ug _) (I1.hok.fresh (Ug _))
theorem Dc(he:Qs ca X e me):Pm ca X tg e (QL me):=
 Xi (fQ (X:=xo X) he) λσ H R hQ=>by
  obtain⟨σ3,g,μ,Rp,p⟩:=hQ;unfold QL at p;refine⟨σ3,g,μ,Rp,?_⟩;cases hm:me σ3 g with
  |stuck=>rw[hm]at p;exact p.elim|ok d g1=>
   rw[hm,Res.bind_ok]at p;intro v H1 μ1 e1 r1 q1;unfold JO at p;cases q1 with
   |@tup a vs ds ht hs =>exact .inr ⟨a,rfl,⟨vs,ht⟩,p _ H1 μ1 e1 r1 (A9 ht hs)⟩|@fl a vs ds ht hs=>exact .inl ⟨a,rfl,⟨vs,ht.sq⟩,p _ H1 μ1 e1 r1 (fP ht hs)⟩|@ref n a hn=>
    dsimp only at p;cases hg:g1[n]? with
    |none=>rw[hg]at p;exact p.elim|some o=>
     rw[hg]at p;obtain⟨a',ha',orp⟩:=r1.addr hg;rw[hn]at ha';cases ha';cases o with
     |lst ds=>obtain⟨vs,hH,q⟩:=orp;exact .inl ⟨a,rfl,⟨vs,.of hH⟩,p _ H1 μ1 e1 r1 (Da hn)⟩|_=>exact p.elim
   |_=>exact p.elim
theorem Pp(hm:X.mg "range"=none)(he:Qs ca X e me)(hg:Gl X "range":=by exact Eq.refl (some _))(hs:starEach [e] X.env=[(false,eval e X.env)]:=by rfl):Pm ca X tg (.Call (.Name "range" p) [e] [] pos) (Zh me):=
 Xi (MV (X:=xo X) hg hm (ZN he JW hs) hs) λσ H R hQ=>by
  obtain⟨σ3,g,μ,Rp,p⟩:=hQ;refine⟨σ3,g,μ,Rp,?_⟩;unfold Zh at p;unfold Qb Qd;cases hm:me σ3 g with
  |stuck=>rw[hm]at p;exact p.elim|ok d g1=>
   rw[hm,Res.bind_ok]at p;rw[Res.bind_ok,Res.bind_ok];intro vs H1 μ1 e1 r1 q1;cases q1 with
   |cons h1 h2=>
    cases h2;cases h1 with
    |int j=>
     dsimp only at p;by_cases hj:On j
     ·rw[Uf hj]at p;exact⟨j,rfl,hj.1,hj.2,p _ H1 μ1 e1 r1 (Fn X.K μ1 H1 0 j.toNat)⟩
     ·rw[Uh hj]at p;exact p.elim
    |_=>exact p.elim
theorem Pq{e2:Expr}{me2:ME}(hm:X.mg "range"=none)(he:Qs ca X e me)(he2:Qs ca X e2 me2)(hg:Gl X "range":=by exact Eq.refl (some _))(hs:starEach [e,e2] X.env=[(false,eval e X.env),(false,eval e2 X.env)]:=by rfl)(hs2:starEach [e2] X.env=[(false,eval e2 X.env)]:=by rfl)(hs3:starEach [e,e2] X.env=(false,eval e X.env)::starEach [e2] X.env:=by rfl):Pm ca X tg (.Call (.Name "range" p) [e,e2] [] pos) (Yr me me2):=
 Xi (MW (X:=xo X) hg hm (ZN he (ZN he2 JW hs2) hs3) hs hs2) λσ H R hQ=>by
  obtain⟨σ3,g,μ,Rp,p⟩:=hQ;refine⟨σ3,g,μ,Rp,?_⟩;unfold Yr at p;unfold Qb Qd;cases hm:me σ3 g with
  |stuck=>rw[hm]at p;exact p.elim|ok d g1=>
   rw[hm,Res.bind_ok]at p;rw[Res.bind_ok];cases hm2:me2 σ3 g1 with
   |stuck=>rw[hm2]at p;exact p.elim|ok d2 g2=>
    rw[hm2,Res.bind_ok]at p;rw[Res.bind_ok,Res.bind_ok,Res.bind_ok];intro vs H1 μ1 e1 r1 q1;cases q1 with
    |cons h1 h2=>
     cases h2 with
     |cons h2 h3=>
      cases h3;cases h1 with
      |int i=>
       cases h2 with
       |int j=>
        dsimp only at p;by_cases hj:On i/\On j
        ·rw[Uf hj]at p;exact⟨i,j,rfl,⟨hj.1.1,hj.1.2,hj.2.1,hj.2.2⟩,p _ H1 μ1 e1 r1 (Fn X.K μ1 H1 i (j-i).toNat)⟩
        ·rw[Uh hj]at p;exact p.elim
       |_=>exact p.elim
      |_=>exact p.elim
end
def Ee(X:Cx)(scope:Scope)(cl:List (Str×Addr))(C:Addr)(Nb:List Str)(s3:Shared)(H3:Hp)(ex:List Addr):Cx:={X with env:=compEnvC scope cl C X.env,N:=Nb,s₀:=s3,H₀:=H3,outer:=X.stack,stack:=X.stack,ex:=ex,fn:=λ_=>false,pn:=[],xe:=λ_ _=>False}
structure BScope(X:Cx)(scope:Scope)(Nb:List Str)(no:Nat)(cap:List Nat):Prop where
 kind:scope.kind=.function
 cell:∀y∈scope.names,y.2≠.cell
 loc:∀y∈scope.names,y.2=.local->scope.names.lookup y.1=some .local
 free:∀y∈scope.names,y.2=.free->X.env.kindOf y.1=some .cell\/X.env.kindOf y.1=some .free
 len:Nb.length=no+cap.length
 cap:∀(j i:Nat),cap[j]?=some i->∃x,Nb[no+j]?=some x/\X.N[i]?=some x/\scope.names.lookup x=some .free/\jE X.env.scope x/\X.env.kindOf x≠some .local
def Kq(cells:List (Str×Addr)):List (Str×NameKind)->List (Str×Addr)->Option (List (Str×Addr))
 |[],cs=>some cs| (n,k)::r,cs=>if (k==.free)=true then (match cells.lookup n with
  |some a=>Kq cells r ((n,a)::cs)|none=>none) else Kq cells r cs
theorem Vq:∀(names:List (Str×NameKind))(cs cl:List (Str×Addr)),Kq env.cells names cs=some cl->
  (forIn names cs λ(x:Str×NameKind)(r:List (Str×Addr))=>(match x with
   | (name,kind)=>if (kind==.free)=true then (do let a <-cellOf env name;pure (ForInStep.yield ((name,a)::r))) else pure (ForInStep.yield r):Sem (ForInStep (List (Str×Addr)))))=(pure cl:Sem (List (Str×Addr)))
 |[],cs,cl,h=>by cases h;rfl
 | (n,k)::r,cs,cl,h=>by
  unfold Kq at h;rw[pI];by_cases hk:(k==.free)=true
  ·rw[Uf hk]at h;cases hl:env.cells.lookup n with
   |none=>rw[hl]at h;cases h|some a =>rw[hl]at h;dsimp only at h ⊢;rw[Uf hk];unfold cellOf;rw[hl];exact Vq r _ cl h
  ·rw[Uh hk]at h;dsimp only;rw[Uh hk];exact Vq r _ cl h
theorem EW(h:Kq env.cells scope.names []=some cl):closureFor scope env=pure cl:=by have q:=Vq (env:=env) scope.names [] cl h;unfold closureFor;exact TY (λt=>t >>= λr=>(pure r:Sem _)) q
theorem Kr:∀(names:List (Str×NameKind))(cs:List (Str×Addr)),(∀y∈names,y.2=.free->∃c,cells.lookup y.1=some c)->∃cl,Kq cells names cs=some cl
 |[],cs,_=>⟨cs,rfl⟩| (n,k)::r,cs,h=>by
  unfold Kq;by_cases hk:(k==.free)=true
  ·rw[Uf hk];obtain⟨c,e⟩:=h (n,k) Uy (RM.mp hk);rw[show cells.lookup n=some c from e];exact Kr r _ λy hy=>h y (Uz _ hy)
  ·rw[Uh hk];exact Kr r _ λy hy=>h y (Uz _ hy)
theorem Y3:∀(names:List (Str×NameKind))(cs cl:List (Str×Addr)),Kq cells names cs=some cl->(∀x c,cs.lookup x=some c->cells.lookup x=some c)->∀x c,cl.lookup x=some c->cells.lookup x=some c
 |[],cs,cl,h,hc=>by cases h;exact hc
 | (n,k)::r,cs,cl,h,hc=>by
  unfold Kq at h;by_cases hk:(k==.free)=true
  ·rw[Uf hk]at h;cases hl:cells.lookup n with
   |none=>rw[hl]at h;cases h|some a=>
    rw[hl]at h;refine Y3 r _ cl h λx c e=>?_;by_cases z:x=n
    ·subst z;simp only[List.lookup,beq_self_eq_true]at e;cases e;exact hl
    ·have zb:(x==n)=false:=Ta.mpr z;simp only[List.lookup,zb]at e;exact hc x c e
  ·rw[Uh hk]at h;exact Y3 r _ cl h hc
theorem VT:∀(names:List (Str×NameKind))(cs cl:List (Str×Addr)),Kq cells names cs=some cl->∀x,(x∈names.filterMap λy=>if (y.2==.free)=true then some y.1 else none)\/(∃c,cs.lookup x=some c)->∃c,cl.lookup x=some c
 |[],cs,cl,h,x,hx=>by
  cases h;rcases hx with hx|hx
  ·simp at hx
  ·exact hx
 | (n,k)::r,cs,cl,h,x,hx=>by
  unfold Kq at h;by_cases hk:(k==.free)=true
  ·rw[Uf hk]at h;cases hl:cells.lookup n with
   |none=>rw[hl]at h;cases h|some a=>
    rw[hl]at h;refine VT r _ cl h x ?_;by_cases z:x=n
    ·subst z;exact .inr ⟨a,by simp[List.lookup]⟩
    ·have zb:(x==n)=false:=Ta.mpr z;rcases hx with hx|⟨c,hx⟩
     ·rw[RL]at hx;simp only[hk,W6]at hx;rcases UG.mp hx with e|e
      ·exact absurd e z
      ·exact .inl e
     ·exact .inr ⟨c,by simp only[List.lookup,zb];exact hx⟩
  ·rw[Uh hk]at h;refine VT r _ cl h x ?_;rcases hx with hx|hx
   ·rw[RL]at hx;simp only[hk]at hx;exact .inl (by simpa using hx)
   ·exact .inr hx
theorem KQ{names:List (Str×NameKind)}{x:Str}(h:names.lookup x=some .free):x∈names.filterMap λy=>if (y.2==.free)=true then some y.1 else none:=Br.mpr ⟨(x,.free),Rm h,by simp⟩
theorem Xj{env:Env}:∀{names:List (Str×NameKind)}{x:Str}{k:NameKind},(∀y∈names,y.2≠.cell)->(names.map λ(n,k)=>if (k==NameKind.free&&env.scope.kind==.function&&env.kindOf n==some .cell) then (n,NameKind.cell) else (n,k)).lookup x=some k->(k=.cell\/k=.free)->names.lookup x=some .free
 |[],_,_,_,h,_=>by cases h
 | (n,k0)::r,x,k,hn,h,hk=>by
  have ih:=@Xj env r x k λy hy=>hn y (Uz _ hy);rw[UH]at h;by_cases hc:(k0==NameKind.free&&env.scope.kind==.function&&env.kindOf n==some .cell)=true
  ·have k0f:k0=.free:=by simp only[UN]at hc;exact RM.mp hc.1.1
   dsimp only at h;rw[Uf hc]at h;cases hx:x==n with
   |true=>simp only[List.lookup,hx];rw[k0f]|false=>simp only[List.lookup,hx]at h ⊢;exact ih h hk
  ·dsimp only at h;rw[Uh hc]at h;cases hx:x==n with
   |true=>
    simp only[List.lookup,hx]at h ⊢;cases h;rcases hk with e|e
    ·exact absurd e (hn (n,k0) Uy)
    ·rw[e]
   |false=>simp only[List.lookup,hx]at h ⊢;exact ih h hk
theorem F7{prog:Program}{w:World}{A:Around}{R:Result->Shared->Prop}{s:Shared}{elt target iter:Expr}{ifs:List Expr}{scope:Scope}{pos:Pos}{it acc:Value}{env:Env}(I:Nat->Shared->Prop)(turn:∀n s,I n s->wpAny (model prog w) A (pyNext it) (λr s₁=>match r with
   |none=>R (.ok .next) s₁|some v=>wpAny (model prog w) A (letOwnedTupleGo target it v) (λ_ s1'=>wpAny (model prog w) A (assign target env v) (λ_ s₂=>
     wpAny (model prog w) A (forIn ifs true λc r=>if r=true then do let ok <-isTrue c env (eval c env);pure (ForInStep.yield ok) else pure (ForInStep.yield r)) (λok s₃=>
      if ok=true then wpAny (model prog w) A (eval elt env) (λx s₄=>
       wpAny (model prog w) A (call (.builtin "list.append") [acc,x]) (λ_ s₅=>∃m,m<n/\I m s₅) (λ_ _=>False) s₄) (λ_ _=>False) s₃
      else ∃m,m<n/\I m s₃) (λ_ _=>False) s₂) (λ_ _=>False) s1') (λ_ _=>False) s₁) (λ_ _=>False) s)(n:Nat)(h:I n s):codeAny (model prog w) A (.compLoop (.ListComp elt [⟨target,iter,ifs,0⟩] scope pos) 0 it acc env) R s:=by
 refine codeAny_loop rfl I (λn s hI=>?_) n h;show wpAny _ A ((compTurn (.ListComp elt [⟨target,iter,ifs,0⟩] scope pos) 0 it acc env).onRaise (λx=>do noteFrame x env;theTreesLotGoes x)) _ _ s;refine wpAny_noted ?_;rw[compTurn_list];refine Ua (wpAny_standAt (Ua (Rw (turn n s hI) (λr s₁ h₁=>?_) λ_ _ h'=>h'.elim)));cases r with
 |none=>exact Uc h₁|some v=>
  refine Ua (Rw h₁ (λ_ s1' h1'=>?_) λ_ _ h'=>h'.elim);refine Ua (Rw h1' (λ_ s₂ h₂=>Ua (Rw h₂ (λok s₃ h₃=>?_) λ_ _ h'=>h'.elim)) λ_ _ h'=>h'.elim);cases ok with
  |false=>exact Uc ⟨rfl,h₃⟩|true =>exact Ua (Ua (Rw h₃ (λx s₄ h₄=>Ua (Rw h₄ (λ_ s₅ h₅=>Uc (Uc ⟨rfl,h₅⟩)) λ_ _ h'=>h'.elim)) λ_ _ h'=>h'.elim))
theorem Inv.track(I:Inv X pins σ H s)(ha:FpOk X pins H a)(new:ObjOk X.prog X.w (Za H a o) s.heap a o):Inv X pins σ (Za H a o) s:=by
 obtain⟨f0,f1,f2,f3,f4,f5⟩:=ha;have ne:∀b u,H b=some u->b≠a:=λb u e=>Q4 e f0;refine I.step (h':=s.heap) (g':=s.gens) (t':=s.toks) (d':=s.drawn) (ch:=[a]) (λb hb=>?_) (λb o _ _ _ e _=>e) (λb o _ _ _ e _=>⟨o.slots,e⟩) (λb o hb e n=>?_) (λb o _ e=>⟨o,e⟩)
  (λb xs e=>by rw[QH (ne b _ e)];exact e) (λb o u e=>by rw[QH (ne b _ e)];exact e) (λb ps e=>⟨#[],by rw[QH (ne b _ e),e];simp⟩) (λ_ h=>h) (λb u e=>?_) I.bare
 ·have e:b=a:=by simpa using hb
  subst e;exact⟨f3,f1,f4,f5⟩
 ·rw[QH (λz=>hb (by simp[z]))];exact n
 ·by_cases hb:b=a
  ·subst hb;rw[Qr]at e;cases e;exact new
  ·rw[QH hb]at e;exact(I.hok b u e).stay (λ_ _ _ q=>q) (λc q=>by rw[QH (ne c _ q)];exact q) λc xs q=>by rw[QH (ne c _ q)];exact q
theorem FpOk.mono(h:FpOk X pins H b)(n:H' b=none):FpOk X pins H' b:=⟨n,h.2⟩
def iX(ca:Nat->Addr)(X:Cx)(ifs:List Expr)(m:MT):Prop:=∀(pins:YM)(s:Shared)(σ:L2.St)(H:Hp)(Q:Bool->Hp->Prop),Inv (xo X) pins σ H s->eO X.K ca m σ H Q->wpAny (model X.prog X.w) X.A (forIn ifs true λc r=>if r=true then do let ok <-isTrue c X.env (eval c X.env);pure (ForInStep.yield ok) else pure (ForInStep.yield r)) (TP (xo X) pins σ Q) (λ_ _=>False) s
theorem mC  : iX ca X [] Zz:=by intro pins s σ H Q I ⟨_,_,μ,R,p⟩;rw[pK];exact Uc ⟨H,I,p H μ .refl R.g⟩
theorem mD(h:B3 ca X c m):iX ca X [c] m:=by intro pins s σ H Q I q;exact wpAny_tests_one ((h pins s σ H Q I q))
section
variable{X:Cx}{ca:Nat->Addr}
theorem fR{scope:Scope}{Nb:List Str}{no:Nat}{cap:List Nat}{cl:List (Str×Addr)}{pins:YM}{σ:L2.St}{H:Hp}{s:Shared}{ex:List Addr}(B:BScope X scope Nb no cap)(hcl:Kq X.env.cells scope.names []=some cl)(I:Inv (xo X) pins σ H s)(hex:∀b∈ex,FpOk (xo X) pins H b)(hlt:∀b∈ex,b<s.heap.objs.size):(xo (Ee X scope cl s.heap.objs.size Nb s H ex)).Ok where
 mod:=I.ok.mod
 kind:=B.kind
 glob:=I.ok.glob
 blt:=I.ok.blt
 above:=Ug _
 inj:=λx y c h1 h2=>I.ok.inj x y c (Y3 _ _ _ hcl (λ_ _ z=>by cases z) x c h1) (Y3 _ _ _ hcl (λ_ _ z=>by cases z) y c h2)
 has:=λx hx=>VT _ _ _ hcl x (.inl (KQ (by
  rcases hx with hx|hx
  ·exact Xj B.cell hx (.inl rfl)
  ·exact Xj B.cell hx (.inr rfl))))
 cab:=λ_ _ z=>by cases z
 hd:=I.ok.hd
 frames:=I.ok.frames
 stk:=.inl rfl
 exf:=λb hb=>⟨UY (hlt b hb),λx c e z=>(hex b hb).2.2.2.2.1 x c (Y3 _ _ _ hcl (λ_ _ z=>by cases z) x c e) z⟩
 bs:=I.bs
 bsz:=Uk I.ok.bsz I.sz
 noex:=λb o e hb=>by
  rcases(hex b hb).2.2.2.1 with z|z
  ·exact I.ok.noex b o e z
  ·exact absurd (UA (UB e) (Uk I.ok.bsz z)) (TL _)
 exfs:=λb hb z=>by
  rcases UG.mp (I.stkSub b z) with e|e
  ·exact(hex b hb).2.1 e
  ·exact(hex b hb).2.2.1 e
 funs:=I.stack
 frf:=I.stkFree
theorem JC{env:Env}:∀{names:List (Str×NameKind)}{x:Str},names.lookup x=some .free->(names.map λ(n,k)=>if (k==NameKind.free&&env.scope.kind==.function&&env.kindOf n==some .cell) then (n,NameKind.cell) else (n,k)).lookup x=some .local->False
 |[],_,h,_=>by cases h
 | (n,k0)::r,x,h,h'=>by
  have ih:=@JC env r x;rw[UH]at h';dsimp only at h';by_cases hc:(k0==NameKind.free&&env.scope.kind==.function&&env.kindOf n==some .cell)=true
  ·rw[Uf hc]at h';cases hx:x==n with
   |true=>simp only[List.lookup,hx]at h';cases h'|false=>simp only[List.lookup,hx]at h h';exact ih h h'
  ·rw[Uh hc]at h';cases hx:x==n with
   |true=>simp only[List.lookup,hx]at h h';rw[h']at h;cases h|false=>simp only[List.lookup,hx]at h h';exact ih h h'
theorem Pr{K:Frag}{ca:Nat->Addr}{μ2:List Addr}{σ3:S3}{g1:G}{σ:L2.St}{H2:Hp}(no:Nat)(cap:List Nat)(R2:Rep K ca μ2 σ3 g1 σ H2):Rep K ca μ2 (X7 no cap σ3) g1 (List.replicate no none++cap.map λi=>(σ[i]?).getD none) H2:=by
 refine⟨R2.g,?_,λi d h=>?_⟩
 ·unfold X7;rw[Uq,Uq,U9,U9,Ue,Ue]
 ·unfold X7 at h;have hi:no<=i:=by apply Wj;intro hlt;rw[Ul (by simpa using hlt),RP,Uf hlt]at h;cases h
  rw[UD (by simpa using hi),U9,UL]at h ⊢;cases hcp:cap[i-no]? with
  |none=>rw[hcp]at h;cases h|some j=>
   rw[hcp]at h;have h:(σ3[j]?).getD none=some d:=by simpa using h
   have hs:σ3[j]?=some (some d):=by
    cases z:σ3[j]? with
    |none=>rw[z]at h;cases h|some w=>rw[z]at h;have h:w=some d:=h;rw[h]
   obtain⟨v,h1,h2⟩:=R2.st j d hs;exact⟨v,by simp[h1],h2⟩
theorem Nr{tg iter elt:Expr}{ifs:List Expr}{scope:Scope}{pos:Pos}{Nb:List Str}{no:Nat}{cap:List Nat}{cl:List (Str×Addr)}{f:MG}{tc:MT}{me:ME}{src:Src}{pins:YM}{σ:L2.St}{σ3:S3}{H2:Hp}{s2:Shared}{μ2:List Addr}{g1 g2:G}{ds:List D}{it:Addr}{fp:List Addr}{tn:Nat->Heap->Prop}{J:It}{RR:Value->Addr->Result->Shared->Prop}{E:VP}(B:BScope X scope Nb no cap)(hc:X.calm=true)(hb:∀cl C s3 H3 ex,A2 ca (Ee X scope cl C Nb s3 H3 ex) tg f/\iX ca (Ee X scope cl C Nb s3 H3 ex) ifs tc/\Qs ca (Ee X scope cl C Nb s3 H3 ex) elt me)(hcl:Kq X.env.cells scope.names []=some cl)(I2:Inv (xo X) pins σ H2 s2)(T:Turn X.prog X.w X.K tg J fp it tn)(st2:tn 0 s2.heap)(f2:∀b∈fp,FpOk (xo X) pins H2 b)(R2:Rep X.K ca μ2 σ3 g1 σ H2)(sim:A5 X.K ca μ2 H2 src J)(hz:src.top<=SZ)(hL:YB src f tc me (src.top+1) 0 (X7 no cap σ3) g1 []=.ok ds g2)(fin:∀(D C:Addr) (s':Shared) (H4:Hp) (μ4:List Addr) (accV:List V) (its:List Value) (k:Nat),Inv (xo X) pins σ H4 s'->(∃m,s'.heap.Ns C m)->FpOk (xo X) pins H4 C->FpOk (xo X) pins H4 D->D≠C->s'.heap.get? D=some {cls:=.type "list",data:=.seq its.toArray k}->Vals accV its->accV.length<=sizeLine->Ext X.K μ2 H2 μ4 H4->GRep X.K ca μ4 H4 g2->Dens X.K μ4 H4 accV ds->RR (.ref D) C (.ok .next) s'):
  wpAny (model X.prog X.w) X.A (newList []) (λacc s₃=>wpAny (model X.prog X.w) X.A (newFunctionEnv scope X.env.globals cl [] X.env.qual none .none (some X.env)) (λcenv s₄=>
   codeAny (model X.prog X.w) X.A (.compStart (.ListComp elt [⟨tg,iter,ifs,0⟩] scope pos) 0 (.ref it) acc {cenv with scope:=relabel scope X.env}) (RR acc cenv.locals) s₄) E s₃) E s2:=by
 refine UP (wpAny_newFunctionEnv B.cell (by intro y hy;simp at hy) (λh₁ hns₁ hsb₁=>?_) B.kind);dsimp only at hns₁ hsb₁ ⊢;generalize hH2:s2.heap.push {cls:=.type "list",dict:=none,data:=.seq ([]:List Value).toArray}=hp at hns₁ hsb₁ ⊢;have hC:hp.objs.size=s2.heap.objs.size+1:=by rw[<-hH2,Rv]
 have I3:Inv (xo X) pins σ H2 {s2 with heap:=hp}:=by rw[<-hH2];exact I2.kept (t':=s2.toks) λb o e=>Ub _ e
 have hD3:hp.get? s2.heap.objs.size=some {cls:=.type "list",data:=.seq ([]:List Value).toArray}:=by rw[<-hH2];exact Uu _ rfl
 have fD:FpOk (xo X) pins H2 s2.heap.objs.size:=I2.fpOk (Ug _) (I2.hok.fresh (Ug _));have fC:FpOk (xo X) pins H2 hp.objs.size:=I3.fpOk (Ug _) (I3.hok.fresh (Ug _));have fplt:∀b∈fp,b<s2.heap.objs.size:=λb hb=>by obtain⟨o,e,_⟩:=T.obj 0 _ st2 b hb;exact UB e
 have DnF:s2.heap.objs.size∉fp:=λh=>TL _ (fplt _ h);have DnC:s2.heap.objs.size≠hp.objs.size:=by rw[hC];exact UY (T6 _)
 have exOk:∀b∈s2.heap.objs.size::fp,FpOk (xo X) pins H2 b:=λb hb=>by
  rcases UG.mp hb with e|e
  ·rw[e];exact fD
  ·exact f2 b e
 have exLt:∀b∈s2.heap.objs.size::fp,b<hp.objs.size:=λb hb=>by
  rcases UG.mp hb with e|e
  ·rw[e,hC];exact T6 _
  ·rw[hC];exact Nat.lt_succ_of_lt (fplt b e)
 have okb:(xo (Ee X scope cl hp.objs.size Nb {s2 with heap:=hp} H2 (s2.heap.objs.size::fp))).Ok:=fR (s:={s2 with heap:=hp}) B hcl I3 exOk exLt;obtain⟨hgB,hiB,heB⟩:=hb cl hp.objs.size {s2 with heap:=hp} H2 (s2.heap.objs.size::fp);have old:∀b o,hp.get? b=some o->h₁.get? b=some o:=λb o e=>hsb₁.extBut b o (UY (UB e)) (Ub _ e)
 -- the block's first state
 have Ib:Inv (xo (Ee X scope cl hp.objs.size Nb {s2 with heap:=hp} H2 (s2.heap.objs.size::fp))) [] (List.replicate no none++cap.map λi=>(σ[i]?).getD none) H2 {s2 with heap:=h₁,toks:=s2.toks+([]:List (Str×Value)).length}:=by
  refine⟨okb,rfl,I3.bare,Un.kept old,⟨_,hns₁,λi x v h1 h2 h3=>?_⟩,λx c e=>?_,fC.1,λx c e=>?_,λp hp=>absurd (show p∈([]:YM) from hp) (by simp),I3.hok.kept old,?_⟩
  ·have hi:no<=i:=by apply Wj;intro hlt;rw[Ul (by simpa using hlt),RP,Uf hlt]at h2;cases h2
   rw[UD (by simpa using hi),U9,UL]at h2;cases hcp:cap[i-no]? with
   |none=>rw[hcp]at h2;cases h2|some j=>
    rw[hcp]at h2;have h2:(σ[j]?).getD none=some v:=by simpa using h2
    have hs:σ[j]?=some (some v):=by
     cases z:σ[j]? with
     |none=>rw[z]at h2;cases h2|some w=>rw[z]at h2;have h2:w=some v:=h2;rw[h2]
    obtain⟨y,n1,n2,n3,n4,n5⟩:=B.cap (i-no) j hcp;have e0:no+(i-no)=i:=by omega
    rw[e0]at n1;have h1:Nb[i]?=some x:=h1;have hxy:y=x:=Option.some.inj (n1.symm.trans h1);subst hxy;obtain⟨m,hn,hl⟩:=I3.loc;obtain⟨u,ru,lk⟩:=hl j y v n2 hs n4;refine⟨u,ru,.inr ⟨?_,?_⟩⟩
    ·rcases h3 with z|z|z
     ·exact(JC n3 z).elim
     ·exact .inl z
     ·exact .inr z
    ·rcases lk with⟨k1,_⟩|⟨_,c,k2,k3⟩
     ·exact absurd k1 n5
     ·obtain⟨c',hc'⟩:=VT _ _ _ hcl y (.inl (KQ n3));have:=Y3 _ _ _ hcl (λ_ _ z=>by cases z) y c' hc';have k2:X.env.cells.lookup y=some c:=k2;have hcc:c'=c:=Option.some.inj (this.symm.trans k2);subst hcc;exact⟨c',hc',k3.keeps old⟩
  ·obtain⟨v,z⟩:=I3.cell x c (Y3 _ _ _ hcl (λ_ _ z=>by cases z) x c e);exact⟨v,z.keeps old⟩
  ·exact I3.freeC x c (Y3 _ _ _ hcl (λ_ _ z=>by cases z) x c e)
  ·rw[Uq,U9,Ue];exact B.len.symm
 have RbR:=Pr no cap R2;have eK:(xo (Ee X scope cl hp.objs.size Nb {s2 with heap:=hp} H2 (s2.heap.objs.size::fp))).K=X.K:=rfl;have eP:(xo (Ee X scope cl hp.objs.size Nb {s2 with heap:=hp} H2 (s2.heap.objs.size::fp))).prog=X.prog:=rfl;have eW:(xo (Ee X scope cl hp.objs.size Nb {s2 with heap:=hp} H2 (s2.heap.objs.size::fp))).w=X.w:=rfl;have eA:(xo (Ee X scope cl hp.objs.size Nb {s2 with heap:=hp} H2 (s2.heap.objs.size::fp))).A=X.A:=rfl;have eE:(xo (Ee X scope cl hp.objs.size Nb {s2 with heap:=hp} H2 (s2.heap.objs.size::fp))).env=compEnvC scope cl hp.objs.size X.env:=rfl;have eC:(xo (Ee X scope cl hp.objs.size Nb {s2 with heap:=hp} H2 (s2.heap.objs.size::fp))).calm=true:=hc;have eX:∀b∈s2.heap.objs.size::fp,b∈(xo (Ee X scope cl hp.objs.size Nb {s2 with heap:=hp} H2 (s2.heap.objs.size::fp))).ex:=λb hb=>hb;have eN:∀{pl:YM}{p:Addr×Obj},p∈(xo (Ee X scope cl hp.objs.size Nb {s2 with heap:=hp} H2 (s2.heap.objs.size::fp))).pn++pl->p∈pl:=λh=>h;have toUn:∀{pl:YM}{σ':L2.St}{H':Hp}{s':Shared},Inv (xo (Ee X scope cl hp.objs.size Nb {s2 with heap:=hp} H2 (s2.heap.objs.size::fp))) pl σ' H' s'->Un (MP (xo X).stack) (s2.heap.objs.size::fp) H2 H' hp s'.heap:=λI=>I.base;have toOs:∀{pl:YM}{σ':L2.St}{H':Hp}{s':Shared},Inv (xo (Ee X scope cl hp.objs.size Nb {s2 with heap:=hp} H2 (s2.heap.objs.size::fp))) pl σ' H' s'->s'.os=s2.os:=λI=>I.os;generalize Ee X scope cl hp.objs.size Nb {s2 with heap:=hp} H2 (s2.heap.objs.size::fp)=Xb at okb hgB hiB heB Ib eK eP eW eA eE eC eX eN toUn toOs
 -- the iterator's records,through the block
 have FpB:∀{H:Hp}{pl:YM},(∀b∈fp,H b=none)->(∀p∈pl,p.1∉fp)->∀b∈fp,FpOk (xo Xb) pl H b:=λ{H pl} hn hpl b hb=>by
  have e0:=okb.exf b (eX b (Uz _ hb));refine⟨hn b hb,e0.1,?_,.inl (eX b (Uz _ hb)),e0.2,λp hp z=>?_⟩
  ·exact okb.exfs b (eX b (Uz _ hb))
  ·have hp':p∈pl:=eN hp;exact hpl p hp' (z ▸ hb)
 have FpD:∀{H:Hp},H s2.heap.objs.size=none->FpOk (xo Xb) [] H s2.heap.objs.size:=λ{H} hn=>by
  have e0:=okb.exf s2.heap.objs.size (eX _ Uy);refine⟨hn,e0.1,?_,.inl (eX _ Uy),e0.2,λp hp=>?_⟩
  ·exact okb.exfs s2.heap.objs.size (eX _ Uy)
  ·exact absurd (eN hp) (by simp)
 have st4:tn 0 h₁:=T.keep _ _ _ st2 λb hb o e=>old b o (by rw[<-hH2];exact Ub _ e)
 -- the invariant
 have loop:∀s4:Shared,s4 = {s2 with heap:=h₁,toks:=s2.toks+([]:List (Str×Value)).length}->codeAny (model X.prog X.w) X.A (.compLoop (.ListComp elt [⟨tg,iter,ifs,0⟩] scope pos) 0 (.ref it) (.ref s2.heap.objs.size) (compEnvC scope cl hp.objs.size X.env)) (RR (.ref s2.heap.objs.size) hp.objs.size) s4:=by
  rintro s4 rfl;obtain⟨P,hP⟩:∃P:Nat->Shared->Prop,∀n s',P n s'↔∃(i:Nat)(σ4:S3)(g4:G)(μ4:List Addr)(σ5:L2.St)(H4:Hp)(acc:List D)(accV:List V)(its:List Value)(k:Nat),Inv (xo Xb) [] σ5 H4 s'/\tn i s'.heap/\(∀b∈fp,H4 b=none)/\H4 s2.heap.objs.size=none/\s'.heap.get? s2.heap.objs.size=some {cls:=.type "list",data:=.seq its.toArray k}/\Vals accV its/\Ext X.K μ2 H2 μ4 H4/\Rep X.K ca μ4 σ4 g4 σ5 H4/\Dens X.K μ4 H4 accV acc/\YB src f tc me n i σ4 g4 acc=.ok ds g2/\acc.length<=i/\i+n<=SZ+1:=⟨_,λ_ _=>Iff.rfl⟩
  refine F7 P ?_ (src.top+1) ((hP _ _).2 ⟨0,X7 no cap σ3,g1,μ2,_,H2,[],[],[],_,Ib,st4,λb hb=>(f2 b hb).1,fD.1,old _ _ hD3,.nil,.refl,RbR,.nil,hL,Ug _,by omega⟩);rintro n s5 h5;obtain⟨i,σ4,g4,μ4,σ5,H4,acc,accV,its,k,I5,st5,fr5,frD,hD5,va,e5,R5,da,hl5,ha5,hn5⟩:=(hP _ _).1 h5;cases n with
  |zero=>cases hl5|succ n=>
   unfold YB at hl5;have s1:=sim i H4 μ4 g4 e5 R5.g;have pinD:Inv (xo Xb) [(s2.heap.objs.size,{cls:=.type "list",data:=.seq its.toArray k})] σ5 H4 s5:=I5.pins_of λp hp=>by rw[Ui.mp hp];have z:=FpD frD;exact⟨hD5,frD,z.2.1,z.2.2.1,λv q=>by cases q⟩
   have nofp:∀p∈[(s2.heap.objs.size,({cls:=.type "list",data:=.seq its.toArray k}:Obj))],p.1∉fp:=λp hp=>by rw[Ui.mp hp];exact DnF
   have getD:∀{σ':L2.St}{H':Hp}{s':Shared}{pl:YM},Inv (xo Xb) ([(s2.heap.objs.size,({cls:=.type "list",data:=.seq its.toArray k}:Obj))]++pl) σ' H' s'->s'.heap.get? s2.heap.objs.size=some {cls:=.type "list",data:=.seq its.toArray k}/\H' s2.heap.objs.size=none:=λ{σ' H' s' pl} I'=>by have z:=I'.pin (s2.heap.objs.size,{cls:=.type "list",data:=.seq its.toArray k}) (UX _ (Rz _ (Ui.mpr rfl)));exact⟨z.1,z.2.1⟩
   cases hat:src.at' g4 i with
   |none=>rw[hat]at hl5;cases hl5|some od=>
    rw[hat]at hl5 s1;cases od with
    |none=>
     cases hl5;have dn:=T.done (xo Xb) eP eW eK eC i _ s5 σ5 H4 (λ_ _=>False) pinD (FpB fr5 nofp) st5 s1;rw[eA]at dn;refine Zx dn λr s6 ⟨hr,I6⟩=>?_;subst hr;obtain⟨hD6,frD6⟩:=getD (pl:=[]) (by rw[U6];exact I6);have un:Un (MP (xo X).stack) (s2.heap.objs.size::fp) H2 H4 hp s6.heap:=toUn I6;have hok:HOk (xo X).prog (xo X).w H4 s6.heap:=by have:=I6.hok;rw[eP,eW]at this;exact this
     have os:s6.os=s2.os:=toOs I6;have I7:Inv (xo X) pins σ H4 s6:=Inv.call' (s':=s6) (ch:=s2.heap.objs.size::fp) I3 os un hok I6.bare λb hb=>⟨(exOk b hb).2.2.2.1,(exOk b hb).2.1,(exOk b hb).2.2.2.2.1,(exOk b hb).2.2.2.2.2⟩;have hCn:H4 hp.objs.size=none:=by have:=I6.free;rw[eE]at this;exact this
     have nsC:∃m,s6.heap.Ns hp.objs.size m:=by obtain⟨m,hm,_⟩:=I6.loc;rw[eE]at hm;exact⟨m,hm⟩
     refine fin _ _ s6 H4 μ4 accV its k I7 nsC (FpOk.mono fC hCn) (FpOk.mono fD frD6) DnC hD6 va ?_ e5 R5.g da;rw[da.length];have:=Z5;omega
    |some d=>
     obtain⟨go,yl⟩:=s1;dsimp only at hl5;cases hf:f d σ4 with
     |none=>rw[hf]at hl5;cases hl5|some σ6=>
      rw[hf]at hl5;dsimp only at hl5;have im:=T.item (xo Xb) eP eW eK eC i _ s5 σ5 H4 (λ_ _=>False) pinD (FpB fr5 nofp) st5 go;rw[eA]at im;refine Zx im λr s6 ⟨u,hr,h6⟩=>?_;subst hr;refine Zx h6 λ_ s7 ⟨x,H7,I7,r7,y7,st7,fr7⟩=>?_;obtain⟨e7,g7,q7⟩:=yl x H7 y7;have I7':=I7.pinned (FpB fr7 nofp) (T.obj _ _ st7);have R7:=R5.go e7 g7;have asg:=hgB _ s7 σ5 H7 x u (λσ' H'=>H'=H7/\Rep X.K ca μ4 σ6 g4 σ' H7) I7' r7 (by have:Xb.K=X.K:=eK;rw[this];exact⟨σ4,g4,μ4,d,σ6,R7,q7,hf,λσ' R'=>⟨rfl,R'⟩⟩);rw[eP,eW,eA,eE]at asg;refine Zx asg λ_ s8 ⟨σ8,H8,I8,e8,R8⟩=>?_;subst e8;cases ht:tc σ6 g4 with
      |stuck=>rw[ht]at hl5;cases hl5|ok b g9=>
       rw[ht]at hl5;have hl5:(if b=true then (match me σ6 g9 with | .ok y g2=>YB src f tc me n (i+1) σ6 g2 (acc++[y])|_=>.stuck) else YB src f tc me n (i+1) σ6 g9 acc)=.ok ds g2:=hl5;have tst:=hiB _ s8 σ8 _ (λb' H'=>b'=b/\∃μ9,Ext X.K μ4 H8 μ9 H'/\Rep X.K ca μ9 σ6 g9 σ8 H') I8 (by have:Xb.K=X.K:=eK;rw[this];refine⟨σ6,g4,μ4,R8,?_⟩;rw[ht];exact λH' μ' e' r'=>⟨rfl,μ',e',R8.go e' r'⟩);have eP':Xb.prog=X.prog:=eP;have eW':Xb.w=X.w:=eW;have eA':Xb.A=X.A:=eA;have eE':Xb.env=compEnvC scope cl hp.objs.size X.env:=eE;rw[eP',eW',eA',eE']at tst;refine Zx tst λok s9 ⟨H9,I9,eb,μ9,e9,R9⟩=>?_;subst eb;have again:∀{σ':L2.St}{H':Hp}{s':Shared},Inv (xo Xb) ([(s2.heap.objs.size,({cls:=.type "list",data:=.seq its.toArray k}:Obj))]++CN fp s7.heap) σ' H' s'->Inv (xo Xb) [] σ' H' s'/\tn (i+1) s'.heap/\∀b∈fp,H' b=none:=λ{σ' H' s'} I'=>by refine⟨I'.pins_of λp hp=>absurd hp (by simp),T.keep _ _ _ st7 λb hb o e=>(I'.pin (b,o) (UX _ (UX _ (Xd hb e)))).1,λb hb=>?_⟩;obtain⟨o,e,_⟩:=T.obj _ _ st7 b hb;exact(I'.pin (b,o) (UX _ (UX _ (Xd hb e)))).2.1
       cases ok with
       |false =>rw[Uh Uj]at hl5 ⊢;obtain⟨J1,J2,J3⟩:=again I9;obtain⟨K1,K2⟩:=getD I9;refine⟨n,T6 n,(hP _ _).2 ⟨i+1,σ6,g9,μ9,σ8,H9,acc,accV,its,k,J1,J2,J3,K2,K1,va,(e5.trans e7).trans e9,R9,(da.mono e7).mono e9,hl5,by omega,by omega⟩⟩|true=>
        rw[Uf rfl]at hl5 ⊢;cases hm:me σ6 g9 with
        |stuck=>rw[hm]at hl5;cases hl5|ok y g10=>
         rw[hm]at hl5;have hl5:YB src f tc me n (i+1) σ6 g10 (acc++[y])=.ok ds g2:=hl5;have el:=heB _ s9 σ8 H9 (λvy H'=>∃μ10,Ext X.K μ9 H9 μ10 H'/\Rep X.K ca μ10 σ6 g10 σ8 H'/\Den X.K μ10 H' vy y) I9 (by have:Xb.K=X.K:=eK;rw[this];refine⟨σ6,g9,μ9,R9,?_⟩;rw[hm];exact λv H' μ' e' r' q'=>⟨μ',e',R9.go e' r',q'⟩);rw[eP,eW,eA,eE]at el;refine Zx el λuy s10 ⟨vy,H10,I10,ry,μ10,e10,R10,qy⟩=>?_;obtain⟨K1,K2⟩:=getD I10;obtain⟨J1,J2,J3⟩:=again I10;have hlen:its.length=acc.length:=by rw[<-va.length,da.length]
         refine BC F.slot_list_append ⟨_,K1,rfl⟩ F.entry_list_append (F.args_list_append_2 _ _) (PySem.list_append s2.heap.objs.size its.toArray k uy (by rw[Ux,TU];have:SZ=1000000:=rfl;omega)) ⟨K1,?_⟩;have up:=PySem.IsL.update K1 (·.push uy);rw[show its.toArray.push uy=(its++[uy]).toArray by simp]at up;have upo:∀b o,b≠s2.heap.objs.size->s10.heap.get? b=some o->(s10.heap.update s2.heap.objs.size (Obj.mapSeq (·.push uy))).get? b=some o:=λb o hb e=>(WF s10.heap (Obj.mapSeq (·.push uy)) (Ne.symm hb)).trans e;obtain⟨d0,d1,d2,d3,d4,d5⟩:=FpD K2;refine⟨n,T6 n,(hP _ _).2 ⟨i+1,σ6,g10,μ10,σ8,H10,acc++[y],accV++[vy],its++[uy],_,J1.turned (t':=s10.toks) upo d0 d1 d3 d4 d5,T.keep _ _ _ J2 λb hb o e=>upo b o (λz=>DnF (z ▸ hb)) e,J3,K2,up,va.append (.cons ry .nil),((e5.trans e7).trans e9).trans e10,R10,((da.mono e7).mono e9).mono e10 |>.append (.cons qy .nil),hl5,by rw[Uq,Tq];omega,by omega⟩⟩
 exact codeAny_compStart_list (loop _ rfl) (T.self _ 0 _ _ _ st4 (loop _ rfl))
end
section
variable{X:Cx}{ca:Nat->Addr}
theorem Ps{K:Frag}{Q:VK}{H:Hp}{μ:List Addr}{mi:MI}{no:Nat}{cap:List Nat}{f:MG}{tc:MT}{me:ME}{σ3:S3}{g:G}(p:Jg K ca Q H μ (Zq mi no cap f tc me σ3 g)):
  ∃src g1 ds g2,mi σ3 g=.ok src g1/\src.top<=SZ/\YB src f tc me (src.top+1) 0 (X7 no cap σ3) g1 []=.ok ds g2/\Jg K ca Q H μ (.ok (.ref g2.length) (g2++[.lst ds])):=by
 unfold Zq at p;cases hm:mi σ3 g with
 |stuck=>rw[hm]at p;exact p.elim|ok src g1=>
  rw[hm]at p;dsimp only at p;by_cases hz:src.top<=SZ
  ·rw[Uf hz]at p;cases hL:YB src f tc me (src.top+1) 0 (X7 no cap σ3) g1 []with
   |stuck=>rw[hL]at p;exact p.elim|ok ds g2=>rw[hL]at p;exact⟨src,g1,ds,g2,rfl,hz,hL,p⟩
  ·rw[Uh hz]at p;exact p.elim
theorem fS{tg iter elt:Expr}{ifs:List Expr}{scope:Scope}{pos:Pos}{Nb:List Str}{no:Nat}{cap:List Nat}{mi:MI}{f:MG}{tc:MT}{me:ME}(B:BScope X scope Nb no cap)(hc:X.calm=true)(hi:Pm ca X tg iter mi)(hb:∀cl C s3 H3 ex,A2 ca (Ee X scope cl C Nb s3 H3 ex) tg f/\iX ca (Ee X scope cl C Nb s3 H3 ex) ifs tc/\Qs ca (Ee X scope cl C Nb s3 H3 ex) elt me)(hs:∀x,foldedSetIterable iter X.env x=pure x:=by intro _;rfl):Qs ca X (.ListComp elt [⟨tg,iter,ifs,0⟩] scope pos) (Zq mi no cap f tc me):=by
 intro pins s σ H Q I ⟨σ3,g,μ,R,p⟩;obtain⟨src,g1,ds,g2,hm,hz,hL,p⟩:=Ps p;obtain⟨cl,hcl⟩:=Kr (cells:=X.env.cells) scope.names [] λy hy hf=>I.ok.has y.1 (B.free y hy hf);rw[eval_ListComp];refine wpAny_comprehension_free (env:=X.env) (use:=none) rfl hs (EW hcl) B.kind B.loc ?_;refine Zx ((hi pins s σ H (λJ H'=>∃μ',Ext X.K μ H μ' H'/\GRep X.K ca μ' H' g1/\A5 X.K ca μ' H' src J) I ⟨σ3,g,μ,R,?_⟩)) λv s1 h1=>Zx h1 λitv s2 h2=>?_
 ·rw[hm];exact λJ H' μ' e r sm=>⟨μ',e,r,sm⟩
 ·obtain⟨it,fp,tn,J,H2,e,I2,T,st2,f2,μ2,e2,r2,sim⟩:=h2;subst e;refine Nr (X:=X) (RR:=λacc C=>compPost (model X.prog X.w) X.A (λ_ _=>False) none (EP (xo X) pins σ Q) acc C) B hc hb hcl I2 T st2 f2 (R.go e2 r2) sim hz hL ?_;intro D C s' H4 μ4 accV its k I4 nsC fC fD dc hD va hl e4 r4 da;obtain⟨m,nsC⟩:=nsC;refine⟨m,nsC,λh'' hs''=>?_⟩;have I5:Inv (xo X) pins σ H4 {s' with heap:=h''}:=I4.turned (t':=s'.toks) (λb o hb e=>hs''.extBut b o hb e) fC.1 fC.2.1 fC.2.2.2.1 fC.2.2.2.2.1 fC.2.2.2.2.2;have hD':=hs''.extBut _ _ dc hD;have I6:=Inv.track (o:=.lst accV) I5 fD ⟨hl,its,k,va,hD'⟩;refine⟨.ref D,_,I6,rfl,p _ _ (μ4++[D]) ((e2.trans e4).trans (Q3 fD.1)) (r4.push fD.1 ⟨accV,Qr,da.mono (Q3 fD.1)⟩) (.ref ?_)⟩;rw[<-r4.len];simp
end
section
variable{X:Cx}{ca:Nat->Addr}{a b:Expr}{ma mb:ME}{pos:Pos}
theorem Pt:OpR X (binaryOp .Add) (λx y H Q=>∃a b ys,x=.ref a/\y=.ref b/\SqT X.K H a []/\SqT X.K H b ys/\Q (.ref b) H):=by
 intro pins s σ H x y v u Q I rx ry h;obtain⟨a,b,ys,rfl,rfl,ha,hb,q⟩:=h;cases rx;cases ry;obtain⟨us,r1,p1,_⟩:=I.tuple ha;obtain⟨ts,r2,p2,_⟩:=I.tuple hb;cases r1;obtain⟨⟨cls,dd,data,sl⟩,ho,hc,n,hd⟩:=id p1;obtain⟨⟨cls2,dd2,data2,sl2⟩,ho2,hc2,n2,hd2⟩:=id p2;simp only at hc hd hc2 hd2;subst hc hd hc2 hd2;exact concat_meets ⟨_,ho,rfl⟩ ⟨_,ho2,rfl⟩ BY seq_tuple_add WE Ww (Wq _ _)
   (tuple_addW0 a b _ _ n n2 dd dd2 sl sl2 (by simp)) ⟨ho,ho2,⟨.ref b,H,I,rfl,q⟩⟩
theorem Pu{K:Frag}:Yd K ca (λx y H Q=>(((∃i j,x=.int i/\y=.int j/\Q (.int (i+j)) H)\/aW K x y H Q)\/kM x y H Q)\/(∃a b ys,x=.ref a/\y=.ref b/\SqT K H a []/\SqT K H b ys/\Q (.ref b) H)) ZE:=by
 intro H μ g x y dx dy Q r qx qy p;unfold ZE at p;cases qx with
 |int i=>
  cases qy with
  |int j=>exact .inl (.inl (.inl ⟨i,j,rfl,rfl,p _ H μ .refl r (.int _)⟩))|_=>exact p.elim
 |@tup ax xs dsx hx hsx=>
  cases qy with
  |@tup ay ys dsy hy hsy=>
   dsimp only at p;by_cases z:dsx.length+dsy.length<=SZ
   ·rw[Uf z]at p;by_cases hx0:dsx=[]
    ·subst hx0;cases hsx;exact .inr ⟨ax,ay,ys,rfl,rfl,hx,hy,p _ H μ .refl r (.tup hy hsy)⟩
    ·refine .inl (.inl (.inr ⟨ax,ay,xs,ys,rfl,rfl,hx,hy,?_,by rw[hsx.length,hsy.length];exact Uk z Z5,λe=>?_,λ_ t ht=>p _ _ μ (Q8 ht) (r.new ht) (.tup (.of Qr) ((hsx.append hsy).mono (Q8 ht)))⟩))
     ·rintro rfl;cases hsx;exact hx0 rfl
     ·subst e;cases hsy;rw[U6]at p;exact p _ H μ .refl r (.tup hx hsx)
   ·rw[Uh z]at p;exact p.elim
  |_=>exact p.elim
 |@ref n an hn=>
  cases qy with
  |@ref m am hm=>
   dsimp only at p;cases hg:g[n]? with
   |none=>rw[hg]at p;exact p.elim|some o=>
    cases hg2:g[m]? with
    |none=>rw[hg,hg2]at p;cases o<;>exact p.elim|some o2=>
     rw[hg,hg2]at p;obtain⟨a1,ha1,or1⟩:=r.addr hg;obtain⟨a2,ha2,or2⟩:=r.addr hg2;rw[hn]at ha1;cases ha1;rw[hm]at ha2;cases ha2;cases o with
     |lst xs=>
      cases o2 with
      |lst ys=>
       dsimp only at p;obtain⟨vs,hH,q⟩:=or1;obtain⟨ws,hH2,q2⟩:=or2;by_cases z:xs.length+ys.length<=SZ
       ·rw[Uf z]at p;refine .inl (.inr ⟨an,am,vs,ws,rfl,rfl,hH,hH2,by rw[q.length,q2.length];exact Uk z Z5,λt ht=>p _ _ (μ++[t]) (Q3 ht) (r.push ht ⟨_,Qr,(q.append q2).mono (Q3 ht)⟩) (.ref ?_)⟩);rw[<-r.len];simp
       ·rw[Uh z]at p;exact p.elim
      |_=>exact p.elim
     |_=>cases o2<;>exact p.elim
  |_=>exact p.elim
 |_=>cases qy<;>exact p.elim
theorem mE(ha:Qs ca X a ma)(hb:Qs ca X b mb):Qs ca X (.BinOp a .Add b pos) (Qc ZE ma mb):=Fk (((op_add.or AO).or dH).or Pt) Pu ha hb
theorem LW{K:Frag}{C:Int->Int->Prop}{h:Int->Int->V}{f:D->D->G->Res D}(hf:∀i j g Q H μ,GRep K ca μ H g->Jg K ca Q H μ (f (.int i) (.int j) g)->C i j/\Q (h i j) H)(hn:∀x y g Q H μ,Jg K ca Q H μ (f x y g)->∃i j,x=.int i/\y=.int j):Yd K ca (rI C h) f:=by intro H μ g x y dx dy Q r qx qy p;obtain⟨i,j,rfl,rfl⟩:=hn dx dy g Q H μ p;cases qx;cases qy;obtain⟨c,q⟩:=hf i j g Q H μ r p;exact⟨i,j,rfl,rfl,c,q⟩
theorem G5{K:Frag}{h:Int->Int->V}{f:D->D->G->Res D}(hf:∀i j g Q H μ,GRep K ca μ H g->Jg K ca Q H μ (f (.int i) (.int j) g)->Q (h i j) H)(hn:∀x y g Q H μ,Jg K ca Q H μ (f x y g)->∃i j,x=.int i/\y=.int j):Yd K ca (Ap h) f:=by intro H μ g x y dx dy Q r qx qy p;obtain⟨i,j,rfl,rfl⟩:=hn dx dy g Q H μ p;cases qx;cases qy;exact⟨i,j,rfl,rfl,hf i j g Q H μ r p⟩
theorem VU{K:Frag}{f:D->D->G->Res D}(h:∀x y g,(∃i j,x=D.int i/\y=D.int j)\/f x y g=.stuck)(x y:D)(g:G)(Q:VK)(H:Hp)(μ:List Addr)(p:Jg K ca Q H μ (f x y g)):∃i j,x=.int i/\y=.int j:=by
 rcases h x y g with z|z
 ·exact z
 ·rw[z]at p;exact p.elim
theorem mF(ha:Qs ca X a ma)(hb:Qs ca X b mb):Qs ca X (.BinOp a .Sub b pos) (Qc FY ma mb):=Fk cR (G5 (λi j g Q H μ r p=>p _ H μ .refl r (.int _)) (VU λx y g=>by cases x<;>cases y<;>first|exact .inl ⟨_,_,rfl,rfl⟩|exact .inr rfl)) ha hb
theorem fT(ha:Qs ca X a ma)(hb:Qs ca X b mb):Qs ca X (.BinOp a .FloorDiv b pos) (Qc JA ma mb):=
 Fk AE (LW (λi j g Q H μ r p=>by
  unfold JA at p;by_cases z:0<j/\j<1073741824
  ·dsimp only at p;rw[Uf z]at p;exact⟨z,p _ H μ .refl r (.int _)⟩
  ·dsimp only at p;rw[Uh z]at p;exact p.elim) (VU λx y g=>by cases x<;>cases y<;>first|exact .inl ⟨_,_,rfl,rfl⟩|exact .inr rfl)) ha hb
theorem mG(ha:Qs ca X a ma)(hb:Qs ca X b mb):Qs ca X (.BinOp a .Mod b pos) (Qc Yz ma mb):=
 Fk cT (LW (λi j g Q H μ r p=>by
  unfold Yz at p;by_cases z:0<j
  ·dsimp only at p;rw[Uf z]at p;exact⟨z,p _ H μ .refl r (.int _)⟩
  ·dsimp only at p;rw[Uh z]at p;exact p.elim) (VU λx y g=>by cases x<;>cases y<;>first|exact .inl ⟨_,_,rfl,rfl⟩|exact .inr rfl)) ha hb
theorem mH(ha:Qs ca X a ma)(hb:Qs ca X b mb):Qs ca X (.BinOp a .Mult b pos) (Qc XD ma mb):=
 Fk cS (λH μ g x y dx dy Q r qx qy p=>by
  unfold XD at p;cases qx with
  |int i=>
   cases qy with
   |int j=>
    dsimp only at p;by_cases z:cM i\/cM j
    ·rw[Uf z]at p;exact⟨i,j,rfl,rfl,z,p _ H μ .refl r (.int _)⟩
    ·rw[Uh z]at p;exact p.elim
   |_=>exact p.elim
  |_=>cases qy<;>exact p.elim) ha hb
theorem mJ(ha:Qs ca X a ma):Qs ca X (.UnaryOp .USub a pos) (Qi JP ma):=
 qZ cU (λH μ g x dx Q r qx p=>by
  cases qx with
  |int i=>exact⟨i,rfl,p _ H μ .refl r (.int _)⟩|_=>exact p.elim) ha
theorem Jo{K:Frag}(r:Int->Int->Bool):Yd K ca (Ap λi j=>.bl (r i j)) (Nl r):=G5 (λi j g Q H μ r p=>p _ H μ .refl r (.bl _)) (VU λx y g=>by cases x<;>cases y<;>first|exact .inl ⟨_,_,rfl,rfl⟩|exact .inr rfl)
theorem rE(ha:Qs ca X a ma)(hb:Qs ca X b mb):Qs ca X (.Compare a [.Gt] [b] pos) (Qc GJ ma mb):=Fl aV (Jo _) ha hb (JN b)
theorem rG(ha:Qs ca X a ma)(hb:Qs ca X b mb):Qs ca X (.Compare a [.GtE] [b] pos) (Qc qV ma mb):=Fl kA (Jo _) ha hb (JN b)
theorem mK(ha:Qs ca X a ma)(hb:Qs ca X b mb):B3 ca X (.Compare a [.Lt] [b] pos) (Qf (Qc FZ ma mb)):=JB aT (Jo _) ha hb (JN b)
theorem mL(ha:Qs ca X a ma)(hb:Qs ca X b mb):B3 ca X (.Compare a [.LtE] [b] pos) (Qf (Qc Ar ma mb)):=JB aU (Jo _) ha hb (JN b)
theorem mM(ha:Qs ca X a ma)(hb:Qs ca X b mb):B3 ca X (.Compare a [.Gt] [b] pos) (Qf (Qc GJ ma mb)):=JB aV (Jo _) ha hb (JN b)
end
section
variable{X:Cx}{ca:Nat->Addr}{pins:YM}{σ:L2.St}{H:Hp}{s:Shared}{μ:List Addr}{g:G}
theorem Fo{K:Frag}{μ:List Addr}{H:Hp}:∀{vs:List V}{ds:List D}{ns:List Int},Dens K μ H vs ds->Ve ds=some ns->vs=ns.map V.int
 |_,_,ns,.nil,h=>by cases h;rfl
 |_,_,ns,.cons (ds:=ds) h1 h2,h=>by
  cases h1 with
  |int i=>
   unfold Ve at h;cases hr:Ve ds with
   |none=>rw[hr]at h;cases h|some ms=>rw[hr]at h;cases h;rw[UH,Fo h2 hr]
  |_=>cases h
theorem G6{K:Frag}{c:Bool->Bool}{r:R2}{f:D->D->G->Res D}(hf:∀x y g,f x y g=match qW x y with
 |some b=>.ok (.bl (c b)) g|none=>.stuck)(hi:∀i j H Q,Q (.bl (c (i==j))) H->r (.int i) (.int j) H Q)(hs:∀i j H Q,Q (.bl (c (i==j))) H->r (.str i) (.str j) H Q):Yd K ca r f:=by
 intro H μ g x y dx dy Q r qx qy p;rw[hf]at p;cases qx with
 |int i=>cases qy with
  |int j=>exact hi i j H Q (p _ H μ .refl r (.bl _))|_=>exact p.elim
 |str i=>cases qy with
  |str j=>exact hs i j H Q (p _ H μ .refl r (.bl _))|_=>exact p.elim
 |_=>exact p.elim
theorem LX{K:Frag}:Yd K ca sH VD:=G6 (c:=id) (λ_ _ _=>rfl) (λi j H Q h=>⟨rfl,by rw[Cj];exact h⟩) λi j H Q h=>⟨rfl,by rw[Ck];exact h⟩
theorem Dd{K:Frag}:Yd K ca sI Ik:=G6 (c:=not) (λ_ _ _=>rfl) (λi j H Q h=>⟨rfl,by rw[Cj];exact h⟩) λi j H Q h=>⟨rfl,by rw[Ck];exact h⟩
end
section
variable{X:Cx}{ca:Nat->Addr}{a b e:Expr}{ma mb me:ME}{pos p:Pos}{k:Nat}
theorem mN(hr:Room k A):A.units+16<cLine:=by have:=hr.units;omega
theorem rH(ha:Qs ca X a ma)(hb:Qs ca X b mb):Qs ca X (.Compare a [.Eq] [b] pos) (Qc VD ma mb):=Fl aS LX ha hb (JN b)
theorem mO(ha:Qs ca X a ma)(hb:Qs ca X b mb):B3 ca X (.Compare a [.Eq] [b] pos) (Qf (Qc VD ma mb)):=JB aS LX ha hb (JN b)
theorem mP(ha:Qs ca X a ma)(hb:Qs ca X b mb):B3 ca X (.Compare a [.NotEq] [b] pos) (Qf (Qc Ik ma mb)):=JB jZ Dd ha hb (JN b)
theorem Pv{K:Frag}{μ:List Addr}{H:Hp}{x:V}{d:D}(q:Den K μ H x d):decide (x=.non)=Pf d:=by cases q<;>simp[Pf]
theorem De{K:Frag}:Yd K ca (λx y H Q=>y=.non/\Q (.bl (decide (x=.non))) H) bB:=by
 intro H μ g x y dx dy Q r qx qy p;cases qy with
 |non=>exact⟨rfl,p _ H μ .refl r (by rw[Pv qx];exact .bl _)⟩|_=>exact p.elim
theorem mQ(ha:Qs ca X a ma)(hb:Qs ca X b mb):B3 ca X (.Compare a [.Is] [b] pos) (Qf (Qc bB ma mb)):=JB cV De ha hb (JN b)
theorem Ef{K:Frag}{μ:List Addr}{H:Hp}{vs:List V}{ds:List D}{i:Int}{d:D}(q:Dens K μ H vs ds)(h:EU ds i=some d):∃v,dA vs i=some v/\Den K μ H v d:=by
 unfold EU at h;cases hj:Nk ds.length i with
 |none=>rw[hj]at h;cases h|some j =>rw[hj]at h;obtain⟨v,h1,h2⟩:=q.get (show ds[j]?=some d from h);refine⟨v,?_,h2⟩;unfold dA;rw[q.length,show iT ds.length i=some j from hj];exact h1
theorem Df{K:Frag}:Yd K ca (sK K) QG:=by
 intro H μ g x y dx dy Q r qx qy p;unfold QG at p;cases qx with
 |tup ht hs=>
  cases qy with
  |int i=>
   dsimp only at p;rename_i a vs ds;cases h:EU ds i with
   |none=>rw[h]at p;exact p.elim|some d =>rw[h]at p;obtain⟨v,h1,h2⟩:=Ef hs h;exact .inr (.inl ⟨a,vs,i,v,rfl,rfl,ht,h1,p v H μ .refl r h2⟩)
  |_=>exact p.elim
 |fl ht hs=>
  cases qy with
  |int i=>
   dsimp only at p;rename_i a vs ds;cases h:EU ds i with
   |none=>rw[h]at p;exact p.elim|some d =>rw[h]at p;obtain⟨v,h1,h2⟩:=Ef hs h;exact .inl ⟨a,vs,i,v,rfl,rfl,ht.sq,h1,p v H μ .refl r h2⟩
  |_=>exact p.elim
 |@ref n a hn=>
  cases qy with
  |int i=>
   dsimp only at p;cases hg:g[n]? with
   |none=>rw[hg]at p;exact p.elim|some o=>
    rw[hg]at p;obtain⟨a',ha',ob⟩:=r.addr hg;rw[hn]at ha';cases ha';cases o with
    |lst ds=>
     obtain⟨vs,hH,hs⟩:=ob;dsimp only at p;cases h:EU ds i with
     |none=>rw[h]at p;exact p.elim|some d =>rw[h]at p;obtain⟨v,h1,h2⟩:=Ef hs h;exact .inl ⟨a,vs,i,v,rfl,rfl,.of hH,h1,p v H μ .refl r h2⟩
    |_=>exact p.elim
  |_=>exact p.elim
 |str s=>
  cases qy with
  |int i=>
   dsimp only at p;by_cases z:s.length<=SZ
   ·rw[Uf z]at p;cases h:EU s.cps.toList i with
    |none=>rw[h]at p;exact p.elim|some c =>rw[h]at p;exact .inr (.inr ⟨s,i,c,rfl,rfl,Uk z Z5,h,p _ H μ .refl r (.str _)⟩)
   ·rw[Uh z]at p;exact p.elim
  |_=>exact p.elim
 |_=>cases qy<;>exact p.elim
theorem fU(ha:Qs ca X a ma)(hb:Qs ca X b mb)(hs:Co b:=by exact λ_ _=>rfl):Qs ca X (.Subscript a b pos) (Qc QG ma mb):=lP dD Df ha hb hs
theorem Eg{x:Str}{id:String}{r:List V->Hp->VK->Prop}{f:D->G->Res D}(hc:YA (xo X) (.builtin id) r)(hm:X.mg x=none)(hv:bootBuiltins x=some (.builtin id))(hp:∀(H:Hp) (μ:List Addr) (g:G) (y:V) (d:D) (Q:VK),GRep X.K ca μ H g->Den X.K μ H y d->Jg X.K ca Q H μ (f d g)->r [y] H Q)(he:Qs ca X e me)(hg:Gl X x)(hn:x ≠"__name__")(hdb:(x==("__debug__" : Str))=false)(hs:starEach [e] X.env=[(false,eval e X.env)])(hpl:(backTo pos (starEach [] X.env)).any (·.1)=false):Qs ca X (.Call (.Name x p) [e] [] pos) (Qi f me):=
 QZ (VG (X:=xo X) hc hg hm hv (ZN he JW hs) hn hdb hs hpl) λσ H Q hQ=>by
  obtain⟨σ3,g,μ,R,q⟩:=hQ;refine⟨σ3,g,μ,R,?_⟩;unfold Qi at q;unfold Qb Qd;cases hm:me σ3 g with
  |stuck=>rw[hm]at q;exact q.elim|ok d g1=>
   rw[hm,Res.bind_ok]at q;rw[Res.bind_ok,Res.bind_ok];intro vs H1 μ1 e1 r1 q1;cases q1 with
   |cons h1 h2 =>cases h2;exact hp H1 μ1 g1 _ d Q r1 h1 (q.go e1)
end
section
variable{X:Cx}{ca:Nat->Addr}{a b e o:Expr}{ma mb me mo:ME}{pos p apos:Pos}{k:Nat}
theorem Dg{x:Str}{T:String}{r:List V->Hp->VK->Prop}{f:D->G->Res D}(hc:YA (xo X) (.type T) r)(hm:X.mg x=none)(hv:bootBuiltins x=some (.type T))(hp:∀(H:Hp) (μ:List Addr) (g:G) (y:V) (d:D) (Q:VK),GRep X.K ca μ H g->Den X.K μ H y d->Jg X.K ca Q H μ (f d g)->r [y] H Q)(he:Qs ca X e me)(hg:Gl X x)(hn:x ≠"__name__")(hdb:(x==("__debug__" : Str))=false)(hs:starEach [e] X.env=[(false,eval e X.env)])(hpl:(backTo pos (starEach [] X.env)).any (·.1)=false):Qs ca X (.Call (.Name x p) [e] [] pos) (Qi f me):=
 QZ (M7 (X:=xo X) hc hg hm hv (ZN he JW hs) hn hdb hs hpl) λσ H Q hQ=>by
  obtain⟨σ3,g,μ,R,q⟩:=hQ;refine⟨σ3,g,μ,R,?_⟩;unfold Qi at q;unfold Qb Qd;cases hm:me σ3 g with
  |stuck=>rw[hm]at q;exact q.elim|ok d g1=>
   rw[hm,Res.bind_ok]at q;rw[Res.bind_ok,Res.bind_ok];intro vs H1 μ1 e1 r1 q1;cases q1 with
   |cons h1 h2 =>cases h2;exact hp H1 μ1 g1 _ d Q r1 h1 (q.go e1)
theorem mR(hm:X.mg "len"=none)(he:Qs ca X e me)(hg:Gl X "len":=by exact Eq.refl (some _))(hs:starEach [e] X.env=[(false,eval e X.env)]:=by rfl)(hpl:(backTo pos (starEach [] X.env)).any (·.1)=false:=by exact Eq.refl false):
  Qs ca X (.Call (.Name "len" p) [e] [] pos) (Qi Zj me):=
 Eg (r:=λxs H Q=>∃p ys,xs=[V.ref p]/\(SqL X.K H p ys\/SqT X.K H p ys)/\Q (V.int (ys.length:Int)) H) FP hm boot_len (λH μ g y d Q r q pp=>by
  unfold Zj at pp;cases q with
  |@tup t vs ds ht hs=>exact⟨t,vs,rfl,.inr ht,pp _ H μ .refl r (by rw[hs.length];exact .int _)⟩|@fl t vs ds ht hs=>exact⟨t,vs,rfl,.inl ht.sq,pp _ H μ .refl r (by rw[hs.length];exact .int _)⟩|@ref n t hn=>
   dsimp only at pp;cases hgn:g[n]? with
   |none=>rw[hgn]at pp;exact pp.elim|some ob=>
    rw[hgn]at pp;obtain⟨t',ht',orp⟩:=r.addr hgn;rw[hn]at ht';cases ht';cases ob with
    |lst ds=>obtain⟨vs,hH,q⟩:=orp;exact⟨t,vs,rfl,.inl (.of hH),pp _ H μ .refl r (by rw[q.length];exact .int _)⟩|_=>exact pp.elim
  |_=>exact pp.elim) he hg (by decide) (by decide) hs hpl
theorem Dh(hm:X.mg "tuple"=none)(he:Qs ca X e me)(hg:Gl X "tuple":=by exact Eq.refl (some _))(hs:starEach [e] X.env=[(false,eval e X.env)]:=by rfl)(hpl:(backTo pos (starEach [] X.env)).any (·.1)=false:=by exact Eq.refl false):
  Qs ca X (.Call (.Name "tuple" p) [e] [] pos) (Qi YD me):=
 Dg (r:=λxs H Q=>∃p ys,xs=[V.ref p]/\((SqL X.K H p ys/\∀l,H l=none->Q (.ref l) (Za H l (.tup ys)))\/(SqT X.K H p ys/\Q (.ref p) H))) ER hm boot_tuple (λH μ g y d Q r q pp=>by
  unfold YD at pp;cases q with
  |@tup t vs ds ht hs=>exact⟨t,vs,rfl,.inr ⟨ht,pp _ H μ .refl r (.tup ht hs)⟩⟩|@fl t vs ds ht hs=>exact⟨t,vs,rfl,.inl ⟨ht.sq,λl hl=>pp _ _ μ (Q8 hl) (r.new hl) (.tup (.of Qr) (hs.mono (Q8 hl)))⟩⟩|@ref n t hn=>
   dsimp only at pp;cases hgn:g[n]? with
   |none=>rw[hgn]at pp;exact pp.elim|some ob=>
    rw[hgn]at pp;obtain⟨t',ht',orp⟩:=r.addr hgn;rw[hn]at ht';cases ht';cases ob with
    |lst ds=>obtain⟨vs,hH,q⟩:=orp;exact⟨t,vs,rfl,.inl ⟨.of hH,λl hl=>pp _ _ μ (Q8 hl) (r.new hl) (.tup (.of Qr) (q.mono (Q8 hl)))⟩⟩|_=>exact pp.elim
  |_=>exact pp.elim) he hg (by decide) (by decide) hs hpl
theorem Di(hm:X.mg "int"=none)(he:Qs ca X e me)(hg:Gl X "int":=by exact Eq.refl (some _))(hs:starEach [e] X.env=[(false,eval e X.env)]:=by rfl)(hpl:(backTo pos (starEach [] X.env)).any (·.1)=false:=by exact Eq.refl false):
  Qs ca X (.Call (.Name "int" p) [e] [] pos) (Qi lI me):=
 Dg MZ hm boot_int (λH μ g y d Q r q pp=>by
  cases q with
  |int i=>exact .inl ⟨i,rfl,pp _ H μ .refl r (.int _)⟩|bl b=>exact .inr ⟨b,rfl,pp _ H μ .refl r (.int _)⟩|_=>exact pp.elim) he hg (by decide) (by decide) hs hpl
theorem Pw(ho:Qs ca X o mo)(he:Qs ca X e me)(hbase:attributeBase o "append" X.env (eval o X.env)=eval o X.env:=by rfl)(hfew:((backTo pos (starEach [e] X.env)).all (λx=>!x.1)&&(backToKw pos (keywordEach [] X.env)).all (λx=>x.1.isSome)&&decide ([e].length+([]:List Keyword).length+(if ([]:List Keyword).isEmpty then 0 else 1)<30))=true:=by exact Eq.refl true)(hline:(apos.endLine==pos.line)=true:=by exact Eq.refl true)(hs:starEach [e] X.env=(false,eval e X.env)::starEach [] X.env:=by rfl)(hplain:(backTo pos (starEach [] X.env)).any (·.1)=false:=by exact Eq.refl false):
  Qs ca X (.Call (.Attribute o "append" apos) [e] [] pos) (Zp mo me):=
 QZ (OL (X:=xo X) Wx PySem.F.slot_list_append PySem.F.type_list_append Na ho (ZN he JW hs) hbase hfew hline hs hplain) λσ H Q ⟨σ3,g,μ,R,q⟩=>QC (Zl R q) λx H1 hQ=>by
  obtain⟨d,g1,μ1,e1,R1,q1,p1⟩:=hQ;cases q1 with
  |@ref n t hn=>
   dsimp only at p1;cases hgn:g1[n]? with
   |none=>rw[hgn]at p1;exact p1.elim|some ob=>
    rw[hgn]at p1;obtain⟨t',ht',orp⟩:=R1.g.addr hgn;rw[hn]at ht';cases ht';cases ob with
    |lst ds0=>
     obtain⟨vs0,hH0,_⟩:=orp;dsimp only at p1;refine⟨.inl ⟨rfl,_,.of hH0⟩,σ3,g1,μ1,R1,?_⟩;unfold Qb Qd;cases hm:me σ3 g1 with
     |stuck=>rw[hm]at p1;exact p1.elim|ok y g2=>
      rw[hm,Res.bind_ok]at p1;rw[Res.bind_ok,Res.bind_ok];intro vs H2 μ2 e2 r2 q2;cases q2 with
      |@cons vy _ _ _ h1 h2=>
       cases h2;cases hg2:g2[n]? with
       |none=>rw[hg2]at p1;exact p1.elim|some ob2=>
        rw[hg2]at p1;obtain⟨t',ht',orp⟩:=r2.addr hg2;rw[e2.at hn]at ht';cases ht';cases ob2 with
        |lst ds=>
         obtain⟨ws,hH,qs⟩:=orp;dsimp only at p1;by_cases z:ds.length<SZ
         ·rw[Uf z]at p1;have ex:Ext X.K μ2 H2 μ2 (Za H2 t (.lst (ws++[vy]))):=Z4 hH (by intro _ z;cases z) (by intro _ _ z;cases z);refine⟨t,ws,_,rfl,rfl,hH,by rw[qs.length];exact UA z Z5,p1 _ _ μ2 (e2.trans ex) ?_ .non⟩;exact r2.set (e2.at hn) hH (by intro _ z;cases z) (by intro _ _ z;cases z) ⟨_,Qr,(qs.mono ex).append (.cons (h1.mono ex) .nil)⟩
         ·rw[Uh z]at p1;exact p1.elim
        |_=>exact p1.elim
    |_=>exact p1.elim
  |_=>exact p1.elim
theorem Dens.dropLast{K:Frag}{μ:List Addr}{H:Hp}{vs:List V}{ds:List D}(h:Dens K μ H vs ds):Dens K μ H vs.dropLast ds.dropLast:=by rw[WX,WX,h.length];exact h.take _
theorem mS(ho:Qs ca X o mo)(hbase:attributeBase o "pop" X.env (eval o X.env)=eval o X.env:=by rfl)(hline:(apos.endLine==pos.line)=true:=by exact Eq.refl true):Qs ca X (.Call (.Attribute o "pop" apos) [] [] pos) (Qi Kp mo):=
 QZ (dF (X:=xo X) Wx PySem.F.slot_list_pop PySem.F.type_list_pop dG ho hbase hline) λσ H Q ⟨σ3,g,μ,R,q⟩=>QC (Zl R q) λx H1 hQ=>by
  obtain⟨d,g1,μ1,e1,R1,q1,p1⟩:=hQ;unfold Kp at p1;cases q1 with
  |@ref n t hn=>
   dsimp only at p1;cases hgn:g1[n]? with
   |none=>rw[hgn]at p1;exact p1.elim|some ob=>
    rw[hgn]at p1;obtain⟨t',ht',orp⟩:=R1.g.addr hgn;rw[hn]at ht';cases ht';cases ob with
    |lst ds=>
     obtain⟨ws,hH,qs⟩:=orp;dsimp only at p1;cases hl:ds[ds.length-1]? with
     |none=>rw[hl]at p1;exact p1.elim|some y =>rw[hl]at p1;obtain⟨v,h1,h2⟩:=qs.get hl;have ex:Ext X.K μ1 H1 μ1 (Za H1 t (.lst ws.dropLast)):=Z4 hH (by intro _ z;cases z) (by intro _ _ z;cases z);refine⟨.inl ⟨rfl,_,.of hH⟩,t,ws,v,rfl,rfl,hH,by rw[qs.length];exact h1,p1 v _ μ1 ex ?_ (h2.mono ex)⟩;exact R1.g.set hn hH (by intro _ z;cases z) (by intro _ _ z;cases z) ⟨_,Qr,(qs.mono ex).dropLast⟩
    |_=>exact p1.elim
  |_=>exact p1.elim
end
def Sq(b:Bool)(K:Frag)(H:Hp)(a:Addr)(xs:List V):Prop:=if b=true then SqL K H a xs else SqT K H a xs
section
variable{prog:Program}{w:World}{A:Around}{E:VP}{s:Shared}
theorem EX{it t:Addr}{i:Nat}{items:Array Value}{Q:VP}(hh:A.handled=none)(hit:s.heap.IsTupleIter it t i)(ht:s.heap.IsTuple t items)(hx:items[i]?=none)(hE:∀h' e,Heap.ExtBut it s.heap h'->(∃o,h'.get? e=some o/\o.cls=.type "StopIteration")->E (.ref e) {s with heap:=h'}):wpAny (model prog w) A (Builtin.SmallTypes.nextOf (.ref it)) Q E s:=by obtain⟨o,ho,hc,hd⟩:=id hit;obtain⟨ol,hol,_,nl,hdl⟩:=ht;unfold Builtin.SmallTypes.nextOf;refine Ua (U0 (name:=Str.ofString "__next__") hit.typeIs Bq (UW Bq hit.typeIs F.entry_tuple_iterator_next ?_ (F.args_tuple_iterator_next_1 _)));show wpAny _ _ (field (.ref it) 0 >>= _) _ _ s;refine Ua (Rh ho hd (x:=.ref t) rfl ?_);show wpAny _ _ (if (Value.ref t==Value.none)=true then _ else _) _ _ s;rw[Uh (show ¬((Value.ref t==Value.none)=true) from Uj)];show wpAny _ _ (field (.ref it) 1 >>= _) _ _ s;refine Ua (Rh ho hd (x:=.int i 0) rfl ?_);show wpAny _ _ (seqItems? (.ref t) >>= _) _ _ s;refine Ua (BA hol hdl ?_);simp only[TH,hx];refine Ua (TC (Ua (WN ho hd (by simp) ?_)));show wpAny _ _ (newExc (.type "StopIteration") [] >>= _) _ _ _;refine Ua ?_;simp only[newExc,newTuple];refine Ua (UP ?_ (by size_fits));refine Ua (m:=firstArgMember _ _) (RJ (a:=Value.none) (by first|rfl|(simp only[firstArgMember];rfl)) ?_);refine UP ?_ (by size_fits);simp only[raiseNew];refine Ua (wpAny_handled ?_);(first|rw[show A.in1.handled=none from hh]|rw[hh]);refine Ua (Uc (wpAny_throw ?_));exact hE _ _ (((TF ..).extBut.push _).push _) ⟨_,Uu _ rfl,rfl⟩
theorem fV{z TI TO i1 i2 l1 l2:Addr}{a b:Value}{Q:Fin->Shared->Prop}(hh:A.handled=none)(D:ZipApart z TI TO i1 i2 l1 l2)(hz:IsZip s.heap z TI TO .none)(hTI:IsPair s.heap TI (.ref i1) (.ref i2))(hTO:IsPair s.heap TO a b)(h1:s.heap.IsTupleIter i1 l1 0)(hl1:s.heap.IsTuple l1 #[])(hE:∀h' e,(∀c o,c≠z->c≠TO->c≠i1->c≠i2->s.heap.get? c=some o->h'.get? c=some o)->(∃o,h'.get? e=some o/\o.cls=.type "StopIteration")->E (.ref e) {s with heap:=h'}):
  wpAny (model prog w) A (Builtin.«zip.__next__» ⟨[.ref z],[]⟩) Q E s:=by
 show wpAny _ _ (field (.ref z) 2 >>= _) _ _ _;refine Ua (Rh hz rfl (x:=.bool false) rfl ?_);show wpAny _ _ (field (.ref z) 3 >>= _) _ _ _;refine Ua (Rh hz rfl (x:=.ref TI) rfl ?_);refine Ua (BA hTI rfl ?_);show wpAny _ _ (Builtin.SmallTypes.ownedTupleIsFree (.ref z) >>= _) _ _ _;refine Ua ?_;unfold Builtin.SmallTypes.ownedTupleIsFree;refine Ua (Rh hz rfl (x:=.none) rfl (Uc ?_));simp only[W6];refine Ua (TC ?_);refine Ua (Rh hz rfl (x:=.ref TO) rfl ?_);refine Ua (wpAny_setField_rec hz (by simp) λg1 hz1 hs1=>?_);replace hz1:IsZip g1 z TI TO .ellipsis:=hz1;refine Ua ?_;simp only[BZ,List.zipIdx_nil,pI,pK];refine Ua (Ua (wpAny_onRaise ?_));show wpAny _ _ (Builtin.SmallTypes.nextOf (.ref i1) >>= _) _ _ _;refine Ua (EX hh (Heap.IsTupleIter.at h1 λo e=>hs1.extBut _ o D.i1z e) (let ⟨o,e,c⟩:=hl1;⟨o,hs1.extBut _ o D.l1z e,c⟩) rfl λg2 e hs2 he=>?_);obtain⟨oe,hoe,hce⟩:=he;have hz2:IsZip g2 z TI TO .ellipsis:=hs2 _ _ D.i1z.symm hz1;have hez:e≠z:=λq=>by subst q;rw[hz2]at hoe;cases hoe;simp at hce
 refine wpAny_setField_rec hz2 (by simp) λg3 _ hs3=>hE g3 e (λc o c1 _ c3 _ q=>hs3.extBut _ _ c1 (hs2 _ _ c3 (hs1.extBut _ _ c1 q))) ⟨oe,hs3.extBut _ _ hez hoe,hce⟩
theorem EY{z TI TO i1 i2 l1 l2:Addr}{a b:Value}{Q:Option Value->Shared->Prop}(hh:A.handled=none)(D:ZipApart z TI TO i1 i2 l1 l2)(hz:IsZip s.heap z TI TO .none)(hTI:IsPair s.heap TI (.ref i1) (.ref i2))(hTO:IsPair s.heap TO a b)(h1:s.heap.IsTupleIter i1 l1 0)(hl1:s.heap.IsTuple l1 #[])(hQ:∀h',(∀c o,c≠z->c≠TO->c≠i1->c≠i2->s.heap.get? c=some o->h'.get? c=some o)->Q none {s with heap:=h'}):wpAny (model prog w) A (pyNext (.ref z)) Q E s:=by have hT:s.TypeIs (.ref z) "zip":=⟨_,hz,rfl⟩;unfold pyNext;refine Ua (Wb (U0 (name:=Str.ofString "__next__") hT F.slot_zip_next (UW F.slot_zip_next hT F.entry_zip_next (fV hh D hz hTI hTO h1 hl1 λh' e hk he=>?_) (F.args_zip_next_1 _))));obtain⟨o,ho,hc⟩:=he;refine Ua (T7 (T:="StopIteration") (b:=true) ⟨o,ho,hc⟩ isSubtype_stop ?_);exact Uc (hQ _ hk)
def VV(l:Addr):Obj:={cls:=.type "tuple_iterator",data:=.fields #[.ref l,.int 0 0]}
theorem Fp(hl:s.heap.IsTuple l xs)(h:Q (.ref s.heap.objs.size) {s with heap:=s.heap.push (VV l)}):wpAny (model prog w) A (pyIter (.ref l)) Q E s:=wpAny_pyIter_tuple hl h
abbrev oU(h:Heap)(l1:Addr):Heap:=h.push (VV l1)
abbrev oV(h:Heap)(l1 l2:Addr):Heap:=(oU h l1).push (VV l2)
abbrev oX(h:Heap)(l1 l2:Addr):Heap:=(oV h l1 l2).push {cls:=.type "tuple",data:=.seq #[.ref h.objs.size,.ref (oU h l1).objs.size]}
abbrev oY(h:Heap)(l1 l2:Addr):Heap:=(oX h l1 l2).push {cls:=.type "tuple",data:=.seq #[.none,.none]}
abbrev fW(h:Heap)(l1 l2:Addr):Heap:=(oY h l1 l2).push {cls:=.type "zip",data:=.fields #[.none,.bool false,.bool false,.ref (oV h l1 l2).objs.size,.ref (oX h l1 l2).objs.size]}
theorem Dj(l1 l2:Addr)(xs ys:Array Value):Meets (Builtin.«zip.__new__» ⟨[.type "zip",.ref l1,.ref l2],[]⟩) (λ_ R s=>s.heap.IsTuple l1 xs/\s.heap.IsTuple l2 ys/\R (.ok (.ret (.ref (oY s.heap l1 l2).objs.size))) {s with heap:=fW s.heap l1 l2}):=
 .of_wp λprog w A R s h=>by
  obtain⟨hp,g,d,tk,os⟩:=s;obtain⟨hl1,hl2,h⟩:=h;have hsub:=sub_zip;have hL1:(Shared.heap ⟨hp,g,d,tk,os⟩).IsTuple l1 xs:=hl1;have hL2:(Shared.heap ⟨hp.push (VV l1),g,d,tk,os⟩).IsTuple l2 ys:=let ⟨o,e,c⟩:=hl2;⟨o,Ub _ e,c⟩
  wp_walk using Fp hL1,Fp hL2
  exact⟨_,rfl,h⟩
theorem Px{l1 l2:Addr}{xs ys:Array Value}{Q:VP}(hl1:s.heap.IsTuple l1 xs)(hl2:s.heap.IsTuple l2 ys)(h:∀h',IsZip h' (s.heap.objs.size+4) (s.heap.objs.size+2) (s.heap.objs.size+3) .none->IsPair h' (s.heap.objs.size+2) (.ref s.heap.objs.size) (.ref (s.heap.objs.size+1))->IsPair h' (s.heap.objs.size+3) .none .none->h'.IsTupleIter s.heap.objs.size l1 0->h'.get? (s.heap.objs.size+1)=some (VV l2)->h'.objs.size=s.heap.objs.size+5->(∀c o,s.heap.get? c=some o->h'.get? c=some o)->Q (.ref (s.heap.objs.size+4)) {s with heap:=h'}):
  wpAny (model prog w) A (call (.type "zip") [.ref l1,.ref l2]) Q E s:=by
 refine callType_new F.called_zip (by decide) (F.typeCall_zip_2 _ _) (F.newCall_zip_2 _ _) (λobj=>F.args_object_init_3 obj _ _) F.entry_zip_new (Dj l1 l2 xs ys) ⟨hl1,hl2,?_⟩;have z1:(oU s.heap l1).objs.size=s.heap.objs.size+1:=Rv ..;have z2:(oV s.heap l1 l2).objs.size=s.heap.objs.size+2:=by rw[Rv,z1]
 have z3:(oX s.heap l1 l2).objs.size=s.heap.objs.size+3:=by rw[Rv,z2]
 have z4:(oY s.heap l1 l2).objs.size=s.heap.objs.size+4:=by rw[Rv,z3]
 have z5:(fW s.heap l1 l2).objs.size=s.heap.objs.size+5:=by rw[Rv,z4]
 have g5:(fW s.heap l1 l2).get? (oY s.heap l1 l2).objs.size=some _:=Uu _ rfl;have g4:(fW s.heap l1 l2).get? (oX s.heap l1 l2).objs.size=some _:=Ub _ (Uu _ rfl);have g3:(fW s.heap l1 l2).get? (oV s.heap l1 l2).objs.size=some _:=Ub _ (Ub _ (Uu _ rfl));have g2:(fW s.heap l1 l2).get? (oU s.heap l1).objs.size=some (VV l2):=Ub _ (Ub _ (Ub _ (Uu _ (by unfold VV;rfl))));have g1:(fW s.heap l1 l2).get? s.heap.objs.size=some (VV l1):=Ub _ (Ub _ (Ub _ (Ub _ (Uu _ (by unfold VV;rfl)))));show _/\_;rw[z2,z3,z4]at g5;rw[z1,z2]at g3;rw[z3]at g4;rw[z1]at g2;rw[z4];exact⟨⟨_,g5,rfl⟩,h _ g5 g3 g4 ⟨_,g1,rfl,rfl⟩ g2 z5 λc o q=>Ub _ (Ub _ (Ub _ (Ub _ (Ub _ q))))⟩
end
def sR(K:Frag)(a1:Addr):It:=⟨λ_ _=>False,λ_ _ _ _=>False,λi H=>i=0/\SqT K H a1 []⟩
theorem Py{P:Program}{w:World}{K:Frag}{elts:List Expr}{kk:Nat}{tp:Pos}(z TI TO i1 i2 l1 l2:Addr)(D:ZipApart z TI TO i1 i2 l1 l2):
  Turn P w K (.Tuple elts kk tp) (sR K l1) [z,TI,TO,i1,i2] z (λ_ h=>IsZip h z TI TO .none/\IsPair h TI (.ref i1) (.ref i2)/\(∃a b,IsPair h TO a b)/\h.IsTupleIter i1 l1 0/\∃o,h.get? i2=some o/\∀v,o.data≠.cell v) where
 mem:=by simp
 obj:=λi h st b hb=>by
  obtain⟨hz,hTI,⟨a,c,hTO⟩,h1,h2⟩:=st;have hb':b=z\/b=TI\/b=TO\/b=i1\/b=i2:=by simpa using hb
  rcases hb' with rfl|rfl|rfl|rfl|rfl
  ·exact⟨_,hz,λv q=>by cases q⟩
  ·exact⟨_,hTI,λv q=>by cases q⟩
  ·exact⟨_,hTO,λv q=>by cases q⟩
  ·obtain⟨o,e,c,d⟩:=h1;exact⟨o,e,λv z=>by rw[d]at z;cases z⟩
  ·exact h2
 keep:=λi h h' st k=>by obtain⟨hz,hTI,⟨a,c,hTO⟩,h1,o,h2,h3⟩:=st;exact⟨k z (by simp) _ hz,k TI (by simp) _ hTI,⟨a,c,k TO (by simp) _ hTO⟩,Heap.IsTupleIter.at h1 λo e=>k i1 (by simp) o e,o,k i2 (by simp) _ h2,h3⟩
 item:=λ_ _ _ _ _ _ _ _ _ _ _ _ _ _ hg=>hg.elim
 done:=by
  intro X hP hw hK hc i pins s σ H E I hf st hg;subst hP hw hK;obtain⟨rfl,q1⟩:=hg;obtain⟨us,r1,p1,_⟩:=I.tuple q1;cases r1;obtain⟨hz,hTI,⟨a,c,hTO⟩,h1,_⟩:=st;have inC:∀b,b∈[z,TO,i1,i2]->FpOk X pins H b:=λb hb=>hf b (by
   have hb':b=z\/b=TO\/b=i1\/b=i2:=by simpa using hb
   rcases hb' with rfl|rfl|rfl|rfl<;>simp)
  refine EY (I.ok.hd hc) D hz hTI hTO h1 p1 λh' hk=>⟨rfl,?_⟩;have hk':∀b o,b∉[z,TO,i1,i2]->s.heap.get? b=some o->h'.get? b=some o:=λb o hb e=>hk b o (λq=>hb (by simp[q])) (λq=>hb (by simp[q])) (λq=>hb (by simp[q])) (λq=>hb (by simp[q])) e;have nC:∀b v,H b=some v->b∉[z,TO,i1,i2]:=λb v e hb=>by rw[(inC b hb).1]at e;cases e
  refine I.step (g':=s.gens) (t':=s.toks) (d':=s.drawn) (ch:=[z,TO,i1,i2]) (λb hb=>⟨(inC b hb).2.2.2.1,(inC b hb).2.1,(inC b hb).2.2.2.2.1,(inC b hb).2.2.2.2.2⟩) (λb o _ _ hb e _=>hk' b o hb e) (λb o _ _ hb e _=>⟨o.slots,hk' b o hb e⟩)
   (λb o hb e n=>n) (λb o hb e=>⟨o,hk' b o hb e⟩) (λb v e=>e) (λb o v e=>e) (λb ps e=>⟨#[],by rw[e];simp⟩) (λm hm=>?_) (λb v e=>?_) I.bare
  ·obtain⟨o,es,ep,ho,rr⟩:=hm;exact⟨o,es,ep,hk' _ o (λhb=>(inC _ hb).2.1 rfl) ho,rr⟩
  ·refine(I.hok b v e).stay (λc' v' hc' q=>?_) (λc' q=>q) λc' xs' q=>q;rcases hc' with rfl|hc'
   ·exact hk' _ _ (nC _ _ e) q
   ·exact hk' _ _ (nC _ _ hc') q
 self:=λ_ _ _ _ _ st h=>wpAny_pyIter_zip st.1 h
section
variable{X:Cx}{ca:Nat->Addr}{e1 e2:Expr}{m1 m2:ME}{p pos tp:Pos}{elts:List Expr}{kk:Nat}
theorem fX{ta:TA}(hg:Gl X "zip")(hm:X.mg "zip"=none)(ha:PA X [e1,e2] ta)(hs:starEach [e1,e2] X.env=[(false,eval e1 X.env),(false,eval e2 X.env)])(hs2:starEach [e2] X.env=[(false,eval e2 X.env)]):
  PI X (.Tuple elts kk tp) (.Call (.Name "zip" p) [e1,e2] [] pos) (λσ H R=>ta σ H λvs H1=>∃a1 a2,vs=[.ref a1,.ref a2]/\SqT X.K H1 a1 []/\SqT X.K H1 a2 []/\R (sR X.K a1) H1):=by
 intro pins s σ H R I h;refine Call_ (Xc I hg hm boot_zip (U7 (Zx (ha pos pins s σ H _ I h) λus s1 ⟨vs,H1,I1,r1,q1⟩=>?_) (by rw[hs,hs2]) (by rw[hs2];rfl)));obtain⟨a1,a2,rfl,q1,q2,q⟩:=q1;cases r1 with
 |cons ru rr=>
  cases rr with
  |cons rt rr=>
   cases rr;cases ru;cases rt;obtain⟨its1,v1,p1,_⟩:=I1.tuple q1;obtain⟨its2,v2,p2,_⟩:=I1.tuple q2;refine Px p1 p2 λh' hz hTI hTO hi1 hi2 hsz hk=>wpAny_pyIter_zip hz ?_;have I2:Inv X pins σ H1 {s1 with heap:=h'}:=I1.kept (t':=s1.toks) hk;have lt:∀{a:Addr}{xs:Array Value},s1.heap.IsTuple a xs->a<s1.heap.objs.size:=λ⟨_,e,_⟩=>UB e;refine⟨s1.heap.objs.size+4,_,_,_,H1,rfl,I2,Py _ (s1.heap.objs.size+2) (s1.heap.objs.size+3) s1.heap.objs.size (s1.heap.objs.size+1) a1 a2 (PyProof.Rows.zipApart_new (lt p1) (lt p2)),⟨hz,hTI,⟨_,_,hTO⟩,hi1,_,hi2,λv z=>by cases z⟩,λb hb=>?_,q⟩;have hb':b=s1.heap.objs.size+4\/b=s1.heap.objs.size+2\/b=s1.heap.objs.size+3\/b=s1.heap.objs.size\/b=s1.heap.objs.size+1:=by simpa using hb
   have hle:s1.heap.objs.size<=b:=by rcases hb' with h|h|h|h|h<;>rw[h]<;>first|exact Ug _|exact U5 _ _
   exact I1.fpOk hle (I1.hok.fresh hle)
theorem G7{K:Frag}{μ:List Addr}{H:Hp}{g:G}{v:V}{d:D}{b:Bool}{ds:List D}(r:GRep K ca μ H g)(q:Den K μ H v d)(h:QK g d=some (b,ds)):∃a vs,v=.ref a/\Sq b K H a vs/\Dens K μ H vs ds:=by
 cases q with
 |@tup a vs es ht hs=>cases h;exact⟨a,vs,rfl,ht,hs⟩|@fl a vs es ht hs=>cases h;exact⟨a,vs,rfl,ht.sq,hs⟩|@ref n a hn=>
  unfold QK at h;dsimp only at h;cases hg:g[n]? with
  |none=>rw[hg]at h;cases h|some o=>
   rw[hg]at h;obtain⟨a',ha',ob⟩:=r.addr hg;rw[hn]at ha';cases ha';cases o with
   |lst es=>cases h;obtain⟨vs,hH,q⟩:=ob;exact⟨a,vs,rfl,SqL.of hH,q⟩|_=>cases h
 |_=>cases h
theorem mT(hm:X.mg "zip"=none)(h1:Qs ca X e1 m1)(h2:Qs ca X e2 m2)(hg:Gl X "zip":=by exact Eq.refl (some _))(hs:starEach [e1,e2] X.env=[(false,eval e1 X.env),(false,eval e2 X.env)]:=by rfl)(hs2:starEach [e2] X.env=[(false,eval e2 X.env)]:=by rfl)(hs3:starEach [e1,e2] X.env=(false,eval e1 X.env)::starEach [e2] X.env:=by rfl):Pm ca X (.Tuple elts kk tp) (.Call (.Name "zip" p) [e1,e2] [] pos) (II m1 m2):=
 Xi (fX (X:=xo X) hg hm (ZN h1 (ZN h2 JW hs2) hs3) hs hs2) λσ H R hQ=>by
  obtain⟨σ3,g,μ,Rp,q⟩:=hQ;refine⟨σ3,g,μ,Rp,?_⟩;unfold II at q;unfold Qb Qd;cases hm1:m1 σ3 g with
  |stuck=>rw[hm1]at q;exact q.elim|ok d1 g1=>
   rw[hm1,Res.bind_ok]at q;rw[Res.bind_ok];cases hm2:m2 σ3 g1 with
   |stuck=>rw[hm2]at q;exact q.elim|ok d2 g2=>
    rw[hm2,Res.bind_ok]at q;rw[Res.bind_ok,Res.bind_ok,Res.bind_ok];intro vs H1 μ1 ex r1 q1;rcases q1 with _|⟨n1,q1⟩;rcases q1 with _|⟨n2,q1⟩;cases q1;unfold Pe at q;cases n1 with
    |tup t1 d1=>
     cases n2 with
     |tup t2 d2=>
      cases d1 with
      |nil=>cases d2 with
       |nil=>exact⟨_,_,rfl,t1,t2,q _ H1 μ1 ex r1 (λi H2 μ2 g2 ex2 _=>by
        dsimp only;by_cases hi:i=0
        ·rw[Uf hi];exact⟨hi,ex2.tup _ _ t1⟩
        ·rw[Uh hi];trivial)⟩
       |_=>exact q.elim
      |_=>exact q.elim
     |_=>cases d1<;>exact q.elim
    |_=>exact q.elim
end
theorem Y0(K:Frag)(t c:Ty):kitOne K (.type t.name) (.type c.name)=some (VQ t c):=by cases t<;>cases c<;>kernel_rfl
section
variable{X:Cx}{ca:Nat->Addr}{a b c e:Expr}{ma mb mc me:ME}{pos p p2:Pos}{k:Nat}
theorem Nt(c:Ty):YA X (.builtin "isinstance") (λxs H Q=>∃x g μ d t,xs=[x,.ty c.name]/\GRep X.K ca μ H g/\Den X.K μ H x d/\X8 g d=some t/\Q (.bl (VQ t c)) H):=by
 intro pins s σ H xs us Q I rv h;obtain⟨x,g,μ,d,t,rfl,r,q,ht,qq⟩:=h;obtain⟨u,u2,rfl,ru,ru2⟩:=rv.two;cases ru2;have fin:∀tk,EP X pins σ Q (.bool (VQ t c)) {s with toks:=tk}:=λtk=>⟨.bl _,H,I.tok tk,rfl,qq⟩;cases q with
 |non=>cases ht;exact Jl I ru .non (Y0 X.K .non c) fin|bl y=>cases ht;exact Jl I ru (.bl y) (Y0 X.K .bool c) fin|int y=>cases ht;exact Jl I ru (.int y) (Y0 X.K .int c) fin|str y=>cases ht;exact Jl I ru (.str y) (Y0 X.K .str c) fin|@tup a vs ds hq hs =>cases ht;cases ru;obtain⟨its,_,⟨o,h1,h2,_⟩,_⟩:=I.tuple hq;exact Tc Bs I.kIn ⟨o,h1,h2⟩ (Y0 X.K .tuple c) (λz=>nomatch z) fin|@fl a vs ds hq hs =>cases ht;cases ru;obtain⟨its,_,p,_⟩:=I.list hq.sq;obtain⟨o,h1,h2,_⟩:=p.isList;exact Tc Wd I.kIn ⟨o,h1,h2⟩ (Y0 X.K .list c) (λz=>nomatch z) fin|@ref n a hn=>
  unfold X8 at ht;dsimp only at ht;cases hg:g[n]? with
  |none=>rw[hg]at ht;cases ht|some o=>
   rw[hg]at ht;obtain⟨a',ha',ob⟩:=r.addr hg;rw[hn]at ha';cases ha';cases o with
   |lst ds=>cases ht;obtain⟨vs,hH,_⟩:=ob;exact Jl I ru (.lst hH) (Y0 X.K .list c) fin|dct ks=>cases ht;obtain⟨kv,hH,_⟩:=ob;exact Jl I ru (.dK hH) (Y0 X.K .dict c) fin|ins _ _=>cases ht|dcn _ _=>cases ht|dcf _ _=>cases ht
theorem fY{x:Str}(c:Ty)(hi:X.mg "isinstance"=none)(hm:X.mg x=none)(hv:bootBuiltins x=some (.type c.name))(he:Qs ca X e me)(hgi:Gl X "isinstance":=by exact Eq.refl (some _))(hg:Gl X x:=by exact Eq.refl (some _))(hnm:x ≠"__name__":=by decide)(hdb:(x==("__debug__" : Str))=false:=by exact Eq.refl false)(hs:starEach [e,.Name x p2] X.env=(false,eval e X.env)::starEach [.Name x p2] X.env:=by rfl)(hs2:starEach [.Name x p2] X.env=(false,eval (.Name x p2) X.env)::starEach [] X.env:=by rfl)(hpl:(backTo pos (starEach [.Name x p2] X.env)).any (·.1)=false:=by exact Eq.refl false):
  Qs ca X (.Call (.Name "isinstance" p) [e,.Name x p2] [] pos) (Qi (YE c) me):=QZ (VG (X:=xo X) (Nt (ca:=ca) c) hgi hi boot_isinstance (Xf (X:=xo X) he (Xf (X:=xo X) (FJ (X:=xo X) (v:=.ty c.name) hg hm hv rfl hnm hdb) FL hs2) hs) (by decide) (by decide) hs hpl) λσ H Q ⟨σ3,g,μ,R,q⟩=>
  QC (Zl R q) λy H1 hQ=>by
   obtain⟨d,g1,μ1,e1,R1,q1,p1⟩:=hQ;unfold YE at p1;cases ht:X8 g1 d with
   |none=>rw[ht]at p1;exact p1.elim|some t=>rw[ht]at p1;exact⟨y,g1,μ1,d,t,rfl,R1.g,q1,ht,p1 _ H1 μ1 .refl R1.g (.bl _)⟩
theorem G8{K:Frag}{μ:List Addr}{H:Hp}:∀{vs:List V}{ds:List D}{us:List Value}{b:Bool},Dens K μ H vs ds->Vals vs us->EV ds=some b->∃bs:List Bool,us=bs.map Value.bool/\bs.all id=b
 |_,_,_,b,.nil,.nil,h=>by cases h;exact⟨[],rfl,rfl⟩
 |_,_,_,b,@Dens.cons _ _ _ _ _ _ ds q qs,.cons r rs,h=>by
  cases q with
  |bl c=>
   unfold EV at h;cases hd:EV ds with
   |none=>rw[hd]at h;cases h|some d =>rw[hd]at h;cases h;obtain⟨bs,h1,h2⟩:=G8 qs rs hd;cases r;exact⟨c::bs,by rw[h1];rfl,by simp[h2]⟩
  |_=>cases h
theorem Nu(bs:List Bool):((List.range bs.length).all λi=>(bs[i]?).getD true)=bs.all id:=by
 rw[Ri,US,US];constructor
 ·intro h b hb;obtain⟨i,hi,rfl⟩:=RN hb;have:=h i (Wi.mpr hi);simpa[hi]using this
 ·intro h i hi;have hi':=Wi.mp hi;have:=h bs[i] (Tk hi');simpa[hi']using this
theorem Nv(hc:X.calm=true):YA X (.builtin "all") (λxs H Q=>∃p vs ds μ b,xs=[.ref p]/\SqL X.K H p vs/\Dens X.K μ H vs ds/\EV ds=some b/\Q (.bl b) H):=by
 intro pins s σ H xs us Q I rv h;obtain⟨l,vs,ds,μ,b,rfl,hq,q,hb,qq⟩:=h;obtain⟨u,rfl,ru⟩:=rv.one;cases ru;obtain⟨its,rs,pl,_⟩:=I.list hq;obtain⟨bs,rfl,e2⟩:=G8 q rs hb;have hl:=pl.isList;have hlt:l<s.heap.objs.size:=by obtain⟨_,e,_⟩:=hl;exact UB e
 refine call_all_walk (BL hl ⟨s.heap.objs.size,[s.heap.objs.size,l],[s.heap.objs.size],_,_,_,λi=>(bs[i]?).getD true,rfl,Walks.list (A:=X.A.in1) (show X.A.in1.handled=none from I.ok.hd hc) _ l (UY hlt) _,⟨⟨_,Uu _ rfl,rfl,rfl⟩,hl.push _⟩,λi v s' Q' E' hP hQ=>?_,λh' tk hk=>?_⟩)
 ·have hP:(bs.map Value.bool).toArray[i]?=some v:=hP;rw[WY,UL]at hP;cases hi:bs[i]? with
  |none=>rw[hi]at hP;cases hP|some c =>rw[hi]at hP;cases hP;simp only[hi,Option.getD_some]at hQ;exact Tf hQ
 ·have kept:∀c o,s.heap.get? c=some o->h'.get? c=some o:=λc o e=>hk c o (λhm=>by rw[Ui.mp hm]at e;exact TL _ (UB e)) (Ub _ e);have ea:((List.range (bs.map Value.bool).toArray.size).all λi=>(bs[i]?).getD true)=b:=by rw[Ux,Ue,Nu,e2]
  rw[ea];exact⟨.bl b,H,I.kept kept,rfl,qq⟩
theorem mU(hc:X.calm=true)(hm:X.mg "all"=none)(he:Qs ca X e me)(hg:Gl X "all":=by exact Eq.refl (some _))(hs:starEach [e] X.env=[(false,eval e X.env)]:=by rfl)(hpl:(backTo pos (starEach [] X.env)).any (·.1)=false:=by exact Eq.refl false):
  Qs ca X (.Call (.Name "all" p) [e] [] pos) (Qi XE me):=
 Eg (r:=λxs H Q=>∃p vs ds μ b,xs=[V.ref p]/\SqL X.K H p vs/\Dens X.K μ H vs ds/\EV ds=some b/\Q (.bl b) H) (Nv (X:=xo X) hc) hm boot_all (λH μ g y d Q r q pp=>by
  unfold XE at pp;cases q with
  |@ref n t hn=>
   dsimp only at pp;cases hgn:g[n]? with
   |none=>rw[hgn]at pp;exact pp.elim|some ob=>
    rw[hgn]at pp;obtain⟨t',ht',orp⟩:=r.addr hgn;rw[hn]at ht';cases ht';cases ob with
    |lst ds=>
     obtain⟨vs,hH,q⟩:=orp;dsimp only at pp;cases hb:EV ds with
     |none=>rw[hb]at pp;exact pp.elim|some b=>rw[hb]at pp;exact⟨t,vs,ds,μ,b,rfl,.of hH,q,hb,pp _ H μ .refl r (.bl _)⟩
    |_=>exact pp.elim
  |_=>exact pp.elim) he hg (by decide) (by decide) hs hpl
theorem Pz{K:Frag}{r r':R2}{f f':D->D->G->Res D}(h1:Yd K ca r f)(h2:Yd K ca r' f')(σ:L2.St)(H:Hp)(Q:VK)(h:up K ca (Kk f f' ma mb mc) σ H Q):OB r r' (up K ca ma) (up K ca mb) (up K ca mc) σ H Q:=by
 obtain⟨σ3,g,μ,R,p⟩:=h;refine QC (Zl R p) λx H1 ⟨dx,g1,μ1,e1,R1,q1,p1⟩=>?_;refine QC (Zl R1 p1) λy H2 ⟨dy,g2,μ2,e2,R2,q2,p2⟩=>?_;refine h1 H2 μ2 g2 x y dx dy _ R2.g (q1.mono e2) q2 ?_;cases hf:f dx dy g2 with
 |stuck=>rw[hf]at p2;exact p2.elim|ok z g3=>
  rw[hf,Res.bind_ok]at p2;intro v H3 μ3 e3 r3 q3;cases q3 with
  |bl t=>
   refine⟨t,rfl,?_⟩;cases t with
   |true =>rw[Uf rfl];dsimp only at p2;refine QC (Zl (R2.go e3 r3) (p2.go e3)) λw' H4 ⟨dw,g4,μ4,e4,R4,q4,p4⟩=>?_;exact h2 H4 μ4 g4 y w' dy dw Q R4.g ((q2.mono e3).mono e4) q4 p4
   |false =>rw[Uh Uj];exact p2 _ H3 μ3 e3 r3 (.bl _)
  |_=>exact p2.elim
theorem fZ(ha:Qs ca X a ma)(hb:Qs ca X b mb)(hc:Qs ca X c mc)(hm:lastMarks [.LtE,.Lt] [b,c]=false:=by with_unfolding_all rfl):Qs ca X (.Compare a [.LtE,.Lt] [b,c] pos) (Kk Ar FZ ma mb mc):=QZ (OC (X:=xo X) aU aT ha hb hc hm) (Pz (Jo _) (Jo _))
theorem PB{K:Frag}{μ:List Addr}{H:Hp}{v:V}{d:D}(q:Den K μ H v d)(h:Vf d=true):Vc v=true:=by cases q<;>first|rfl|cases h
theorem LY{K:Frag}{μ:List Addr}{H:Hp}:∀{vs:List V}{ds:List D},Dens K μ H vs ds->ds.all Vf=true->vs.all Vc=true
 |_,_,.nil,_=>rfl|_,_,.cons q qs,h=>by rw[Ws,UN]at h ⊢;exact⟨PB q h.1,LY qs h.2⟩
theorem mV{K:Frag}{μ:List Addr}{H:Hp}{v w:V}{d e:D}(q:Den K μ H v d)(q':Den K μ H w e)(h:Vf d=true)(h':Vf e=true):Aq v w=oT d e:=by cases q<;>cases q'<;>first|rfl|cases h|cases h'
theorem bF{K:Frag}{μ:List Addr}{H:Hp}{w:V}{e:D}(q':Den K μ H w e)(h':Vf e=true):∀{vs:List V}{ds:List D},Dens K μ H vs ds->ds.all Vf=true->(vs.any λy=>Aq y w)=ds.any λd=>oT d e
 |_,_,.nil,_=>rfl|_,_,.cons q qs,h=>by rw[Ws,UN]at h;rw[Tu,Tu,mV q q' h.1 h',bF q' h' qs h.2]
theorem Dk{K:Frag}(neg:Bool):Yd K ca (sL K neg) (eM neg):=by
 intro H μ g x y dx dy Q r qx qy p;unfold eM at p;cases hs:QK g dy with
 |none=>rw[hs]at p;exact p.elim|some pr=>
  obtain⟨bb,ds⟩:=pr;rw[hs]at p;dsimp only at p;by_cases z:Vf dx=true/\ds.all Vf=true
  ·rw[Uf z]at p;obtain⟨a,vs,rfl,sq,qs⟩:=G7 r qy hs;refine⟨a,vs,rfl,?_,PB qx z.1,LY qs z.2,p _ H μ .refl r ?_⟩
   ·cases bb
    ·exact .inr sq
    ·exact .inl sq
   ·unfold inV;rw[bF qx z.1 qs z.2];cases neg<;>exact .bl _
  ·rw[Uh z]at p;exact p.elim
theorem rJ(ha:Qs ca X a ma)(hb:Qs ca X b mb)(hm:behindInMarks .In b=false:=by exact Eq.refl false):Qs ca X (.Compare a [.In] [b] pos) (Qc (eM false) ma mb):=Fl M9 (Dk false) ha hb hm
end
section
variable{prog:Program}{w:World}{A:Around}{E:VP}{s:Shared}
theorem VW{t sl:Addr}{items:Array Value}{vl vu:Value}{lo hi:Option Int}{Q:VP}(ht:IsTup s.heap t items)(hs:s.heap.IsSliceOf sl vl vu .none)(pl:IsPart vl lo)(pu:IsPart vu hi)(h1:HT.sIx items.size 0 lo=0)(h2:HT.sIx items.size items.size hi=items.size)(h:Q (.ref t) s):wpAny (model prog w) A (getItem (.ref t) (.ref sl)) Q E s:=by
 obtain⟨os,hos,hcs,hds⟩:=id hs;have hTs:s.TypeIs (.ref sl) "slice":=⟨os,hos,hcs⟩;unfold getItem;try with_reducible refine Tt ?_
 first|refine Ua (Uc ?_)|skip
 refine Ua (wpAny_sequenceKey ht.typeIs (by decide) ?_);refine Ua (U0 (name:=Str.ofString "__getitem__") ht.typeIs U8 (UW U8 ht.typeIs entry_tuple_getitem ?_ (args_tuple_getitem _ _)));show wpAny _ _ (Builtin.Tuple.tupleItemsOf (.ref t) >>= _) _ _ s;refine Ua (tupleItemsOf_ ht (Ua (Rr hTs ?_)));rw[Uf (by decide)];refine Ua (HT.sliceApplied_gen hs pl pu ?_);rw[h1,h2];show wpAny _ _ (if (((0:Nat):Int)==0&&(1:Int)==1&&(items.size-0)==items.size)=true then _ else _) _ _ s;rw[Uf (by simp)];unfold Builtin.Tuple.tupleIsExact;refine Ua (Ua (Rr ht.typeIs (Uc ?_)));rw[Uf (by decide)];exact Ua (TC (Uc ⟨_,rfl,Uc h⟩))
end
theorem LZ(n d:Nat)(o:Option Int):HT.sIx n d o=F0 n d o:=by cases o<;>rfl
theorem Dens.cut{K:Frag}{μ:List Addr}{H:Hp}{vs:List V}{ds:List D}(lo hi:Option Int)(h:Dens K μ H vs ds):Dens K μ H (M8 vs lo hi) (B1 ds lo hi):=by unfold M8 B1;rw[LZ,LZ,h.length];exact(h.drop _).take _
section
variable{X:Cx}{ca:Nat->Addr}{e:Expr}{me:ME}{lo hi:Option Expr}{ml mh:MO}{pos p2:Pos}
theorem Nw:SlR X (λx lo hi H Q=>∃a xs,x=.ref a/\SqT X.K H a xs/\(HT.sIx xs.length 0 lo=0/\HT.sIx xs.length xs.length hi=xs.length)/\Q (.ref a) H):=by
 intro pins s σ H x v vl vu lo hi sl Q I rx hs pl pu h;obtain⟨a,xs,rfl,hx,hw,q⟩:=h;cases rx;obtain⟨its,r,ht,hz⟩:=I.tuple hx;have hlen:its.toArray.size=xs.length:=by rw[Ux];exact r.length.symm
 refine⟨"tuple",_,U8.lookup,ht.typeIs,?_⟩;exact VW ht hs pl pu (by rw[hlen];exact hw.1) (by rw[hlen];exact hw.2) ⟨.ref a,H,I,rfl,q⟩
def tL(K:Frag)(ca:Nat->Addr)(m:MO):TO:=λσ H Q=>∃σ3 g μ,Rep K ca μ σ3 g σ H/\match m σ3 g with
 |.ok o g'=>∀H' μ',Ext K μ H μ' H'->GRep K ca μ' H' g'->Q o H'|.stuck=>False
def mW(ca:Nat->Addr)(X:Cx)(e:Option Expr)(m:MO):Prop:=PO (xo X) e (tL X.K ca m)
theorem PC:mW ca X none Zw:=λpins s σ H Q I ⟨_,_,μ,R,p⟩=>AM (X:=xo X) pins s σ H Q I (p H μ .refl R.g)
theorem gA(he:Qs ca X e me):mW ca X (some e) (YQ me):=λpins s σ H Q I hQ=>by
 obtain⟨σ3,g,μ,R,p⟩:=hQ;refine AN (X:=xo X) he pins s σ H Q I ⟨σ3,g,μ,R,?_⟩;unfold YQ at p;cases hm:me σ3 g with
 |stuck=>rw[hm]at p;exact p|ok d g1=>
  rw[hm,Res.bind_ok]at p;intro v H1 μ1 e1 r1 q1;cases q1 with
  |int i=>exact⟨i,rfl,p H1 μ1 e1 r1⟩|_=>exact p.elim
theorem Dl(xs:List α)(lo hi:Option Int)(h1:F0 xs.length 0 lo=0)(h2:F0 xs.length xs.length hi=xs.length):B1 xs lo hi=xs:=by unfold B1;rw[h1,h2];simp
theorem Dm(he:Qs ca X e me)(hl:mW ca X lo ml)(hh:mW ca X hi mh):Qs ca X (.Subscript e (.Slice lo hi none p2) pos) (ZW me ml mh):=
 QZ (OH (X:=xo X) (sl_tup.or Nw) he hl hh) λσ H Q ⟨σ3,g,μ,R,p⟩=>QC (Zl R p) λx H1 hQ=>by
  obtain⟨d,g1,μ1,e1,R1,q1,p1⟩:=hQ;refine⟨σ3,g1,μ1,R1,?_⟩;cases hm:ml σ3 g1 with
  |stuck=>rw[hm]at p1;exact p1|ok l g2=>
   rw[hm,Res.bind_ok]at p1;intro H2 μ2 e2 r2;refine⟨σ3,g2,μ2,R1.go e2 r2,?_⟩;cases hm2:mh σ3 g2 with
   |stuck=>rw[hm2]at p1;exact p1|ok u g3=>
    rw[hm2,Res.bind_ok]at p1;intro H3 μ3 e3 r3;have p3:=PostR.go (e2.trans e3) p1;have q3:=(q1.mono e2).mono e3;unfold Ko at p3;cases q3 with
    |@tup a vs ds ht hs=>
     by_cases hw:HT.sIx vs.length 0 l=0/\HT.sIx vs.length vs.length u=vs.length
     ·refine .inr (⟨a,vs,rfl,ht,hw,p3 _ H3 μ3 .refl r3 ?_⟩);rw[Dl ds l u (by rw[<-LZ,<-hs.length];exact hw.1) (by rw[<-LZ,<-hs.length];exact hw.2)];exact .tup ht hs
     ·exact .inl (⟨a,vs,rfl,ht,hw,λt ht'=>p3 _ _ μ3 (Q8 ht') (r3.new ht') (.tup (.of Qr) ((hs.cut l u).mono (Q8 ht')))⟩)
    |_=>exact p3.elim
end
def gB(sc scope:Scope)(N Nb:List Str)(no:Nat)(cap:List Nat):Bool:=decide (scope.kind=.function)&&scope.names.all (λy=>decide (y.2≠.cell))&&scope.names.all (λy=>decide (y.2≠.local)||decide (scope.names.lookup y.1=some .local)) &&
 scope.names.all (λy=>decide (y.2≠.free)||decide (sc.names.lookup y.1=some .cell)||decide (sc.names.lookup y.1=some .free))&&decide (Nb.length=no+cap.length) &&
 decide Nb.Nodup&&(List.range cap.length).all λj=>match cap[j]?,Nb[no+j]? with
  |some i,some x=>decide (N[i]?=some x)&&decide (scope.names.lookup x=some .free)&&(decide (sc.names.lookup x=some .cell)||decide (sc.names.lookup x=some .free))|_,_=>false
theorem Ny(hsc:X.env.scope=sc)(hN:X.N=N)(h:gB sc scope N Nb no cap=true):BScope X scope Nb no cap/\Nb.Nodup:=by
 subst hsc hN;unfold gB at h;simp only[UN,Tg]at h;obtain⟨⟨⟨⟨⟨⟨h1,h2⟩,h3⟩,h4⟩,h5⟩,h0⟩,h6⟩:=h;rw[US]at h2 h3 h4 h6;refine⟨⟨h1,λy hy=>UC (h2 y hy),λy hy e=>?_,λy hy e=>?_,h5,λj i hj=>?_⟩,h0⟩
 ·rcases Bl.mp (h3 y hy) with z|z
  ·exact absurd e (UC z)
  ·exact UC z
 ·rcases Bl.mp (h4 y hy) with z|z
  ·rcases Bl.mp z with z|z
   ·exact absurd e (UC z)
   ·exact .inl (UC z)
  ·exact .inr (UC z)
 ·have hl:j<cap.length:=(Um.mp hj).1;have z:=h6 j (Wi.mpr hl);rw[hj]at z;cases hx:Nb[no+j]? with
  |none=>rw[hx]at z;cases z|some x=>
   rw[hx]at z;simp only[UN,Bool.or_eq_true,Tg]at z;obtain⟨⟨z1,z2⟩,z3⟩:=z;refine⟨x,rfl,z1,z2,.inr z3,λq=>?_⟩;have q:X.env.scope.names.lookup x=some .local:=q;rcases z3 with z|z
   ·rw[z]at q;cases q
   ·rw[z]at q;cases q
def PD(tg:Expr)(N:List Str)(cap:List Nat):List Str:=(match tg with
 |.Name x _=>[x]|.Tuple es _ _=>es.map λe=>match e with
  |.Name x _=>x|_ => ""
 |_=>[])++cap.map λi=>N.getD i ""
theorem L0{X:Cx}{ca:Nat->Addr}{tg iter elt:Expr}{ifs:List Expr}{scope:Scope}{pos:Pos}{no:Nat}{cap:List Nat}{mi:MI}{f:MG}{tc:MT}{me:ME}(hsc:X.env.scope=sc)(hN:X.N=N)(h:gB sc scope N (PD tg N cap) no cap=true)(hi:Pm ca X tg iter mi)(hb:∀cl C s3 H3 ex,(PD tg N cap).Nodup->A2 ca (Ee X scope cl C (PD tg N cap) s3 H3 ex) tg f/\iX ca (Ee X scope cl C (PD tg N cap) s3 H3 ex) ifs tc/\Qs ca (Ee X scope cl C (PD tg N cap) s3 H3 ex) elt me)(hc:X.calm=true:=by exact Eq.refl true)(hs:∀x,foldedSetIterable iter X.env x=pure x:=by intro _;rfl):Qs ca X (.ListComp elt [⟨tg,iter,ifs,0⟩] scope pos) (Zq mi no cap f tc me):=
 have B:=Ny hsc hN h
 fS B.1 hc hi (λcl C s3 H3 ex=>hb cl C s3 H3 ex B.2) hs
def IO(K:Frag)(C:Addr):Bool:=plainGet K C Str.empty&&hasDictIn K C&&plainOver K C&&(findIn K (.ref C) "__setattr__"==some (some (.builtin "object.__setattr__")))
theorem PF{K:Frag}{C:Addr}(h:IO K C=true):Cls K C:=by unfold IO at h;simp only[UN,RM]at h;obtain⟨⟨⟨h1,h2⟩,h3⟩,h4⟩:=h;exact⟨h1,h2,h3,h4⟩
def Ks(K:Frag)(ca:Nat->Addr)(cs:List Nat)(f:Str):Bool:=cs.all λc=>IO K (ca c)&&(findIn K (.ref (ca c)) f==some none)
theorem Jp{K:Frag}{ca:Nat->Addr}{cs:List Nat}{f:Str}(h:Ks K ca cs f=true):FldOk K ca cs f:=by unfold Ks at h;rw[US]at h;exact⟨λc hc=>PF (Bool.and_eq_true_iff.mp (h c hc)).1,λc hc=>RM.mp (Bool.and_eq_true_iff.mp (h c hc)).2⟩
section
variable{X:Cx}{ca:Nat->Addr}{pos:Pos}{x:Str}
theorem gC(h:∃k,X.mg x=some (.str t k))(hg:Gl X x:=by exact Eq.refl (some _))(hd:(x==("__debug__" : Str))=false:=by exact Eq.refl false):Qs ca X (.Name x pos) (Qp (.str t)):=by obtain⟨k,h⟩:=h;exact Pi h (v:=.str t) ⟨k,rfl⟩ (λ_ _ _=>.str t) hg hd
theorem gD(h:∃k,X.mg x=some (.int i k))(hg:Gl X x:=by exact Eq.refl (some _))(hd:(x==("__debug__" : Str))=false:=by exact Eq.refl false):Qs ca X (.Name x pos) (Qp (.int i)):=by obtain⟨k,h⟩:=h;exact Pi h (v:=.int i) ⟨k,rfl⟩ (λ_ _ _=>.int i) hg hd
end
theorem gE:bootBuiltins "int"=some (.type Ty.int.name):=boot_int
theorem Dn:bootBuiltins "bool"=some (.type Ty.bool.name):=by decide +kernel
theorem gG:bootBuiltins "str"=some (.type Ty.str.name):=by decide +kernel
theorem PH:bootBuiltins "tuple"=some (.type Ty.tuple.name):=boot_tuple
theorem Do:bootBuiltins "list"=some (.type Ty.list.name):=boot_list
theorem Dp:bootBuiltins "dict"=some (.type Ty.dict.name):=by decide +kernel
section
variable{P:Program}{w:World}{K:Frag}{mg:Xa}{base:Heap}{ca:Nat->Addr}
theorem gH{F:MF}{H:Hp}{a:Addr}{ns:List Int}(hO:AT H)(hS:SqL K H a (ns.map V.int))(h:∃g',F [.fl (ns.map D.int)] []=.ok (.bl true) g'):Nn K ca 1 F [.ref a] H (λv _=>v=.bl true) λ_ _ _=>False:=by
 obtain⟨g',h⟩:=h;have hF:SqF K H a (ns.map V.int):=by
  rcases hS with(h|⟨o,h⟩)|h
  ·rcases hO a with z|⟨o,xs,z⟩
   ·rw[h]at z;cases z
   ·rw[h]at z;cases z
  ·exact .inl ⟨o,h⟩
  ·exact .inr (.inr h)
 refine⟨rfl,[.fl (ns.map D.int)],[],[],⟨rfl,.nil,λn a o h=>by simp at h⟩,.cons (.fl hF (Dens.ints ns)) .nil,?_⟩;rw[h];intro v H' μ' e r q;cases q;rfl
end
end L3
namespace L3
open PySem PySem.Spec
theorem rK(h:us.length=0):us=[]:=List.eq_nil_of_length_eq_zero h
theorem len1(h:us.length=1):∃a0,us=[a0]:=by
 cases us with
 |nil=>cases h|cons a r =>have e:=rK (Nat.succ.inj h);subst e;exact⟨a,rfl⟩
theorem len2(h:us.length=2):∃a0 a1,us=[a0,a1]:=by
 cases us with
 |nil=>cases h|cons a r =>obtain⟨b0,rfl⟩:=len1 (Nat.succ.inj h);exact⟨a,b0,rfl⟩
theorem len3(h:us.length=3):∃a0 a1 a2,us=[a0,a1,a2]:=by
 cases us with
 |nil=>cases h|cons a r =>obtain⟨b0,b1,rfl⟩:=len2 (Nat.succ.inj h);exact⟨a,b0,b1,rfl⟩
theorem len4(h:us.length=4):∃a0 a1 a2 a3,us=[a0,a1,a2,a3]:=by
 cases us with
 |nil=>cases h|cons a r =>obtain⟨b0,b1,b2,rfl⟩:=len3 (Nat.succ.inj h);exact⟨a,b0,b1,b2,rfl⟩
def PJ:Expr->Bool
 |.Starred ..=>false|_=>true
theorem Nz(h:PJ e=true):starEach (e::es) env=(false,eval e env)::starEach es env:=by cases e<;>first|rfl|exact absurd h Uj
variable{P:Program}{w:World}{K:Frag}{mg:Xa}{base:Heap}{ca:Nat->Addr}{X:L2.Cx}
theorem mX(ha:Qs ca X e me)(hr:Oo ca X es mr)(hs:PJ e=true:=by exact Eq.refl true):Oo ca X (e::es) (Qb me mr):=ZN ha hr (Nz hs)
def PK:Expr->Bool
 |.ListComp ..=>false|.SetComp ..=>false|.DictComp ..=>false|_=>true
theorem Dq(h:PK e=true):swapsWith e t l env=pure false:=by cases e<;>first|rfl|exact absurd h Uj
theorem mY(i:Nat){x:Str}{pos pos':Pos}{e:Expr}{me:ME}(hN:X.N.Nodup)(he:Qs ca X e me)(hi:X.N[i]?=some x:=by exact Eq.refl (some _))(hx:L2.Loc X.env.scope x:=by first|exact eR (Eq.refl (some _))|exact Or.inr rfl)(hs:PK e=true:=by exact Eq.refl true)(hf:X.fn x=true\/X.env.scope.names.lookup x=some .local:=by first|exact .inl rfl|exact .inr rfl):
  F2 ca X (.Assign [.Name x pos'] e pos) (QF (Ql i) me):=lY i hN he hi hx (Dq hs) hf
end L3
namespace PySem
namespace F
theorem Fq:Manifest.owners.lookup (String.ofList ['d','e','s','r','e','v','e','r'].reverse)=some Manifest.sig_reversed:=by kernel_rfl
theorem slot_rev_next:Slot "reversed" "__next__" "reversed.__next__" :=.of (owner:="reversed") (n:="__next__") (by rw[Rj,Ts];kernel_rfl) (by decide +kernel) (by decide +kernel) (by decide +kernel)
  (by first|exact .inl (by decide +kernel)|exact .inr (by decide +kernel)) (by rw[WO];kernel_rfl)
theorem entry_rev_next:entryFor table "reversed.__next__"=some Builtin.«reversed.__next__»:=entryFor_of_tree (by kernel_rfl)
theorem args_rev_next_1(a:Value):argsOk "reversed.__next__" ⟨[a],[]⟩:=by unfold argsOk;rw[signature?_of (id:="reversed.__next__") (n:=['_','_','t','x','e','n','_','_']) (o:=['d','e','s','r','e','v','e','r']) (by kernel_rfl) Fq];kernel_rfl
theorem slot_rev_iter:Slot "reversed" "__iter__" "reversed.__iter__" :=.of (owner:="reversed") (n:="__iter__") (by rw[Rj,Ts];kernel_rfl) (by decide +kernel) (by decide +kernel) (by decide +kernel)
  (by first|exact .inl (by decide +kernel)|exact .inr (by decide +kernel)) (by rw[WO];kernel_rfl)
theorem args_rev_iter_1(a:Value):argsOk "reversed.__iter__" ⟨[a],[]⟩:=by unfold argsOk;rw[signature?_of (id:="reversed.__iter__") (n:=['_','_','r','e','t','i','_','_']) (o:=['d','e','s','r','e','v','e','r']) (by kernel_rfl) Fq];kernel_rfl
theorem entry_rev_iter:entryFor table "reversed.__iter__"=some Builtin.«dict_keyiterator.__iter__»:=entryFor_alias (id':="dict_keyiterator.__iter__") (by kernel_rfl) (by first|rfl|decide +kernel|(unfold String.splitOn;simp +decide [String.splitOnAux])) (by decide +kernel) (by kernel_rfl)
theorem EZ:Slot "reversed" "__init__" "object.__init__" :=.of (owner:="object") (n:="__init__") (by rw[Rj,Ts];kernel_rfl) (by decide +kernel) (by decide +kernel) (by decide +kernel)
  (by first|exact .inl (by decide +kernel)|exact .inr (by decide +kernel)) (by rw[WO];kernel_rfl)
theorem called_rev:TypeCalled "reversed" "reversed.__new__" "object.__init__" :=⟨by decide +kernel,by decide +kernel,⟨_,_,mro_reversed⟩,made_reversed,by decide +kernel,sub_reversed_self,EZ⟩
theorem no_tuple_reversed:typeLookup (.type "tuple") "__reversed__"=pure none:=by rw[Rj,Ts];kernel_rfl
theorem tuple_getitem:typeLookup (.type "tuple") "__getitem__"=pure (some (.builtin "tuple.__getitem__")):=by rw[Rj,Ts];kernel_rfl
theorem tuple_dict:isSubtype (.type "tuple") (.type "dict")=pure false:=by rw[WO];kernel_rfl
end F
end PySem
namespace L3
open PySem PySem.Spec PyProof.Rows PySem.Calls
section
variable{prog:Program}{w:World}{A:Around}{E:VP}{s:Shared}
def Dr(l:Addr)(i:Int):Obj:={cls:=.type "reversed",data:=.fields #[.ref l,rawInt i]}
def IsRevT(h:Heap)(a l:Addr)(i:Int):Prop:=∃o,h.get? a=some o/\o.cls=.type "reversed"/\o.data=.fields #[.ref l,rawInt i]
theorem IsRevT.typeIs{a l:Addr}{i:Int}(x:IsRevT s.heap a l i):s.TypeIs (.ref a) "reversed":=let ⟨o,ho,hc,_⟩:=x;⟨o,ho,hc⟩
theorem IsRevT.at(x:IsRevT h a l i)(e:∀o,h.get? a=some o->h'.get? a=some o):IsRevT h' a l i:=let ⟨o,ho,r⟩:=x;⟨o,e _ ho,r⟩
theorem IP(l:Addr)(items:Array Value):MeetsIn prog w (Builtin.«reversed.__new__» ⟨[.type "reversed",.ref l],[]⟩) (λA R s=>IsTup s.heap l items/\(items.size:Int)<2^63/\∀tk,R (.ok (.ret (.ref s.heap.objs.size))) {s with heap:=s.heap.push (Dr l ((items.size:Int) - 1)),toks:=tk}):=by
 intro A R s ⟨hl,hz,h⟩;unfold Builtin.«reversed.__new__»;refine Ua (RJ (newClass_reversed _) ?_);try dsimp only
 refine Ua (RJ (a:=()) (by first|rfl|kernel_rfl) ?_);refine Ua (RJ (a:=()) (by first|rfl|kernel_rfl) ?_);try dsimp only
 refine Ua (RD hl.typeIs F.no_tuple_reversed ?_);try dsimp only
 refine Ua (show wpAny _ _ (isInstance (.ref l) (.type "dict") >>= _) _ _ _ from Ua (T7 hl.typeIs F.tuple_dict ?_));try dsimp only
 rw[Uh Uj];refine Ua (RD hl.typeIs F.tuple_getitem ?_);try dsimp only
 rw[Uf (by decide)];refine Uc ?_;rw[Uh (by decide)];refine Ua (len_tuple hl hz ?_);refine Ua (RJ (a:=some (items.size:Int)) (by rfl) ?_);try dsimp only
 refine Ua (show wpAny _ _ (newObj (.type "reversed") (.fields #[Value.ref l,rawInt ((items.size:Int) - 1)])) _ _ _ from UP ?_ (by size_fits));exact Uc (h _)
theorem X9{l:Addr}{items:Array Value}{Q:VP}(hl:IsTup s.heap l items)(hz:(items.size:Int)<2^63)(h:∀tk,Q (.ref s.heap.objs.size) {s with heap:=s.heap.push (Dr l ((items.size:Int) - 1)),toks:=tk}):wpAny (model prog w) A (call (.type "reversed") [.ref l]) Q E s:=callType_newIn F.called_rev (by decide) (F.typeCall_reversed_1 _) (F.newCall_reversed_1 _) (λobj=>F.args_object_init_2 obj _) F.entry_reversed_new (IP l items) ⟨hl,hz,λtk=>⟨⟨_,Uu _ rfl,rfl⟩,h tk⟩⟩
theorem KR{it l:Addr}{i:Int}{Q:VP}(hit:IsRevT s.heap it l i)(h:Q (.ref it) s):wpAny (model prog w) A (pyIter (.ref it)) Q E s:=by refine BJ hit.typeIs F.slot_rev_iter (UW F.slot_rev_iter hit.typeIs F.entry_rev_iter ?_ (F.args_rev_iter_1 _));show wpAny _ _ (ret (.ref it)) _ _ s;exact Uc ⟨_,rfl, "reversed",_,hit.typeIs,F.slot_rev_next.lookup,h⟩
theorem B4{it l:Addr}{Q:Option Value->Shared->Prop}(hh:A.handled=none)(hit:IsRevT s.heap it l (-1))(hQ:∀h' tk,Heap.ExtBut it s.heap h'->Q none {s with heap:=h',toks:=tk}):wpAny (model prog w) A (pyNext (.ref it)) Q E s:=by
 obtain⟨o,ho,hc,hd⟩:=id hit;unfold pyNext;refine Ua (Wb (U0 (name:=Str.ofString "__next__") hit.typeIs F.slot_rev_next
  (UW F.slot_rev_next hit.typeIs F.entry_rev_next ?_ (F.args_rev_next_1 _))))
 unfold Builtin.«reversed.__next__»;refine Ua (RJ (a:=(Value.ref it,[])) rfl ?_);try dsimp only
 refine Ua (Rh ho hd (x:=.ref l) rfl ?_);refine Ua (Rh ho hd (x:=rawInt (-1)) rfl ?_);show wpAny _ _ (if (-1:Int)<0 then _ else _) _ _ s;rw[Uf (by decide)];refine Ua (TC ?_);refine Ua (show wpAny _ _ (setField (.ref it) 1 (rawInt (-1)) >>= λ_=>setField (.ref it) 0 .none) _ _ _ from Ua (WN ho hd (by simp) ?_));have hd1:=Bv hd (·.setIfInBounds 1 (rawInt (-1)));have ho1:=RY _ ho (Obj.isFreed_of_fields hd1);have sb1:Heap.SameBut it s.heap (s.heap.update it (Obj.mapFields (·.setIfInBounds 1 (rawInt (-1))))):=TF ..;generalize s.heap.update it (Obj.mapFields (·.setIfInBounds 1 (rawInt (-1))))=h1 at ho1 sb1 ⊢;refine WN (s:={s with heap:=h1}) ho1 hd1 (by simp) ?_;have sb2:Heap.SameBut it h1 (h1.update it (Obj.mapFields (·.setIfInBounds 0 Value.none))):=TF ..;generalize h1.update it (Obj.mapFields (·.setIfInBounds 0 Value.none))=h2 at sb2 ⊢;first
 |show wpAny _ _ (newExc (.type "StopIteration") [] >>= _) _ _ _
 | (refine Ua ?_;show wpAny _ _ (newExc (.type "StopIteration") [] >>= _) _ _ _)
 refine Ua ?_;simp only[newExc,newTuple];refine Ua (UP ?_ (by size_fits));refine Ua (m:=firstArgMember _ _) (RJ (a:=Value.none) (by first|rfl|(simp only[firstArgMember];rfl)) ?_);refine UP ?_ (by size_fits);simp only[raiseNew];refine Ua (wpAny_handled ?_);first|rw[show A.in1.handled=none from hh]|rw[hh]
 refine Ua (Uc (wpAny_throw ?_));refine Ua (T7 (T:="StopIteration") (b:=true) ⟨_,Uu _ rfl,rfl⟩ isSubtype_stop ?_);exact Uc (hQ _ _ λb o hb e=>(((Heap.ExtBut.refl _ _).push _).push _) b o hb (sb2.extBut b o hb (sb1.extBut b o hb e)))
end
end L3
namespace L3
open PySem PySem.Spec PyProof.Rows L2
def PL(d:D)(g:G):Res Src:=match d with
 |.tup []=>.ok ⟨λ_ i=>if i=0 then some none else none,0⟩ g|_=>.stuck
def IQ(a:ME):MI:=λσ g=>(a σ g).bind PL
theorem NA{P:Program}{w:World}{K:Frag}{tg:Expr}(a it:Addr):Turn P w K tg ⟨λ_ _=>False,λ_ _ _ _=>False,λi _=>i=0⟩ [it] it (λ_ h=>IsRevT h it a (-1)) where
 mem:=by simp
 obj:=λi h st b hb=>by
  have e:b=it:=by simpa using hb
  subst e;obtain⟨o,e,c,d⟩:=st;exact⟨o,e,λv z=>by rw[d]at z;cases z⟩
 keep:=λi h h' st k=>st.at λo e=>k it (by simp) o e
 item:=λ_ _ _ _ _ _ _ _ _ _ _ _ _ _ hg=>hg.elim
 done:=by intro X hP hw hK hc i pins s σ H E I hf st hg;subst hP hw hK;obtain⟨f0,f1,f2,f3,f4,f5⟩:=hf it (by simp);exact B4 (I.ok.hd hc) st λh' tk eb=>⟨rfl,I.turned (t':=tk) (λb o hb e=>eb b o hb e) f0 f1 f3 f4 f5⟩
 self:=λ_ _ _ _ _ st h=>KR st h
theorem gI{ta:TA}(hg:Gl X "reversed")(hm:X.mg "reversed"=none)(ha:PA X [e] ta)(hs:starEach [e] X.env=[(false,eval e X.env)]):
  PI X tg (.Call (.Name "reversed" p) [e] [] pos) (λσ H R=>ta σ H λvs H1=>∃a,vs=[.ref a]/\SqT X.K H1 a []/\R ⟨λ_ _=>False,λ_ _ _ _=>False,λi _=>i=0⟩ H1):=by
 intro pins s σ H R I h;refine Call_ (Xc I hg hm boot_reversed (U7 (Zx (ha pos pins s σ H _ I h) λus s1 ⟨vs,H1,I1,r1,q1⟩=>?_) hs rfl));obtain⟨a,rfl,hq,q⟩:=q1;cases r1 with
 |cons r rr=>
  cases rr;cases r;obtain⟨its,rv,pl,hz⟩:=I1.tuple hq;cases rv;refine X9 pl (by decide) λtk=>?_;have st:IsRevT (s1.heap.push (Dr a (-1))) s1.heap.objs.size a (-1):=⟨_,Uu _ rfl,rfl,rfl⟩;refine KR (s:={s1 with heap:=s1.heap.push (Dr a (-1)),toks:=tk}) st ?_;exact⟨s1.heap.objs.size,[s1.heap.objs.size],_,_,H1,rfl,I1.kept (t':=tk) λb o e=>Ub _ e,NA a _,st,λc hc=>by
   have e:c=s1.heap.objs.size:=by simpa using hc
   subst e;exact I1.fpOk (Ug _) (I1.hok.fresh (Ug _)),q⟩
theorem Ds(hm:X.mg "reversed"=none)(he:Qs ca X e me)(hg:Gl X "reversed":=by exact Eq.refl (some _))(hs:starEach [e] X.env=[(false,eval e X.env)]:=by rfl):Pm ca X tg (.Call (.Name "reversed" p) [e] [] pos) (IQ me):=
 Xi (gI (X:=xo X) hg hm (ZN he JW hs) hs) λσ H R hQ=>by
  obtain⟨σ3,g,μ,Rp,q⟩:=hQ;refine⟨σ3,g,μ,Rp,?_⟩;unfold IQ at q;unfold Qb Qd;cases hm1:me σ3 g with
  |stuck=>rw[hm1]at q;exact q.elim|ok d g1=>
   rw[hm1,Res.bind_ok]at q;rw[Res.bind_ok,Res.bind_ok];intro vs H1 μ1 ex r1 q1;rcases q1 with _|⟨n1,q1⟩;cases q1;unfold PL at q;cases n1 with
   |tup t1 d1=>cases d1 with
    |nil=>exact⟨_,rfl,t1,q _ H1 μ1 ex r1 (λi H2 μ2 g2 ex2 _=>by
     dsimp only;by_cases hi:i=0
     ·rw[Uf hi];exact hi
     ·rw[Uh hi];trivial)⟩
    |_=>exact q.elim
   |_=>exact q.elim
end L3
namespace PySem
open Sem (wp)
namespace F
theorem nolen_lri:typeLookup (.type "list_reverseiterator") "__len__"=pure none:=by rw[Rj,Ts];kernel_rfl
theorem hint_lri:typeLookup (.type "list_reverseiterator") "__length_hint__"=pure (some (.builtin "list_reverseiterator.__length_hint__")):=by rw[Rj,Ts];kernel_rfl
end F
section
variable{prog:Program}{w:World}{A:Around}{E:VP}{s:Shared}{I:Addr}{fp wr:List Addr}{G:Array GenState->Array GenState->Prop}{n:Nat}{P:Nat->Value->Prop}{St:Nat->Shared->Prop}
theorem VX{Q:List Value->Shared->Prop}(W:WalksS prog w A.in1 I fp wr G n P St)(hT:∀i s,St i s->s.TypeIs (.ref I) "list_reverseiterator")(hst:St 0 s)(hfp:∀b∈fp,b<s.heap.objs.size)(hI:I∈fp)(hQ:∀s' acc,Moved wr G s s'->ItemsOf P acc n->Q acc.toList s')(hn:n<=sizeLine):wpAny (model prog w) A (collect (.ref I)) Q E s:=by
 have hSf:s.heap.objs.size∉fp:=λhm=>TL _ (hfp _ hm);have hSI:s.heap.objs.size≠I:=λe=>hSf (e ▸ hI);unfold collect;refine Ua (wpAny_runValue (Wu F.entry_proto_collect ?_));rw[RE F.plain_proto_collect _];show wpAny _ A.in1 (newList [] >>= λl=>again (.builtin "list.__iadd__" ⟨[l,.ref I],[]⟩)) _ _ s;refine Ua (UP ?_);refine Uc ⟨Bb F.plain_list_iadd _,Wu F.entry_list_iadd ?_⟩;rw[RE F.plain_list_iadd _];have hst₁:=W.frame 0 s (s.heap.push {cls:=.type "list",data:=.seq ([]:List Value).toArray}) s.toks hst (Ug _) λb _ o e=>Ub _ e;have hS₁:(s.heap.push {cls:=.type "list",data:=.seq ([]:List Value).toArray}).get? s.heap.objs.size=some {cls:=.type "list",data:=.seq ([]:List Value).toArray}:=Uu _ rfl;have h1:Builtin.List.listSameRef (.ref s.heap.objs.size) (.ref I)=false:=by simp[Builtin.List.listSameRef,hSI]
 show wpAny _ A.in1 (Builtin.List.listExtendWith (.ref s.heap.objs.size) (.ref I) (.ref s.heap.objs.size)) _ _ _;unfold Builtin.List.listExtendWith;refine Ua (Rr (hT 0 _ hst₁) ?_);rw[Uh (by rw[h1];decide)];refine Ua (W.self 0 _ _ _ hst₁ ?_);refine Ua (Tt ?_);unfold Builtin.List.listLengthHint;refine Ua (RD (hT 0 _ hst₁) F.nolen_lri ?_);show wpAny _ A.in1 (specialOf (Value.ref I) (Str.ofString "__length_hint__") >>= _) _ _ _;refine Ua (RD (hT 0 _ hst₁) F.hint_lri ?_)
 (generalize hid:("list_reverseiterator.__length_hint__" : String)=id0;(fail_if_success (clear hid id0));wp_delta;rw[show splitId id0=some ("list_reverseiterator","__length_hint__") from by subst hid;decide +kernel];subst hid)
 refine Ua (T7 (b:=true) (hT 0 _ hst₁) (by rw[WO];kernel_rfl) ?_);refine Uc ?_;rw[Uh (by decide)];refine Uc ⟨Bb F.plain_extend_loop _,codeAny_extend_loopS W hn _ hSf _ n 0 _ _ _ rfl (Tv _) hst₁ hS₁ (ItemsOf.nil P) λs' acc' c' hm hS' hacc=>?_⟩;show wpAny _ A (load s.heap.objs.size >>= _) _ _ s';refine Ua (wpAny_load hS' ?_);exact Uc (hQ s' acc' (Moved.drop_new (o:={cls:=.type "list",data:=.seq ([]:List Value).toArray}) (tk:=s.toks) hm (Ug _)) hacc)
theorem Vr{Q₁:VP}(W:WalksS prog w A.in1.in1 I fp wr G n P St)(hT:∀i s,St i s->s.TypeIs (.ref I) "list_reverseiterator")(hst:St 0 s)(hfp:∀b∈fp,b<s.heap.objs.size)(hI:I∈fp)(h:∀s' acc,Moved wr G s s'->ItemsOf P acc n->Q₁ (.ref s'.heap.objs.size) {s' with heap:=s'.heap.push {cls:=.type "tuple",data:=.seq acc} })(hsz:n<=sizeLine):
  codeAny (model prog w) A (.call (.builtin "tuple.__new__") ⟨[.type "tuple",.ref I],[]⟩) (wants Q₁ E) s:=by
 refine codeAny_of_tree ?_;show wpAny _ A.in1 (do checkBuiltinCall "tuple.__new__" ⟨[.type "tuple",.ref I],[]⟩;again (.builtin "tuple.__new__" ⟨[.type "tuple",.ref I],[]⟩)) _ _ s;refine Ua (RJ (F.newCall_tuple_1 _) (Uc ⟨Bb F.plain_tuple_new _,Wu F.entry_tuple_new ?_⟩));rw[RE F.plain_tuple_new _];have hsub:=sub_tuple_self;have hinit:=init_tuple_lookup;have hmh:=madeHere_tuple;have hTI:=hT 0 s hst
 wp_walk using Rr hTI,VX (hn:=hsz) W hT hst hfp hI
 intro s' acc hm hacc;show wpAny _ _ (Builtin.Tuple.tupleExact acc.toList.toArray >>= λv=>ret v) _ _ _;unfold Builtin.Tuple.tupleExact;refine Ua (UP ?_ (by show acc.toList.toArray.size<=sizeLine;simp only[Array.toArray_toList];rw[hacc.1];exact hsz));refine Uc ?_;have e:acc.toList.toArray=acc:=by simp
 rw[e];exact h s' acc hm hacc
theorem Eh{Q:VP}(W:WalksS prog w A.in1.in1.in1 I fp wr G n P St)(hT:∀i s,St i s->s.TypeIs (.ref I) "list_reverseiterator")(hst:St 0 s)(hfp:∀b∈fp,b<s.heap.objs.size)(hI:I∈fp)(hQ:∀s' acc,Moved wr G s s'->ItemsOf P acc n->Q (.ref s'.heap.objs.size) {s' with heap:=s'.heap.push {cls:=.type "tuple",data:=.seq acc} })(hsz:n<=sizeLine):
  wpAny (model prog w) A (call (.type "tuple") [.ref I]) Q E s:=by
 refine callType_codes (Q₁:=λobj s₁=>s₁.TypeIs obj "tuple"/\Q obj s₁) F.called_tuple (F.typeCall_tuple_1 _) F.entry_object_init
  (Vr (hsz:=hsz) W hT hst hfp hI λs' acc hm hacc=>⟨⟨_,Uu _ rfl,rfl⟩,hQ s' acc hm hacc⟩) λobj s₁ h₁=>?_
 exact⟨h₁.1,F.args_object_init_2 obj _,object_init_meets F.called_tuple.init.lookup F.called_tuple.made (by decide) prog w A.in1 _ s₁ ⟨h₁.1,rfl,h₁.2⟩⟩
theorem Ei{l:Addr}{its:List Value}{Q:VP}(hh:A.handled=none)(hne:l≠I)(hit:s.heap.IsRevIter I l ((its.toArray.size:Int) - 1))(hl:s.heap.IsList l its.toArray)(hsz:its.toArray.size<=sizeLine)(hQ:∀(h':Heap) (tk:Nat),(∀b o,b≠I->s.heap.get? b=some o->h'.get? b=some o)->Q (.ref h'.objs.size) {s with heap:=h'.push {cls:=.type "tuple",data:=.seq its.reverse.toArray},toks:=tk}):
  wpAny (model prog w) A (call (.type "tuple") [.ref I]) Q E s:=by
 refine Eh (Walks.listRev (A:=A.in1.in1.in1) hh I l hne its.toArray).toS (λ_ _ st=>st.2.1.typeIs) ⟨Tv _,by simpa using hit,hl⟩ (λb hb=>?_) (by simp) (λs' acc hm ha=>?_) hsz
 ·obtain⟨o,ho,_⟩:=hit;obtain⟨o',ho',_⟩:=hl;rcases UG.mp hb with rfl|hb
  ·exact UB ho
  ·rw[Ui.mp hb];exact UB ho'
 ·have e:acc=its.reverse.toArray:=by
   apply Array.ext_getElem?;intro i;by_cases hi:i<its.length
   ·have h1:acc[i]?=some (acc[i]'(by rw[ha.1];simpa using hi)):=BF _;have h2:=ha.2 i _ h1;rw[h1,<-h2];simp only[Ux,WY,List.getElem?_reverse hi]
   ·have hs:acc.size=its.length:=by rw[ha.1];simp
    rw[WH (by omega),WY,TZ (by simp;omega)]
  subst e;have e2:s' = {s with heap:=s'.heap,toks:=s'.toks}:=by have a1:=hm.gens;have a2:=hm.drawn;have a3:=hm.os;cases s';cases s;simp only at a1 a2 a3 ⊢;subst a1 a2 a3;rfl
  have:=hQ s'.heap s'.toks λb o hb e=>hm.heap b o (by simpa using hb) e;rw[e2];exact this
end
end PySem
namespace L3
open PySem
def JX(x:D)(g:G):Res D:=match QK g x with
 |some (true,ds)=>.ok (.tup ds.reverse) g|_=>.stuck
open PySem.Spec PyProof.Rows L2
theorem G9:∀{xs:List V}{us:List Value},Vals xs us->Vals xs.reverse us.reverse
 |_,_,.nil=>.nil|_,_,.cons h t=>by rw[WM,WM];exact(G9 t).append (.cons h .nil)
theorem Dens.rev{K:Frag}{μ:List Addr}{H:Hp}:∀{vs:List V}{ds:List D},Dens K μ H vs ds->Dens K μ H vs.reverse ds.reverse
 |_,_,.nil=>.nil|_,_,.cons h t=>by rw[WM,WM];exact(Dens.rev t).append (.cons h .nil)
section
variable{X:Cx}{ca:Nat->Addr}{e:Expr}{me:ME}{p p2 pos pos2:Pos}
theorem NB{ta:TA}(hs0:starEach [.Call (.Name "reversed" p2) [e] [] pos2] X.env=[(false,eval (.Call (.Name "reversed" p2) [e] [] pos2) X.env)])(hg:Gl X "tuple")(hm:X.mg "tuple"=none)(hg2:Gl X "reversed")(hm2:X.mg "reversed"=none)(ha:PA X [e] ta)(hs:starEach [e] X.env=[(false,eval e X.env)])(hc:X.calm=true):
  PE X (.Call (.Name "tuple" p) [.Call (.Name "reversed" p2) [e] [] pos2] [] pos) (λσ H Q=>ta σ H λvs H1=>∃a xs,vs=[.ref a]/\SqL X.K H1 a xs/\∀l,H1 l=none->Q (.ref l) (Za H1 l (.tup xs.reverse))):=by
 intro pins s σ H Q I h;refine Call_ (Xc I hg hm boot_tuple (U7 ?_ hs0 rfl));rw[hs0];show wpAny _ _ (spliced ((false,eval (.Call (.Name "reversed" p2) [e] [] pos2) X.env)::[])) _ _ s;refine Calls.spliced_cons (Call_ (Xc I hg2 hm2 boot_reversed (U7 (Zx (ha pos2 pins s σ H _ I h) λus s1 hv=>?_) hs rfl)));obtain⟨vs,H1,I1,r1,a,xs,rfl,hq,q⟩:=hv;cases r1 with
 |cons r rr=>
  cases rr;cases r;have h63:=Vo;obtain⟨its,rv,pl,hz⟩:=I1.list hq;have hl:=rv.length;obtain⟨f0,f1,f2,f3,f4,f5⟩:=I1.fpOk (Ug _) (I1.hok.fresh (Ug _));refine call_reversed_list pl.isList (Calls.spliced_nil ?_);have I2:Inv X pins σ H1 {s1 with heap:=s1.heap.push (revObj a ((its.toArray.size:Int) - 1))}:=I1.kept (t':=s1.toks) λb o e=>Ub _ e;have ll:a≠s1.heap.objs.size:=λz=>by obtain⟨o,ho,_⟩:=pl.isList;exact absurd (UB ho) (by rw[z];exact TL _)
  refine Ei (I:=s1.heap.objs.size) (l:=a) (its:=its) (s:={s1 with heap:=s1.heap.push (revObj a ((its.toArray.size:Int) - 1))}) (I1.ok.hd hc) ll ⟨_,Uu _ rfl,rfl,rfl⟩ (pl.isList.at λo e=>Ub _ e) (by simp only[Ux];omega) λh' tk kp=>?_;have I3:Inv X pins σ H1 {s1 with heap:=h',toks:=tk}:=I2.turned (t':=tk) (λb o hb e=>kp b o hb e) f0 f1 f3 f4 f5;refine⟨.ref h'.objs.size,_,I3.laid (t':=tk) (λb o e=>Ub _ e) (Ug _) (show ObjOk X.prog X.w _ _ _ (.tup xs.reverse) from ⟨by rw[Bk];exact hz,its.reverse,G9 rv,IsTup.new _ _⟩),rfl,q _ (I3.hok.fresh (Ug _))⟩
theorem IR(hc:X.calm=true)(hm:X.mg "tuple"=none)(hm2:X.mg "reversed"=none)(he:Qs ca X e me)(hs0:starEach [.Call (.Name "reversed" p2) [e] [] pos2] X.env=[(false,eval (.Call (.Name "reversed" p2) [e] [] pos2) X.env)]:=by rfl)(hg:Gl X "tuple":=by exact Eq.refl (some _))(hg2:Gl X "reversed":=by exact Eq.refl (some _))(hs:starEach [e] X.env=[(false,eval e X.env)]:=by rfl):
  Qs ca X (.Call (.Name "tuple" p) [.Call (.Name "reversed" p2) [e] [] pos2] [] pos) (Qi JX me):=
 QZ (NB (X:=xo X) hs0 hg hm hg2 hm2 (ZN he JW hs) hs hc) λσ H Q hQ=>by
  obtain⟨σ3,g,μ,R,q⟩:=hQ;refine⟨σ3,g,μ,R,?_⟩;unfold Qi at q;unfold Qb Qd;cases hm:me σ3 g with
  |stuck=>rw[hm]at q;exact q.elim|ok d g1=>
   rw[hm,Res.bind_ok]at q;rw[Res.bind_ok,Res.bind_ok];intro vs H1 μ1 e1 r1 q1;cases q1 with
   |@cons v _ _ _ h1 h2=>
    cases h2;unfold JX at q;cases hs1:QK g1 d with
    |none=>rw[hs1]at q;exact q.elim|some p1=>
     obtain⟨b,ds⟩:=p1;rw[hs1]at q;cases b with
     |false=>exact q.elim|true =>obtain⟨a,ws,rfl,sq,dn⟩:=G7 r1 h1 hs1;exact⟨a,ws,rfl,sq,λl hl=>q _ _ μ1 (e1.trans (Q8 hl)) (r1.new hl) (.tup (.of Qr) (dn.rev.mono (Q8 hl)))⟩
end
theorem Dt{K:Frag}{a b:Addr}{t u:Tok}{c d:Option Addr}{n m:Nat}{p q:Array (Option Value)}(h:K.lookup a=some ⟨.type "tuple",c,.seq [.int 0 t,.int 0 u,.ref b].toArray n,p⟩)(k:K.lookup b=some ⟨.type "tuple",d,.seq [].toArray m,q⟩)(μ H):Den K μ H (.ref a) (.tup [.int 0,.int 0,.tup []]):=by
 have s:Vals [.int 0,.int 0,.ref b] [.int 0 t,.int 0 u,.ref b]:=.cons ⟨t,rfl⟩ (.cons ⟨u,rfl⟩ (.cons rfl .nil));have e (x:Nat) (w:x<=9):x<=sizeLine:=by rw[TU];omega
 exact .tup (.inr ⟨_,_,n,h,rfl,rfl,e 3 (by decide),s⟩) (.cons (.int 0) (.cons (.int 0) (.cons (.tup (.inr ⟨_,_,m,k,rfl,rfl,e 0 (by decide),.nil⟩) .nil) .nil)))
theorem Du(h:∃u v,X.mg x=some u/\RelV v u/\∀μ H,Den X.K μ H v d)(hg:Gl X x:=by exact Eq.refl (some _))(hd:(x==("__debug__" : Str))=false:=by exact Eq.refl false):Qs ca X (.Name x pos) (Qp d):=by obtain⟨u,v,hm,r,q⟩:=h;exact QZ (LB (X:=xo X) hg hm r hd) λ_ H _ z=>by obtain⟨_,_,μ,R,p⟩:=z;exact p v H μ .refl R.g (q _ _)
end L3
namespace L2
open PySem PySem.Spec PyProof.Rows
section
variable{κ:Type}[DecidableEq κ]
def Ej(kvs:List (κ×V))(k:κ):Option V:=(kvs.find? λkv=>decide (kv.1=k)).map (·.2)
def Ek(kvs:List (κ×V))(k:κ)(v:V):List (κ×V):=if (kvs.any λkv=>decide (kv.1=k))=true then kvs.map (λkv=>if kv.1=k then (kv.1,v) else kv) else kvs++[(k,v)]
def sS(kvs:List (κ×V))(k:κ):List (κ×V):=kvs.filter λkv=>decide (kv.1≠k)
theorem Ha{p:κ×V}{r:List (κ×V)}{k:κ}(e:p.1=k):Ej (p::r) k=some p.2:=by simp[Ej,Td,e]
theorem Hb{p:κ×V}{r:List (κ×V)}{k:κ}(e:¬p.1=k):Ej (p::r) k=Ej r k:=by simp[Ej,Td,e]
theorem KS(kvs:List (κ×V))(k:κ)(v:V):(Ek kvs k v).length<=kvs.length+1:=by
 unfold Ek;split
 ·rw[Ue];omega
 ·rw[Uq,UJ,Wt];omega
theorem RelO.getD(r:RelO o u)(rd:RelV d d'):RelV (o.getD d) (u.getD d'):=by
 cases o with
 |none=>cases u with
  |none=>exact rd|some _=>exact(show False from r).elim
 |some _=>cases u with
  |none=>exact(show False from r).elim|some _=>exact r
theorem KV.val{kvs:List (κ×V)}{vs:List (κ×Value)}(r:KV kvs vs)(k:κ):RelO (Ej kvs k) (valueAt vs k):=by
 unfold KV at r;induction r with
 |nil=>exact True.intro|@cons p q ps qs h t ih=>
  obtain⟨h1,h2⟩:=h;by_cases e:p.1=k
  ·have e':q.1=k:=h1.symm.trans e;have b:valueAt (q::qs) k=some q.2:=by simp[valueAt,Td,e']
   rw[Ha e,b];exact h2
  ·have e':¬q.1=k:=λz=>e (h1.trans z);have b:valueAt (q::qs) k=valueAt qs k:=by simp[valueAt,Td,e']
   rw[Hb e,b];exact ih
theorem KV.any(r:KV kvs vs)(k:κ):(kvs.any λkv=>decide (kv.1=k))=vs.any λkv=>decide (kv.1=k):=by
 unfold KV at r;induction r with
 |nil=>rfl|cons h t ih=>rw[Tu,Tu,ih,h.1]
theorem KV.repl(r:KV kvs vs)(k:κ)(ry:RelV y u):
  KV (kvs.map λkv=>if kv.1=k then (kv.1,y) else kv) (vs.map λkv=>if kv.1=k then (kv.1,u) else kv):=by
 unfold KV at r ⊢;induction r with
 |nil=>exact .nil|@cons p q ps qs h t ih=>
  rw[UH,UH];refine .cons ?_ ih;obtain⟨h1,h2⟩:=h;by_cases e:p.1=k
  ·rw[Uf e,Uf (h1.symm.trans e)];exact⟨h1,ry⟩
  ·rw[Uh e,Uh (λz=>e (h1.trans z))];exact⟨h1,h2⟩
theorem KV.put(r:KV kvs vs)(k:κ)(ry:RelV y u):KV (Ek kvs k y) (stored vs k u):=by
 unfold Ek stored;rw[r.any k];by_cases e:(vs.any λkv=>decide (kv.1=k))=true
 ·rw[Uf e,Uf e];exact r.repl k ry
 ·rw[Uh e,Uh e];exact Paired.snoc r ⟨rfl,ry⟩
theorem KV.length(r:KV kvs vs):kvs.length=vs.length:=Paired.length r
end
theorem L1(r:RelV (kV k) u):(YY P w).is k u=true:=by
 cases k with
 |inl i=>obtain⟨t,e⟩:=(show ∃t,u=Value.int i t from r);subst e;exact GM P w i t|inr x=>obtain⟨t,e⟩:=(show ∃t,u=Value.str x t from r);subst e;exact GN P w x t
section
variable{P:Program}{w:World}{H:Hp}{h:Heap}{a:Addr}
theorem mZ(ok:HOk P w H h)(e:Rd H a u):ObjOk P w H h a u:=e.ok ok
theorem nD(ok:HOk P w H h)(e:Rd H a (.dK kvs)):kvs.length<=sizeLine/\(a==sysModules)=false/\∃vs,KV kvs vs/\h.DictOf (YY P w) a vs:=
 show ObjOk P w H h a (.dK kvs) from mZ ok e
theorem Hc(ok:HOk P w H h)(e:H a=some (.dK kvs)):kvs.length<=sizeLine/\(a==sysModules)=false/\∃vs,KV kvs vs/\h.DictOf (YY P w) a vs:=nD ok (.inl e)
end
section
variable{X:Cx}{pins:YM}{σ:St}{H:Hp}{s:Shared}{a:Addr}{y v:V}{u r:Value}{o:Option V}{A:Around}{E:VP}
theorem Inv.big(I:Inv X pins σ H s):sysModules<s.heap.objs.size:=by have h:mainGlobals<s.heap.objs.size:=(I.mod.glob.keeps I.bk).lt;exact Nat.lt_trans (by decide) h
theorem CA(I:Inv X pins σ H s)(mu:jD (H a))(hs:Heap.SameBut a s.heap h')(he:∃q,h'.get? a=some q)(new:ObjOk X.prog X.w (Za H a ob) h' a ob):
  Inv X pins σ (Za H a ob) {s with heap:=h',toks:=t'}:=I.write (x:=a) (e:=a) mu (.inl rfl) (λb q hb z=>(hs.2 b hb).trans z) he new
theorem PM(z:kvs.length<=sizeLine)(hd:(a==sysModules)=false)(rel:KV kvs vs)(dd:h'.DictOf (YY P w) a vs):
  ObjOk P w H' h' a (.dK kvs):=⟨z,hd,vs,rel,dd⟩
end
theorem VY(h:Heap)(hb:sysModules<h.objs.size):ObjOk P w H (h.push {cls:=.type "dict",data:=.dict #[]}) h.objs.size (.dK []):=⟨Tv _,Ta.mpr (Ne.symm (UY hb)),[],.nil,Heap.DictOf.new h⟩
def gJ:TE:=λ_ H Q=>∀p,H p=none->Q (.ref p) (Za H p (.dK []))
section
variable{X:Cx}{pos:Pos}
theorem PN:PE X (.Dict [] [] pos) gJ:=λpins s σ H Q I h=>
 wpAny_Dict_empty ⟨.ref s.heap.objs.size,_,I.laid (a:=s.heap.objs.size) (o:=.dK []) (t':=s.toks) (λ_ _ q=>Ub _ q) (Ug _) (VY s.heap I.big),rfl,h _ (I.hok.fresh (Ug _))⟩
end
end L2
namespace L3
open PySem
abbrev DK:=Sum Int Str
def E1(ks:List (DK×D))(k:DK):Option D:=(ks.find? λp=>decide (p.1=k)).map (·.2)
def E2(ks:List (DK×D))(k:DK)(v:D):List (DK×D):=if (ks.any λp=>decide (p.1=k))=true then ks.map λp=>if p.1=k then (p.1,v) else p else ks++[(k,v)]
def sT(ks:List (DK×D))(k:DK):List (DK×D):=ks.filter λp=>decide (p.1≠k)
def bG:ME:=λ_ g=>.ok (.ref g.length) (g++[.dct []])
def XH(o k x:ME):ME:=λσ g=>(o σ g).bind λa g1=>match a with
 |.ref n=>(match g1[n]? with
  |some (.dct _)=>(k σ g1).bind λy g2=>(x σ g2).bind λz g3=>(match y with
   |.int i=>(match g3[n]? with
    |some (.dct ks)=>.ok ((E1 ks (.inl i)).getD z) g3|_=>.stuck)
   |_=>.stuck)
  |_=>.stuck)
 |_=>.stuck
def Hd(o k v:ME):MS:=λσ g=>match v σ g with
 |.ok y g1=>(match o σ g1 with
  |.ok (.ref n) g2=>(match k σ g2 with
   |.ok (.int i) g3=>(match g3[n]? with
    |some (.dct ks)=>if ks.length<SZ then .nx σ (g3.set n (.dct (E2 ks (.inl i) y))) else .stuck
    |_=>.stuck)
   |_=>.stuck)
  |_=>.stuck)
 |.stuck=>.stuck
open PySem.Spec PyProof.Rows L2
section
variable{K:Frag}{μ:List Addr}{H:Hp}
theorem KRel.get(r:KRel K μ H kv ks)(k:X6):(Ej kv k=none/\E1 ks k=none)\/∃v d,Ej kv k=some v/\E1 ks k=some d/\Den K μ H v d:=by
 unfold KRel at r;induction r with
 |nil=>exact .inl ⟨rfl,rfl⟩|@cons p q ps qs h t ih=>
  obtain⟨h1,h2⟩:=h;by_cases e:p.1=k
  ·refine .inr ⟨p.2,q.2,Ha e,?_,h2⟩;unfold E1;rw[Td,Us (h1.symm.trans e)];rfl
  ·have e':E1 (q::qs) k=E1 qs k:=by unfold E1;rw[Td,Uv (λz=>e (h1.trans z))]
   rw[Hb e,e'];exact ih
theorem KRel.put(r:KRel K μ H kv ks)(k:X6)(h:Den K μ H v d):KRel K μ H (Ek kv k v) (E2 ks k d):=by
 have ha:(kv.any λp=>decide (p.1=k))=ks.any λp=>decide (p.1=k):=by
  unfold KRel at r;induction r with
  |nil=>rfl|cons h t ih=>rw[Tu,Tu,ih,h.1]
 unfold Ek E2;rw[ha];by_cases e:(ks.any λp=>decide (p.1=k))=true
 ·rw[Uf e,Uf e];clear ha e;unfold KRel at r ⊢;induction r with
  |nil=>exact .nil|@cons p q ps qs hp t ih=>
   rw[UH,UH];refine .cons ?_ ih;obtain⟨h1,h2⟩:=hp;by_cases e:p.1=k
   ·rw[Uf e,Uf (h1.symm.trans e)];exact⟨h1,h⟩
   ·rw[Uh e,Uh (λz=>e (h1.trans z))];exact⟨h1,h2⟩
 ·rw[Uh e,Uh e];exact Paired.snoc r ⟨rfl,h⟩
end
section
variable{X:Cx}
theorem PQ:dB X "dict.get" (λx vs H Q=>∃a kvs k d,x=.ref a/\vs=[kV k,d]/\H a=some (.dK kvs)/\Q ((Ej kvs k).getD d) H):=by
 intro pins s σ H x vs v us Q I rx rv h;obtain⟨a,kvs,k,d,rfl,rfl,e,q⟩:=h;cases rx;cases rv with
 |cons ry r2=>cases r2 with
  |cons rd r3 =>cases r3;obtain⟨z,hd,vs,rel,dd⟩:=Hc I.hok e;exact WS R0 dd.typeIs B8 (BU _ _ _) (meets_dict_get_default (YY X.prog X.w) a (L1 ry) hd _) ⟨_,dd.mapOf,_,H,I.tok _,(rel.val k).getD rd,q⟩
theorem PR:AA X (λo i v H Q=>∃a kvs k,o=.ref a/\i=kV k/\H a=some (.dK kvs)/\kvs.length<sizeLine/\Q (Za H a (.dK (Ek kvs k v)))):=by
 intro pins s σ H o i v ov iv u Q I ro ri rv h;obtain⟨a,kvs,k,rfl,rfl,e,l,q⟩:=h;cases ro;obtain⟨z,hd,vs,rel,dd⟩:=Hc I.hok e;have hz:vs.length<=sizeLine:=by rw[<-rel.length];exact z
 have hl:(Ek kvs k v).length<=sizeLine:=by have:=KS kvs k v;omega
 refine wpAny_setItem_pairs (hsz:=hz) (L1 ri) dd λh' dd' hs=>?_;have he:∃q,h'.get? a=some q:=let ⟨q,_,_,hq,_⟩:=dd';⟨q,hq⟩;exact⟨_,CA I (by rw[e];exact True.intro) hs he (PM hl hd (rel.put k rv) dd'),q⟩
end
section
variable{X:Cx}{ca:Nat->Addr}{o e f:Expr}{mo me mf:ME}{p pos apos:Pos}
theorem gK:Qs ca X (.Dict [] [] pos) bG:=QZ (PN (X:=xo X)) λσ H Q ⟨σ3,g,μ,R,q⟩=>λt ht=>q _ _ (μ++[t]) (Q3 ht) (R.g.push ht ⟨[],Qr,.nil⟩) (.ref (by rw[<-R.g.len];simp))
theorem Dv(ho:Qs ca X o mo)(he:Qs ca X e me)(hf:Qs ca X f mf)(hbase:attributeBase o "get" X.env (eval o X.env)=eval o X.env:=by rfl)(hfew:((backTo pos (starEach [e,f] X.env)).all (λx=>!x.1)&&(backToKw pos (keywordEach [] X.env)).all (λx=>x.1.isSome)&&decide ([e,f].length+([]:List Keyword).length+(if ([]:List Keyword).isEmpty then 0 else 1)<30))=true:=by exact Eq.refl true)(hline:(apos.endLine==pos.line)=true:=by exact Eq.refl true)(hs:starEach [e,f] X.env=(false,eval e X.env)::starEach [f] X.env:=by rfl)(hs2:starEach [f] X.env=(false,eval f X.env)::starEach [] X.env:=by rfl)(hplain:(backTo pos (starEach [f] X.env)).any (·.1)=false:=by exact Eq.refl false):
  Qs ca X (.Call (.Attribute o "get" apos) [e,f] [] pos) (XH mo me mf):=
 QZ (OL (X:=xo X) Wy R0 PySem.F.type_dict_get PQ ho (ZN he (ZN hf JW hs2) hs) hbase hfew hline hs hplain) λσ H Q ⟨σ3,g,μ,R,q⟩=>QC (Zl R q) λx H1 hQ=>by
  obtain⟨d,g1,μ1,e1,R1,q1,p1⟩:=hQ;cases q1 with
  |@ref n t hn=>
   dsimp only at p1;cases hgn:g1[n]? with
   |none=>rw[hgn]at p1;exact p1.elim|some ob=>
    rw[hgn]at p1;obtain⟨t',ht',orp⟩:=R1.g.addr hgn;rw[hn]at ht';cases ht';cases ob with
    |dct ks0=>
     obtain⟨kv0,hH0,_⟩:=orp;dsimp only at p1;refine⟨.inr (.inr (.inl ⟨rfl,.inl ⟨_,hH0⟩⟩)),σ3,g1,μ1,R1,?_⟩;unfold Qb Qd;cases hm:me σ3 g1 with
     |stuck=>rw[hm]at p1;exact p1.elim|ok y g2=>
      rw[hm,Res.bind_ok]at p1;rw[Res.bind_ok];cases hm2:mf σ3 g2 with
      |stuck=>rw[hm2]at p1;exact p1.elim|ok z g3=>
       rw[hm2,Res.bind_ok]at p1;rw[Res.bind_ok,Res.bind_ok,Res.bind_ok];intro vs H2 μ2 e2 r2 q2;cases q2 with
       |cons h1 h2=>cases h2 with
        |cons h2 h3=>
         cases h3;cases h1 with
         |int i=>
          dsimp only at p1;cases hg2:g3[n]? with
          |none=>rw[hg2]at p1;exact p1.elim|some ob2=>
           rw[hg2]at p1;obtain⟨t',ht',orp⟩:=r2.addr hg2;rw[e2.at hn]at ht';cases ht';cases ob2 with
           |dct ks=>
            obtain⟨kv,hH,qs⟩:=orp;dsimp only at p1;refine⟨t,kv,.inl i,_,rfl,rfl,hH,p1 _ _ μ2 e2 r2 ?_⟩;rcases qs.get (.inl i) with⟨a,b⟩|⟨v,d,a,b,c⟩
            ·rw[a,b];exact h2
            ·rw[a,b];exact c
           |_=>exact p1.elim
         |_=>exact p1.elim
    |_=>exact p1.elim
  |_=>exact p1.elim
theorem gL{i:Expr}{mi:ME}{pos':Pos}(ho:Qs ca X o mo)(hi:Qs ca X i mi)(he:Qs ca X e me)(hs:swapsWithSole [.Subscript o i pos'] e pos.line X.env=pure false:=by rfl)(hw:swappedStores [.Subscript o i pos'] e X.env=pure none:=by rfl)(h1:(assignEach [.Subscript o i pos'] X.env).map (·.2)=[assign (.Subscript o i pos') X.env]:=by rfl)(ha:∀v,assign (.Subscript o i pos') X.env v=(do
   let ov <-holding [v] (eval o X.env)
   let iv <-holding [v,ov] (eval i X.env)
   standAt pos'
   holding [v,ov,iv] (setItem ov iv v)
   release [v,ov,iv] []):=by intro _;rfl):F2 ca X (.Assign [.Subscript o i pos'] e pos) (Hd mo mi me):=
 ZO (FK (X:=xo X) he (Io (X:=xo X) ho hi PR ha) hs hw h1) λE σ H ⟨σ3,g,μ,R,p⟩=>⟨σ3,g,μ,R,by
  unfold Hd at p;cases hm:me σ3 g with
  |ok y g1=>
   rw[hm]at p;dsimp only at p;intro vy H1 μ1 e1 r1 q1;refine⟨σ3,g1,μ1,R.go e1 r1,?_⟩;cases hm2:mo σ3 g1 with
   |ok d g2=>
    rw[hm2]at p;intro vx H2 μ2 e2 r2 q2;cases q2 with
    |@ref n a hn=>
     dsimp only at p;refine⟨σ3,g2,μ2,R.go (e1.trans e2) r2,?_⟩;cases hm3:mi σ3 g2 with
     |ok di g3=>
      rw[hm3]at p;intro vi H3 μ3 e3 r3 q3;cases q3 with
      |int k=>
       dsimp only at p;cases hg:g3[n]? with
       |none=>rw[hg]at p;exact p.elim|some ob=>
        rw[hg]at p;obtain⟨a',ha',orp⟩:=r3.addr hg;rw[e3.at hn]at ha';cases ha';cases ob with
        |dct ks=>
         dsimp only at p;obtain⟨kv,hH,q⟩:=orp;by_cases z:ks.length<SZ
         ·rw[Uf z]at p;have ex:Ext X.K μ3 H3 μ3 (Za H3 a (.dK (Ek kv (.inl k) vy))):=Z4 hH (by intro _ z;cases z) (by intro _ _ z;cases z);refine⟨a,kv,.inl k,rfl,rfl,hH,by rw[Paired.length q];exact UA z Z5,?_⟩;refine p σ _ μ3 (((e1.trans e2).trans e3).trans ex) ((R.go ((e1.trans e2).trans e3) r3).go ex ?_);exact r3.set (e3.at hn) hH (by intro _ z;cases z) (by intro _ _ z;cases z) ⟨_,Qr,(q.mono ex).put _ (((q1.mono e2).mono e3).mono ex)⟩
         ·rw[Uh z]at p;exact p.elim
        |_=>exact p.elim
      |_=>exact p.elim
     |stuck=>rw[hm3]at p;exact p
    |_=>exact p.elim
   |stuck=>rw[hm2]at p;exact p
  |stuck=>rw[hm]at p;exact p⟩
end
end L3
namespace L3
open PySem
def L4(x y:D)(g:G):Res D:=match x,y with
 |.int i,.int j=>.ok (.int (if j<i then j else i)) g|_,_=>.stuck
def CB(o e:ME):ME:=λσ g=>(o σ g).bind λx g1=>match x with
 |.ref n=>(match g1[n]? with
  |some (.lst _)=>(e σ g1).bind λy g2=>(match y with
   |.ref m=>(match g2[n]?,g2[m]? with
    |some (.lst ds),some (.lst es)=>if n≠m/\ds.length+es.length<=SZ then .ok .non (g2.set n (.lst (ds++es))) else .stuck
    |_,_=>.stuck)
   |_=>.stuck)
  |_=>.stuck)
 |_=>.stuck
def El:List (DK×D)->Option (List Int)
 |[]=>some []| (.inl i,_)::r=>(El r).map (i :: ·)|_::_=>none
def KU(x:D)(g:G):Res D:=match x with
 |.ref n=>(match g[n]? with
  |some (.dct ks)=>(match El ks with
   |some is=>if is.length<=1000 then .ok (.ref g.length) (g++[.lst (is.map .int)]) else .stuck
   |none=>.stuck)
  |_=>.stuck)
 |_=>.stuck
def Kt:List Int->Option Int
 |[]=>none|i::r=>(match Kt r with
  |none=>some i|some j=>some (if j<i then j else i))
def Ku:List Int->Option Int
 |[]=>none|i::r=>(match Ku r with
  |none=>some i|some j=>some (if i<j then j else i))
def He(x:D)(g:G):Res D:=match x with
 |.ref n=>(match g[n]? with
  |some (.lst ds)=>(match Ve ds with
   |some is=>(match Kt is with
    |some i=>.ok (.int i) g|none=>.stuck)
   |none=>.stuck)
  |_=>.stuck)
 |_=>.stuck
def Hf(x:D)(g:G):Res D:=match x with
 |.ref n=>(match g[n]? with
  |some (.lst ds)=>(match Ve ds with
   |some is=>(match Ku is with
    |some i=>.ok (.int i) g|none=>.stuck)
   |none=>.stuck)
  |_=>.stuck)
 |_=>.stuck
theorem Em:∀{is:List Int}{M:Int},Kt is=some M->M∈is/\∀a∈is,M<=a
 |[],_,h=>by cases h
 |i::r,M,h=>by
  unfold Kt at h;cases hr:Kt r with
  |none=>
   rw[hr]at h;cases h;cases r with
   |nil=>exact⟨Uy ..,λa ha=>by rw[Ui.mp ha];exact Tw _⟩|cons j r'=>
    unfold Kt at hr;cases h2:Kt r' with
    |none=>rw[h2]at hr;cases hr|some k=>rw[h2]at hr;cases hr
  |some j=>
   rw[hr]at h;dsimp only at h;obtain⟨q1,q2⟩:=Em hr;by_cases z:j<i
   ·rw[Uf z]at h;cases h;exact⟨Uz _ q1,λa ha=>by
     rcases UG.mp ha with e|e
     ·omega
     ·exact q2 a e⟩
   ·rw[Uh z]at h;cases h;exact⟨Uy ..,λa ha=>by
     rcases UG.mp ha with e|e
     ·omega
     ·have:=q2 a e;omega⟩
theorem En:∀{is:List Int}{M:Int},Ku is=some M->M∈is/\∀a∈is,a<=M
 |[],_,h=>by cases h
 |i::r,M,h=>by
  unfold Ku at h;cases hr:Ku r with
  |none=>
   rw[hr]at h;cases h;cases r with
   |nil=>exact⟨Uy ..,λa ha=>by rw[Ui.mp ha];exact Tw _⟩|cons j r'=>
    unfold Ku at hr;cases h2:Ku r' with
    |none=>rw[h2]at hr;cases hr|some k=>rw[h2]at hr;cases hr
  |some j=>
   rw[hr]at h;dsimp only at h;obtain⟨q1,q2⟩:=En hr;by_cases z:i<j
   ·rw[Uf z]at h;cases h;exact⟨Uz _ q1,λa ha=>by
     rcases UG.mp ha with e|e
     ·omega
     ·exact q2 a e⟩
   ·rw[Uh z]at h;cases h;exact⟨Uy ..,λa ha=>by
     rcases UG.mp ha with e|e
     ·omega
     ·have:=q2 a e;omega⟩
open PySem.Spec PyProof.Rows L2
section
variable{X:Cx}
theorem L5{K:Frag}{μ:List Addr}{H:Hp}:∀ns:List Int,Dens K μ H (ns.map V.int) (ns.map D.int)
 |[]=>.nil|n::ns=>.cons (.int n) (L5 ns)
theorem Dw(h:CM (.inl i) v=true):∃t,v=.int i t:=by
 rcases Zf h with⟨j,t,e1,e2⟩|⟨x,t,e1,e2⟩
 ·cases e1;exact⟨t,e2⟩
 ·cases e1
theorem Dx{kvs:List (X6×V)}{vs:List (X6×Value)}(rel:KV kvs vs):kvs.map (·.1)=vs.map (·.1):=by
 unfold KV at rel;induction rel with
 |nil=>rfl|cons h t ih=>rw[UH,UH,ih,h.1]
theorem NC(hc:X.calm=true):YA X (.type "list") (λxs H Q=>∃(a:Addr)(kvs:List (X6×V))(is:List Int),xs=[.ref a]/\H a=some (.dK kvs)/\kvs.map (·.1)=is.map Sum.inl/\∀l,H l=none->Q (.ref l) (Za H l (.lst (is.map V.int)))):=by
 intro pins s σ H xs us Q I rv h;obtain⟨a,kvs,is,rfl,e,hk,q⟩:=h;obtain⟨u,rfl,ru⟩:=rv.one;cases ru;obtain⟨z,hd,vs,rel,dd⟩:=Hc I.hok e;obtain⟨ep,hat⟩:=dd.dictAt;have hl:vs.length=is.length:=by rw[<-rel.length,<-Ue (f:=λp:X6×V=>p.1),hk,Ue]
 have hkv:kvs.length=is.length:=by rw[rel.length,hl]
 refine kdl_call (kdl_dict (knd:=YY X.prog X.w) (kvs:=vs) (ep:=ep) hd) (I.ok.hd hc) hat (by rw[<-rel.length];exact z) λh' tk acc' c' kp hD hacc=>?_;refine⟨.ref s.heap.objs.size,_,I.laid (a:=s.heap.objs.size) (o:=.lst (is.map V.int)) (t':=tk) kp (Ug _) (show ObjOk X.prog X.w _ _ _ (.lst (is.map V.int)) from ⟨by rw[Ue,<-hkv];exact z,acc'.toList,c',?_,hD⟩),rfl,q _ (I.hok.fresh (Ug _))⟩;have key:∀(ws:List Value)(js:List Int),ws.length=js.length->(∀(j:Nat)(v:Value)(i:Int),ws[j]?=some v->js[j]?=some i->∃t,v=Value.int i t)->Vals (js.map V.int) ws:=by
  intro ws;induction ws with
  |nil=>intro js h1 _;cases js with
   |nil=>exact .nil|cons _ _=>cases h1
  |cons w ws ih=>
   intro js h1 h2;cases js with
   |nil=>cases h1|cons i js=>exact .cons (h2 0 w i rfl rfl) (ih js (by simpa using h1) λj v k a b=>h2 (j+1) v k a b)
 refine key _ _ (by rw[Uo,hacc.1,hl]) λj v i hv hi=>?_;obtain⟨k,x,hx,hkk⟩:=hacc.2 j v (by rw[<-Tr];exact hv);have h1:(vs.map (·.1))[j]?=some k:=by rw[UL,hx];rfl
 have hkeys:=Dx rel;rw[<-hkeys,hk,UL,hi]at h1;cases h1;exact Dw hkk
theorem PU:IxR X (λx y H Q=>∃a kvs k v,x=.ref a/\y=kV k/\H a=some (.dK kvs)/\Ej kvs k=some v/\Q v H):=by intro value slice pins s σ H x y v u Q I rx ry h hs;obtain⟨a,kvs,k,w,rfl,rfl,e,l,q⟩:=h;cases rx;obtain⟨z,hd,vs,rel,dd⟩:=Hc I.hok e;obtain⟨w',hw,rw'⟩:=RelO.some_of (v:=w) (o:=valueAt vs k) (by rw[<-l];exact rel.val k);exact tail_any dd.typeIs PySem.F.slot_dict_getitem.lookup (wpAny_getItem_of (L1 ry) dd.mapOf hw ⟨_,H,I.tok _,rw',q⟩) hs
end
section
variable{X:Cx}{ca:Nat->Addr}{a b e f o:Expr}{ma mb me mf mo:ME}{p pos apos:Pos}
theorem KRel.keys{K:Frag}{μ:List Addr}{H:Hp}{kv:List (X6×V)}{ks:List (X6×D)}(r:KRel K μ H kv ks):kv.map (·.1)=ks.map (·.1):=by
 unfold KRel at r;induction r with
 |nil=>rfl|cons h t ih=>rw[UH,UH,ih,h.1]
theorem Fs:∀{ks:List (X6×D)}{is:List Int},El ks=some is->ks.map (·.1)=is.map Sum.inl
 |[],_,h=>by cases h;rfl
 | (.inl i,_)::r,is,h=>by have h:(El r).map (i :: ·)=some is:=h;obtain⟨js,h1,h2⟩:=TW.mp h;subst h2;rw[UH,UH,Fs h1]
theorem gM(hc:X.calm=true)(hm:X.mg "list"=none)(he:Qs ca X e me)(hg:Gl X "list":=by exact Eq.refl (some _))(hs:starEach [e] X.env=[(false,eval e X.env)]:=by rfl)(hpl:(backTo pos (starEach [] X.env)).any (·.1)=false:=by exact Eq.refl false):
  Qs ca X (.Call (.Name "list" p) [e] [] pos) (Qi KU me):=
 Dg (NC (X:=xo X) hc) hm boot_list (λH μ g y d Q r q pp=>by
  unfold KU at pp;cases q with
  |@ref n t hn=>
   dsimp only at pp;cases hgn:g[n]? with
   |none=>rw[hgn]at pp;exact pp.elim|some ob=>
    rw[hgn]at pp;obtain⟨t',ht',orp⟩:=r.addr hgn;rw[hn]at ht';cases ht';cases ob with
    |dct ks=>
     obtain⟨kv,hH,q⟩:=orp;dsimp only at pp;cases hk:El ks with
     |none=>rw[hk]at pp;exact pp.elim|some is=>
      rw[hk]at pp;dsimp only at pp;by_cases z:is.length<=1000
      ·rw[Uf z]at pp;have e1:kv.map (·.1)=ks.map (·.1):=q.keys;exact⟨t,kv,is,rfl,hH,by rw[e1];exact Fs hk,λl hl=>pp _ _ (μ++[l]) (Q3 hl) (r.push hl ⟨_,Qr,L5 _⟩) (.ref (by rw[<-r.len];simp))⟩
      ·rw[Uh z]at pp;exact pp.elim
    |_=>exact pp.elim
  |_=>exact pp.elim) he hg (by decide) (by decide) hs hpl
theorem gN{x:Str}{id:String}{r:List V->Hp->VK->Prop}{h:D->D->G->Res D}(hc:YA (xo X) (.builtin id) r)(hm:X.mg x=none)(hv:bootBuiltins x=some (.builtin id))(hp:∀(H:Hp) (μ:List Addr) (g:G) (y z:V) (d c:D) (Q:VK),GRep X.K ca μ H g->Den X.K μ H y d->Den X.K μ H z c->Jg X.K ca Q H μ (h d c g)->r [y,z] H Q)(he:Qs ca X e me)(hf:Qs ca X f mf)(hg:Gl X x)(hn:x ≠"__name__")(hdb:(x==("__debug__" : Str))=false)(hs:starEach [e,f] X.env=(false,eval e X.env)::starEach [f] X.env)(hs2:starEach [f] X.env=(false,eval f X.env)::starEach [] X.env)(hpl:(backTo pos (starEach [f] X.env)).any (·.1)=false):Qs ca X (.Call (.Name x p) [e,f] [] pos) (Qc h me mf):=
 QZ (VG (X:=xo X) hc hg hm hv (ZN he (ZN hf JW hs2) hs) hn hdb hs hpl) λσ H Q hQ=>by
  obtain⟨σ3,g,μ,R,q⟩:=hQ;refine⟨σ3,g,μ,R,?_⟩;unfold Qc at q;unfold Qb Qd;cases hm:me σ3 g with
  |stuck=>rw[hm]at q;exact q.elim|ok d g1=>
   rw[hm,Res.bind_ok]at q;rw[Res.bind_ok];cases hm2:mf σ3 g1 with
   |stuck=>rw[hm2]at q;exact q.elim|ok c g2=>
    rw[hm2,Res.bind_ok]at q;rw[Res.bind_ok,Res.bind_ok,Res.bind_ok];intro vs H1 μ1 e1 r1 q1;cases q1 with
    |cons h1 h2=>cases h2 with
     |cons h2 h3 =>cases h3;exact hp H1 μ1 g2 _ _ d c Q r1 h1 h2 (q.go e1)
theorem gO(hc:X.calm=true)(hm:X.mg "min"=none)(he:Qs ca X e me)(hf:Qs ca X f mf)(hg:Gl X "min":=by exact Eq.refl (some _))(hs:starEach [e,f] X.env=(false,eval e X.env)::starEach [f] X.env:=by rfl)(hs2:starEach [f] X.env=(false,eval f X.env)::starEach [] X.env:=by rfl)(hpl:(backTo pos (starEach [f] X.env)).any (·.1)=false:=by exact Eq.refl false):
  Qs ca X (.Call (.Name "min" p) [e,f] [] pos) (Qc L4 me mf):=
 gN (MY (X:=xo X) hc) hm boot_min (λH μ g y z d c Q r q1 q2 pp=>by
  unfold L4 at pp;cases q1 with
  |int i=>
   cases q2 with
   |int j=>exact⟨i,j,rfl,pp _ H μ .refl r (.int _)⟩|_=>exact pp.elim
  |_=>cases q2<;>exact pp.elim) he hf hg (by decide) (by decide) hs hs2 hpl
theorem PV(ho:Qs ca X o mo)(he:Qs ca X e me)(hbase:attributeBase o "extend" X.env (eval o X.env)=eval o X.env:=by rfl)(hfew:((backTo pos (starEach [e] X.env)).all (λx=>!x.1)&&(backToKw pos (keywordEach [] X.env)).all (λx=>x.1.isSome)&&decide ([e].length+([]:List Keyword).length+(if ([]:List Keyword).isEmpty then 0 else 1)<30))=true:=by exact Eq.refl true)(hline:(apos.endLine==pos.line)=true:=by exact Eq.refl true)(hs:starEach [e] X.env=(false,eval e X.env)::starEach [] X.env:=by rfl)(hplain:(backTo pos (starEach [] X.env)).any (·.1)=false:=by exact Eq.refl false):
  Qs ca X (.Call (.Attribute o "extend" apos) [e] [] pos) (CB mo me):=
 QZ (OL (X:=xo X) Wx PySem.F.slot_list_extend PySem.F.type_list_extend Nc ho (ZN he JW hs) hbase hfew hline hs hplain) λσ H Q ⟨σ3,g,μ,R,q⟩=>QC (Zl R q) λx H1 hQ=>by
  obtain⟨d,g1,μ1,e1,R1,q1,p1⟩:=hQ;cases q1 with
  |@ref n t hn=>
   dsimp only at p1;cases hgn:g1[n]? with
   |none=>rw[hgn]at p1;exact p1.elim|some ob=>
    rw[hgn]at p1;obtain⟨t',ht',orp⟩:=R1.g.addr hgn;rw[hn]at ht';cases ht';cases ob with
    |lst ds0=>
     obtain⟨vs0,hH0,_⟩:=orp;dsimp only at p1;refine⟨.inl ⟨rfl,_,.of hH0⟩,σ3,g1,μ1,R1,?_⟩;unfold Qb Qd;cases hm:me σ3 g1 with
     |stuck=>rw[hm]at p1;exact p1.elim|ok y g2=>
      rw[hm,Res.bind_ok]at p1;rw[Res.bind_ok,Res.bind_ok];intro vs H2 μ2 e2 r2 q2;cases q2 with
      |cons h1 h2=>
       cases h2;cases h1 with
       |@ref m c hmm=>
        dsimp only at p1;cases hg2:g2[n]? with
        |none=>rw[hg2]at p1;exact p1.elim|some ob2=>
         cases hg3:g2[m]? with
         |none=>rw[hg2,hg3]at p1;cases ob2<;>exact p1.elim|some ob3=>
          rw[hg2,hg3]at p1;obtain⟨t',ht',orp⟩:=r2.addr hg2;rw[e2.at hn]at ht';cases ht';obtain⟨c',hc',orp3⟩:=r2.addr hg3;rw[hmm]at hc';cases hc';cases ob2 with
          |lst ds=>
           cases ob3 with
           |lst es=>
            obtain⟨ws,hH,qs⟩:=orp;obtain⟨zs,hH3,qz⟩:=orp3;dsimp only at p1;by_cases z:n≠m/\ds.length+es.length<=SZ
            ·rw[Uf z]at p1;have ex:Ext X.K μ2 H2 μ2 (Za H2 t (.lst (ws++zs))):=Z4 hH (by intro _ z;cases z) (by intro _ _ z;cases z);refine⟨t,c,ws,zs,rfl,rfl,hH,hH3,by rw[qs.length,qz.length];exact Uk z.2 Z5,p1 _ _ μ2 (e2.trans ex) ?_ .non⟩;exact r2.set (e2.at hn) hH (by intro _ z;cases z) (by intro _ _ z;cases z) ⟨_,Qr,(qs.mono ex).append (qz.mono ex)⟩
            ·rw[Uh z]at p1;exact p1.elim
           |_=>exact p1.elim
          |_=>cases ob3<;>exact p1.elim
       |_=>exact p1.elim
    |_=>exact p1.elim
  |_=>exact p1.elim
theorem NE(hc:X.calm=true):YA X (.builtin "min") (λxs H Q=>∃(a:Addr)(ns:List Int)(M:Int),xs=[.ref a]/\SqL X.K H a (ns.map V.int)/\Kt ns=some M/\Q (.int M) H):=by
 intro pins s σ H xs us Q I rv h;obtain⟨a,ns,M,rfl,hq,hM,q⟩:=h;obtain⟨u,rfl,ru⟩:=rv.one;cases ru;obtain⟨its,r,pl,hz⟩:=I.list hq;have hi:=CQ r;obtain⟨m1,m2⟩:=Em hM;obtain⟨xs,hxs⟩:=hi.allInts.items;have hl:=pl.isList;rw[hxs]at hl;have hns:numsOf (intItems xs).toList=ns:=by rw[<-hxs];exact hi.numsOf
 rw[nums_intItems]at hns;have hlen:xs.size=ns.length:=by rw[<-hns,Ue,Uo]
 have hsz:0<xs.size:=by rw[hlen];exact B9 m1
 refine min_intList (I.ok.hd hc) hl hsz λv h' tk hv hk=>?_;obtain⟨t,rfl⟩:=intItems_at hv;obtain⟨h1,h2⟩:=argBest_lt (numAt xs) (xs.size-1);have e:numAt xs (argBest (λi j=>decide (numAt xs i<numAt xs j)) (xs.size-1))=M:=by
  have b1:numAt xs (argBest (λi j=>decide (numAt xs i<numAt xs j)) (xs.size-1))∈ns:=by rw[<-hns,numAt_eq];exact getD_mem (by rw[Ue,Uo];omega)
  have b2:numAt xs (argBest (λi j=>decide (numAt xs i<numAt xs j)) (xs.size-1))<=M:=by rw[<-hns]at m1;obtain⟨j,hj,e⟩:=mem_getD m1;rw[Ue,Uo]at hj;rw[<-e,<-numAt_eq];exact h2 j (by omega)
  have b3:=m2 _ b1;omega
 exact⟨.int M,H,I.kept hk,⟨t,by rw[<-e]⟩,q⟩
theorem NF(hc:X.calm=true):YA X (.builtin "max") (λxs H Q=>∃(a:Addr)(ns:List Int)(M:Int),xs=[.ref a]/\SqL X.K H a (ns.map V.int)/\Ku ns=some M/\Q (.int M) H):=by
 intro pins s σ H xs us Q I rv h;obtain⟨a,ns,M,rfl,hq,hM,q⟩:=h;obtain⟨u,rfl,ru⟩:=rv.one;cases ru;obtain⟨its,r,pl,hz⟩:=I.list hq;have hi:=CQ r;obtain⟨m1,m2⟩:=En hM;obtain⟨xs,hxs⟩:=hi.allInts.items;have hl:=pl.isList;rw[hxs]at hl;have hns:numsOf (intItems xs).toList=ns:=by rw[<-hxs];exact hi.numsOf
 rw[nums_intItems]at hns;have hlen:xs.size=ns.length:=by rw[<-hns,Ue,Uo]
 have hsz:0<xs.size:=by rw[hlen];exact B9 m1
 refine max_intList (I.ok.hd hc) hl hsz λv h' tk hv hk=>?_;obtain⟨t,rfl⟩:=intItems_at hv;obtain⟨h1,h2⟩:=argBest_gt (numAt xs) (xs.size-1);have e:numAt xs (argBest (λi j=>decide (numAt xs i>numAt xs j)) (xs.size-1))=M:=by
  have b1:numAt xs (argBest (λi j=>decide (numAt xs i>numAt xs j)) (xs.size-1))∈ns:=by rw[<-hns,numAt_eq];exact getD_mem (by rw[Ue,Uo];omega)
  have b2:numAt xs (argBest (λi j=>decide (numAt xs i>numAt xs j)) (xs.size-1))>=M:=by rw[<-hns]at m1;obtain⟨j,hj,e⟩:=mem_getD m1;rw[Ue,Uo]at hj;rw[<-e,<-numAt_eq];exact h2 j (by omega)
  have b3:=m2 _ b1;omega
 exact⟨.int M,H,I.kept hk,⟨t,by rw[<-e]⟩,q⟩
theorem Eo{Z:List Int->Option Int}{f:D->G->Res D}{H:Hp}{μ:List Addr}{g:G}{y:V}{d:D}{Q:VK}(hf:∀x g,f x g=match x with
  |.ref n=>(match g[n]? with
   |some (.lst ds)=>(match Ve ds with
    |some is=>(match Z is with
     |some i=>.ok (.int i) g|none=>.stuck)
    |none=>.stuck)
   |_=>.stuck)
  |_=>.stuck)(r:GRep X.K ca μ H g)(q:Den X.K μ H y d)(pp:Jg X.K ca Q H μ (f d g)):∃(a:Addr)(ns:List Int)(M:Int),[y]=[V.ref a]/\SqL X.K H a (ns.map V.int)/\Z ns=some M/\Q (.int M) H:=by
 rw[hf]at pp;cases q with
 |@ref n t hn=>
  dsimp only at pp;cases hgn:g[n]? with
  |none=>rw[hgn]at pp;exact pp.elim|some ob=>
   rw[hgn]at pp;obtain⟨t',ht',orp⟩:=r.addr hgn;rw[hn]at ht';cases ht';cases ob with
   |lst ds=>
    obtain⟨vs,hH,q⟩:=orp;dsimp only at pp;cases hi:Ve ds with
    |none=>rw[hi]at pp;exact pp.elim|some is=>
     rw[hi]at pp;dsimp only at pp;cases hz:Z is with
     |none=>rw[hz]at pp;exact pp.elim|some M =>rw[hz]at pp;have ew:=Fo q hi;subst ew;exact⟨t,is,M,rfl,.of hH,hz,pp _ H μ .refl r (.int _)⟩
   |_=>exact pp.elim
 |_=>exact pp.elim
theorem gP(hc:X.calm=true)(hm:X.mg "min"=none)(he:Qs ca X e me)(hg:Gl X "min":=by exact Eq.refl (some _))(hs:starEach [e] X.env=[(false,eval e X.env)]:=by rfl)(hpl:(backTo pos (starEach [] X.env)).any (·.1)=false:=by exact Eq.refl false):
  Qs ca X (.Call (.Name "min" p) [e] [] pos) (Qi He me):=Eg (r:=λxs H Q=>∃(a:Addr)(ns:List Int)(M:Int),xs=[V.ref a]/\SqL X.K H a (ns.map V.int)/\Kt ns=some M/\Q (.int M) H) (NE (X:=xo X) hc) hm boot_min (λH μ g y d Q r q pp=>Eo (λ_ _=>rfl) r q pp) he hg (by decide) (by decide) hs hpl
theorem gQ(hc:X.calm=true)(hm:X.mg "max"=none)(he:Qs ca X e me)(hg:Gl X "max":=by exact Eq.refl (some _))(hs:starEach [e] X.env=[(false,eval e X.env)]:=by rfl)(hpl:(backTo pos (starEach [] X.env)).any (·.1)=false:=by exact Eq.refl false):
  Qs ca X (.Call (.Name "max" p) [e] [] pos) (Qi Hf me):=Eg (r:=λxs H Q=>∃(a:Addr)(ns:List Int)(M:Int),xs=[V.ref a]/\SqL X.K H a (ns.map V.int)/\Ku ns=some M/\Q (.int M) H) (NF (X:=xo X) hc) hm boot_max (λH μ g y d Q r q pp=>Eo (λ_ _=>rfl) r q pp) he hg (by decide) (by decide) hs hpl
end
end L3
namespace L3
open PySem
abbrev Ja:=Sum (List Int) (List Int×Int×Int×List Int)
def YF(ks:List (Ja×D))(k:Ja):Option D:=(ks.find? λp=>decide (p.1=k)).map (·.2)
def Va(ks:List (Ja×D))(k:Ja)(v:D):List (Ja×D):=if (YF ks k).isSome then ks.map λp=>if p.1=k then (p.1,v) else p else ks++[(k,v)]
def Ym(τ:Bool):ME:=λ_ g=>.ok (.ref g.length) (g++[.dcn τ []])
def iY(x y:D)(g:G)(f:List (Ja×D)->Ja->Res D):Res D:=match y with
 |.ref n=>(match g[n]? with
  |some (.dcn τ ks)=>(match Yl τ x with
   |some k=>f ks k|none=>.stuck)
  |_=>.stuck)
 |_=>.stuck
def ZP(x y:D)(g:G):Res D:=iY x y g λks k=>.ok (.bl (!(YF ks k).isSome)) g
def XI(o k v:ME):MS:=λσ g=>match v σ g with
 |.ok y g1=>(match o σ g1 with
  |.ok (.ref n) g2=>(match k σ g2 with
   |.ok d g3=>(match g3[n]? with
    |some (.dcn τ ks)=>(match Yl τ d with
     |some k=>if ks.length<SZ then .nx σ (g3.set n (.dcn τ (Va ks k y))) else .stuck
     |none=>.stuck)
    |_=>.stuck)
   |_=>.stuck)
  |_=>.stuck)
 |.stuck=>.stuck
open PySem.Spec PyProof.Rows L2
section
variable{X:Cx}{pins:YM}{σ:L2.St}{H:Hp}{s:Shared}{μ:List Addr}
theorem L6(I:Inv X pins σ H s)(h:SqT X.K H a vs):∃its,Vals vs its/\NK.Tp s.heap a its:=by obtain⟨its,rv,⟨o,ho,hc,n,hd⟩,_⟩:=I.tuple h;exact⟨its,rv,o,_,n,ho,hc,hd,by simp⟩
theorem Dy:∀{ks:List Int}{vs:List V}{its:List Value},Dens X.K μ H vs (ks.map .int)->Vals vs its->NK.Al ((NK.intV X.prog X.w).is s.heap) ks its:=by
 intro ks;induction ks with
 |nil=>intro _ _ q r;cases q;cases r;exact .nil|cons i r ih=>
  intro _ _ q r;cases q with
  |cons q qs=>cases r with
   |cons rv rvs =>cases q;obtain⟨t,rfl⟩:=rv;exact .cons (show Value.isInt i (.int i t)=true by simp[Value.isInt]) (ih qs rvs)
theorem F8(I:Inv X pins σ H s)(q:Den X.K μ H v (.tup (ks.map .int)))(rv:RelV v u):(NK.lstV (NK.intV X.prog X.w)).is s.heap ks u:=by
 cases q with
 |tup ht hs =>cases rv;obtain⟨its,r1,r2⟩:=L6 I ht;exact⟨_,its,rfl,r2,Dy hs r1⟩
theorem Z6(I:Inv X pins σ H s)(q:Den X.K μ H v d)(rv:RelV v u)(h:Yl τ d=some k):(NK.tagV X.prog X.w τ).is s.heap k u:=by
 obtain⟨rfl,rfl⟩:=Ph h;rcases k with g|⟨x,p',q',y⟩
 ·exact⟨rfl,F8 I q rv⟩
 ·change Den _ _ _ _ (.tup _) at q;cases q with
  |tup ht hs=>
   cases rv;obtain⟨its,r1,r2⟩:=L6 I ht;cases hs with
   |cons q1 hs=>cases hs with
    |cons q2 hs=>cases hs with
     |cons q3 hs=>cases hs with
      |cons q4 hs=>
       cases hs;cases q2;cases q3;cases r1 with
       |cons v1 r1=>cases r1 with
        |cons v2 r1=>cases r1 with
         |cons v3 r1=>cases r1 with
          |cons v4 r1 =>cases r1;obtain⟨t2,rfl⟩:=v2;obtain⟨t3,rfl⟩:=v3;exact⟨rfl,_,_,_,_,_,rfl,r2,F8 I q1 v1,(show Value.isInt p' (.int p' t2)=true by simp[Value.isInt]),(show Value.isInt q' (.int q' t3)=true by simp[Value.isInt]),F8 I q4 v4⟩
theorem NRel.mem{K:Frag}{τ:Bool}{xs:List (NK.SK×Addr×Value)}{ks:List (NK.SK×D)}(h:NRel K τ μ H xs ks):∀x∈xs,∃d,Yl τ d=some x.1/\Den K μ H (.ref x.2.1) d:=by
 unfold NRel at h;induction h with
 |nil=>intro x hx;cases hx|cons a _ ih=>intro x hx;rcases UG.mp hx with rfl|z;exact a.2.1;exact ih x z
theorem NRel.get{K:Frag}{τ:Bool}{xs:List (NK.SK×Addr×Value)}{ks:List (NK.SK×D)}(h:NRel K τ μ H xs ks)(k:NK.SK):(atKey xs k=none/\YF ks k=none)\/∃p d v,atKey xs k=some p/\YF ks k=some d/\RelV v p.2/\Den K μ H v d:=by
 unfold NRel at h;induction h with
 |nil=>exact .inl ⟨rfl,rfl⟩|@cons x q l1 l2 a _ ih=>
  unfold atKey YF at ih ⊢;rw[Td,Td];obtain⟨e,_,v,r1,r2⟩:=a;by_cases hk:x.1=k
  ·rw[Us hk,Us (e ▸ hk)];exact .inr ⟨_,_,v,rfl,rfl,r1,r2⟩
  ·rw[Uv hk,Uv (λz=>hk (e.trans z))];exact ih
theorem NRel.isSome{K:Frag}{τ:Bool}{xs:List (NK.SK×Addr×Value)}{ks:List (NK.SK×D)}(h:NRel K τ μ H xs ks)(k:NK.SK):(atKey xs k).isSome=(YF ks k).isSome:=by rcases h.get k with⟨a,b⟩|⟨p,d,v,a,b,_⟩<;>rw[a,b]<;>rfl
theorem NRel.put{K:Frag}{τ:Bool}{xs:List (NK.SK×Addr×Value)}{ks:List (NK.SK×D)}{k:NK.SK}{a:Addr}{u:Value}{v:V}{dk dv:D}(h:NRel K τ μ H xs ks)(hk:Yl τ dk=some k)(hd:Den K μ H (.ref a) dk)(rv:RelV v u)(hv:Den K μ H v dv):NRel K τ μ H (storedH xs k a u) (Va ks k dv):=by
 have mp:NRel K τ μ H (xs.map (putAt k u)) (ks.map λp=>if p.1=k then (p.1,dv) else p):=by
  unfold NRel at h ⊢;induction h with
  |nil=>exact .nil|@cons x q l1 l2 b _ ih=>
   refine .cons ?_ ih;obtain⟨e,b2,b3⟩:=b;unfold putAt;dsimp only;by_cases z:x.1=k
   ·rw[Uf z,Uf (e ▸ z)];exact⟨e,b2,v,rv,hv⟩
   ·rw[Uh z,Uh (λw=>z (e.trans w))];exact⟨e,b2,b3⟩
 unfold storedH Va;rw[h.isSome k];split
 ·exact mp
 ·exact Paired.snoc h ⟨rfl,⟨dk,hk,hd⟩,v,rv,hv⟩
theorem CC{τ:Bool}{t:Addr}{xs:List (NK.SK×Addr×Value)}{ks:List (NK.SK×D)}(I:Inv X pins σ H s)(e:H t=some (ND t xs))(r:NRel X.K τ μ H xs ks)(hn:(xs.map (·.1)).Nodup):s.heap.DictOfH (NK.tagK X.prog X.w τ) t xs:=by obtain⟨⟨o,es,ep,ho,hc,hd,he⟩,_⟩:=(show ObjOk X.prog X.w H s.heap t (.ext (NK.DObj t xs)) from I.hok t _ e);refine⟨o,es,ep,ho,hc,hd,by rw[he];exact NK.ents_eq _ _ _ _,λx hx=>?_,hn⟩;obtain⟨d,h1,h2⟩:=r.mem x hx;exact Z6 I h2 rfl h1
theorem JY{A:Around}{τ:Bool}(hu:A.units+16<cLine):(NK.tagK X.prog X.w τ).room A.in1:=show A.units+1+2<cLine by omega
def rN(K:Frag)(ca:Nat->Addr)(x y:V)(H:Hp)(Q:Bool->G->List Addr->Addr->List (NK.SK×D)->NK.SK->Prop):Prop:=∃(g:G)(μ:List Addr)(dx:D)(n:Nat)(t:Addr)(τ:Bool)(ks:List (NK.SK×D))(k:NK.SK),GRep K ca μ H g/\Den K μ H x dx/\Yl τ dx=some k/\y=.ref t/\μ[n]?=some t/\g[n]?=some (.dcn τ ks)/\Q τ g μ t ks k
theorem Xk{K:Frag}{τ:Bool}{x:V}{d:D}{k:NK.SK}(q:Den K μ H x d)(h:Yl τ d=some k):∃a,x=.ref a:=by obtain⟨rfl,_⟩:=Ph h;rcases k with g|c<;>(change Den _ _ _ _ (.tup _) at q;cases q;exact⟨_,rfl⟩)
end
section
variable{X:Cx}{ca:Nat->Addr}
theorem NG(hu:X.A.units+16<cLine):OpR X (compareOp .NotIn) (λx y H Q=>rN X.K ca x y H λ_ _ _ _ ks k=>Q (.bl (!(YF ks k).isSome)) H):=by intro pins s σ H x y v u Q I rx ry h;obtain⟨g,μ,dx,n,t,τ,ks,k,r,q,hk,rfl,hn,hg,hQ⟩:=h;obtain⟨a,rfl⟩:=Xk q hk;cases rx;cases ry;obtain⟨t',ht',xs,hH,nr,nd,hs⟩:=r.addr hg;rw[hn]at ht';cases ht';refine wpAny_notIn_heap (knd:=NK.tagK X.prog X.w τ) (JY hu) (Z6 I q rfl hk) hs (CC I hH nr nd) ?_;rw[nr.isSome k];exact⟨.bl _,H,I.tok _,rfl,hQ⟩
theorem Hg(x:NK.DObj a xs h):ObjOk P w H' h a (ND a xs):=by refine show NK.DObj a xs h/\_ from ⟨x,let ⟨o,_,_,ho,_⟩:=x;⟨o,ho⟩,λh1 h2 y k=>?_⟩;obtain⟨o,es,ep,ho,r⟩:=y;exact⟨o,es,ep,k o ho,r⟩
theorem nE(hu:X.A.units+16<cLine):AA X (λo i v H Q=>rN X.K ca i o H λτ _ μ t ks k=>∃dv,Den X.K μ H v dv/\ks.length<SZ/\∀xs',NRel X.K τ μ (Za H t (ND t xs')) xs' (Va ks k dv)->(xs'.map (·.1)).Nodup->(t==sysModules)=false->Q (Za H t (ND t xs'))):=by intro pins s σ H o i v ov iv u Q I ro ri rv h;obtain⟨g,μ,dx,n,t,τ,ks,k,r,q,hk,rfl,hn,hg,dv,hv,hz,hQ⟩:=h;obtain⟨a,rfl⟩:=Xk q hk;cases ro;cases ri;obtain⟨t',ht',xs,hH,nr,nd,hs⟩:=r.addr hg;rw[hn]at ht';cases ht';have dd:=CC I hH nr nd;have hl:xs.length=ks.length:=Paired.length nr;refine wpAny_setItem_heap (hsz:=by rw[hl];exact Rf (UA hz Z5)) (knd:=NK.tagK X.prog X.w τ) (JY hu) (Z6 I q rfl hk) dd λh' dd' hs'=>?_;obtain⟨o,es,ep,ho,hc,hd,he,_,nd'⟩:=dd';have ex:Ext X.K μ H μ (Za H t (ND t (storedH xs k a u))):=Z4 hH (λ_ z=>by unfold ND at z;cases z) (λ_ _ z=>by unfold ND at z;cases z);refine⟨_,CA I (by rw[hH];exact True.intro) hs' ⟨o,ho⟩ (Hg ⟨o,es,ep,ho,hc,hd,by rw[he];exact(NK.ents_eq _ _ _ _).symm⟩),hQ _ ?_ nd' hs⟩;exact(nr.mono ex).put hk (q.mono ex) rv (hv.mono ex)
theorem PX:PE X (.Dict [] [] pos) (λ_ H Q=>∀p,H p=none->(p==sysModules)=false->Q (.ref p) (Za H p (ND p []))):=λpins s σ H Q I h=>by obtain⟨_,hd,vs,rel,o,es,ep,ho,hc,hdat,_,hp,_⟩:=(show ObjOk X.prog X.w H _ _ (.dK []) from VY s.heap I.big);cases rel;have he:es.toList=[]:=BV.mp hp.length;exact wpAny_Dict_empty ⟨.ref s.heap.objs.size,_,I.laid (a:=s.heap.objs.size) (o:=ND s.heap.objs.size []) (t':=s.toks) (λ_ _ q=>Ub _ q) (Ug _) (Hg ⟨o,es,ep,ho,hc,hdat,he⟩),rfl,h _ (I.hok.fresh (Ug _)) hd⟩
end
section
variable{X:Cx}{ca:Nat->Addr}{a b o e:Expr}{ma mb mo me:ME}{pos:Pos}{k:Nat}
theorem Dz(τ:Bool):Qs ca X (.Dict [] [] pos) (Ym τ):=QZ (PX (X:=xo X)) λσ H Q ⟨σ3,g,μ,R,q⟩=>λt ht hs=>q _ _ (μ++[t]) (Q3 ht) (R.g.push ht ⟨[],Qr,.nil,.nil,hs⟩) (.ref (by rw[<-R.g.len];simp))
theorem gR{K:Frag}{H:Hp}{μ:List Addr}{g:G}{x y:V}{dx dy:D}{Q:VK}{f:List (NK.SK×D)->NK.SK->Res D}(r:GRep K ca μ H g)(qx:Den K μ H x dx)(qy:Den K μ H y dy)(p:Jg K ca Q H μ (iY dx dy g f)):rN K ca x y H λ_ g' μ' _ ks k=>g'=g/\μ'=μ/\Jg K ca Q H μ (f ks k):=by
 unfold iY at p;cases qy with
 |@ref n t hn=>
  dsimp only at p;cases hg:g[n]? with
  |none=>rw[hg]at p;exact p.elim|some ob=>
   rw[hg]at p;cases ob with
   |dcn τ ks=>
    dsimp only at p;cases hk:Yl τ dx with
    |none=>rw[hk]at p;exact p.elim|some k=>rw[hk]at p;exact⟨g,μ,dx,n,t,τ,ks,k,r,qx,hk,rfl,hn,hg,rfl,rfl,p⟩
   |_=>exact p.elim
 |_=>exact p.elim
theorem rN.imp{K:Frag}{x y:V}{H:Hp}{P Q:Bool->G->List Addr->Addr->List (NK.SK×D)->NK.SK->Prop}(h:rN K ca x y H P)(i:∀τ g μ t ks k,GRep K ca μ H g->P τ g μ t ks k->Q τ g μ t ks k):rN K ca x y H Q:=by obtain⟨g,μ,dx,n,t,τ,ks,k,r,q1,q2,q3,q4,q5,q6⟩:=h;exact⟨g,μ,dx,n,t,τ,ks,k,r,q1,q2,q3,q4,q5,i _ _ _ _ _ _ r q6⟩
theorem Hh{K:Frag}:Yd K ca (λx y H Q=>rN K ca x y H λ_ _ _ _ ks k=>Q (.bl (!(YF ks k).isSome)) H) ZP:=by intro H μ g x y dx dy Q r qx qy p;exact(gR r qx qy p).imp λτ g' μ' t ks k r' ⟨e1,e2,p⟩=>by subst e1 e2;exact p _ H μ' .refl r' (.bl _)
theorem NH(hr:Room k X.A)(ha:Qs ca X a ma)(hb:Qs ca X b mb)(hm:behindInMarks .NotIn b=false:=by exact Eq.refl false):B3 ca X (.Compare a [.NotIn] [b] pos) (Qf (Qc ZP ma mb)):=JB (NG (X:=xo X) (by have:=hr.units;show X.A.units+16<cLine;omega)) Hh ha hb hm
theorem DA{i:Expr}{mi:ME}{pos':Pos}(hr:Room k X.A)(ho:Qs ca X o mo)(hi:Qs ca X i mi)(he:Qs ca X e me)(hs:swapsWithSole [.Subscript o i pos'] e pos.line X.env=pure false:=by rfl)(hw:swappedStores [.Subscript o i pos'] e X.env=pure none:=by rfl)(h1:(assignEach [.Subscript o i pos'] X.env).map (·.2)=[assign (.Subscript o i pos') X.env]:=by rfl)(ha:∀v,assign (.Subscript o i pos') X.env v=(do
   let ov <-holding [v] (eval o X.env)
   let iv <-holding [v,ov] (eval i X.env)
   standAt pos'
   holding [v,ov,iv] (setItem ov iv v)
   release [v,ov,iv] []):=by intro _;rfl):F2 ca X (.Assign [.Subscript o i pos'] e pos) (XI mo mi me):=
 ZO (FK (X:=xo X) he (Io (X:=xo X) ho hi (nE (ca:=ca) (by have:=hr.units;show X.A.units+16<cLine;omega)) ha) hs hw h1) λE σ H ⟨σ3,g,μ,R,p⟩=>⟨σ3,g,μ,R,by
  unfold XI at p;cases hm:me σ3 g with
  |ok y g1=>
   rw[hm]at p;dsimp only at p;intro vy H1 μ1 e1 r1 q1;refine⟨σ3,g1,μ1,R.go e1 r1,?_⟩;cases hm2:mo σ3 g1 with
   |ok d g2=>
    rw[hm2]at p;intro vx H2 μ2 e2 r2 q2;cases q2 with
    |@ref n a hn=>
     dsimp only at p;refine⟨σ3,g2,μ2,R.go (e1.trans e2) r2,?_⟩;cases hm3:mi σ3 g2 with
     |ok di g3=>
      rw[hm3]at p;intro vi H3 μ3 e3 r3 q3;dsimp only at p;cases hg:g3[n]? with
      |none=>rw[hg]at p;exact p.elim|some ob=>
       rw[hg]at p;cases ob with
       |dcn τ ks=>
        dsimp only at p;cases hk:Yl τ di with
        |none=>rw[hk]at p;exact p.elim|some k=>
         rw[hk]at p;dsimp only at p;by_cases z:ks.length<SZ
         ·rw[Uf z]at p;refine⟨g3,μ3,di,n,a,τ,ks,k,r3,q3,hk,rfl,e3.at hn,hg,y,(q1.mono e2).mono e3,z,λxs' nr nd hsm=>?_⟩;obtain⟨a',ha',xs,hH,_⟩:=r3.addr hg;rw[e3.at hn]at ha';cases ha';have ex:Ext X.K μ3 H3 μ3 (Za H3 a (ND a xs')):=Z4 hH (λ_ z=>by unfold ND at z;cases z) (λ_ _ z=>by unfold ND at z;cases z);refine p σ _ μ3 (((e1.trans e2).trans e3).trans ex) ((R.go ((e1.trans e2).trans e3) r3).go ex ?_);exact r3.set (e3.at hn) hH (λ_ z=>by unfold ND at z;cases z) (λ_ _ z=>by unfold ND at z;cases z) ⟨xs',Qr,nr,nd,hsm⟩
         ·rw[Uh z]at p;exact p.elim
       |_=>exact p.elim
     |stuck=>rw[hm3]at p;exact p
    |_=>exact p.elim
   |stuck=>rw[hm2]at p;exact p
  |stuck=>rw[hm]at p;exact p⟩
end
end L3
namespace L3
open PySem
def Hi(o k x:ME)(f:Nat->Bool->List (Ja×D)->Ja->D->G->Res D):ME:=λσ g=>(o σ g).bind λa g1=>match a with
 |.ref n=>(match g1[n]? with
  |some (.dcn _ _)=>(k σ g1).bind λy g2=>(x σ g2).bind λz g3=>(match g3[n]? with
   |some (.dcn τ ks)=>(match Yl τ y with
    |some k=>f n τ ks k z g3|none=>.stuck)
   |_=>.stuck)
  |_=>.stuck)
 |_=>.stuck
def F9(o k x:ME):ME:=Hi o k x λ_ _ ks k z g=>.ok ((YF ks k).getD z) g
def Y4(o k x:ME):ME:=Hi o k x λn τ ks k z g=>if ks.length<SZ then (match YF ks k with
 |some v=>.ok v g|none=>.ok z (g.set n (.dcn τ (ks++[(k,z)])))) else .stuck
open PySem.Spec PyProof.Rows L2
section
variable{X:Cx}{ca:Nat->Addr}{o e:Expr}{es:List Expr}{to:TE}{t:TA}{name:Str}{apos cpos:Pos}{id:String}{r:V->List V->Hp->VK->Prop}
theorem gS(slot:Slot "dict" name id)(hty:typeOf (.builtin id)=pure (.type "method_descriptor"))(hm:dB X id r)(ho:PE X o to)(ha:PA X (e::es) t)(hbase:attributeBase o name X.env (eval o X.env)=eval o X.env)(hfew:((backTo cpos (starEach (e::es) X.env)).all (λx=>!x.1)&&(backToKw cpos (keywordEach [] X.env)).all (λx=>x.1.isSome)
   && decide ((e::es).length+([]:List Keyword).length+(if ([]:List Keyword).isEmpty then 0 else 1)<30))=true)(hline:(apos.endLine==cpos.line)=true)(hs:starEach (e::es) X.env=(false,eval e X.env)::starEach es X.env)(hplain:(backTo cpos (starEach es X.env)).any (·.1)=false):
  PE X (.Call (.Attribute o name apos) (e::es) [] cpos) (λσ H Q=>to σ H λx H1=>(∃p xs,x=.ref p/\H1 p=some (ND p xs))/\t σ H1 λvs H2=>r x vs H2 Q):=by
 intro pins s σ H Q I h;refine wpAny_Call_method_late hbase hfew hline rfl (Zx (ho pins s σ H _ I h) λv s1 ⟨x,H1,I1,r1,ty,q1⟩=>?_);obtain⟨p,xs,rfl,hp⟩:=ty;have r1':=r1;cases r1;obtain⟨⟨ob,ens,ep,hob,hc,hd,he⟩,_⟩:=(show ObjOk X.prog X.w H1 s1.heap p (.ext (NK.DObj p xs)) from I1.hok p _ hp);refine⟨"dict",id,Wy,slot,hty,⟨ob,hob,hc.1⟩,λa e=>by cases e;exact⟨ob,hob,hc.2.1⟩,?_⟩;have hA:=ha cpos pins s1 σ H1 _ I1 q1;rw[hs]at hA ⊢;refine RS (by show(false||(backTo cpos (starEach es X.env)).any (·.1))=false;rw[hplain]<;>rfl) (Calls.evalArgs_plain ?_);exact Zx hA λus s2 ⟨vs,H2,I2,r2,q2⟩=>hm pins s2 σ H2 _ vs _ us Q I2 r1' r2 q2
abbrev bH(K:Frag)(ca:Nat->Addr):V->List V->Hp->VK->Prop:=λx vs H Q=>∃kv dv,vs=[kv,dv]/\rN K ca kv x H λ_ _ μ _ ks k=>(∀d v,YF ks k=some d->Den K μ H v d->Q v H)/\(YF ks k=none->Q dv H)
abbrev bI(K:Frag)(ca:Nat->Addr):V->List V->Hp->VK->Prop:=λx vs H Q=>∃kv dv,vs=[kv,dv]/\rN K ca kv x H λτ _ μ t ks k=>ks.length<SZ/\(∀d v,YF ks k=some d->Den K μ H v d->Q v H)/\(YF ks k=none->∃dd,Den K μ H dv dd/\∀xs',NRel K τ μ (Za H t (ND t xs')) xs' (ks++[(k,dd)])->(xs'.map (·.1)).Nodup->(t==sysModules)=false->Q dv (Za H t (ND t xs')))
theorem DB(hu:X.A.units+16<cLine):dB X "dict.get" (bH X.K ca):=by
 intro pins s σ H x vs v us Q I rx rv h;obtain⟨kv,dv,rfl,g,μ,dx,n,t,τ,ks,k,r,q,hk,rfl,hn,hg,hQ,hQ2⟩:=h;obtain⟨a,rfl⟩:=Xk q hk;cases rx;obtain⟨u1,u2,rfl,ru1,ru2⟩:=rv.two;cases ru1;obtain⟨t',ht',xs,hH,nr,nd,hs⟩:=r.addr hg;rw[hn]at ht';cases ht';have dd:=CC I hH nr nd;refine WS R0 dd.typeIs B8 (BU _ _ _) (meetsH_dict_get_default (NK.tagK X.prog X.w τ) t a hs u2) ⟨JY hu,k,xs,Z6 I q rfl hk,dd,?_⟩;rcases nr.get k with⟨a1,b1⟩|⟨p,d',v,a1,b1,rv',dv'⟩
 ·rw[a1];exact⟨dv,H,I.tok _,ru2,hQ2 b1⟩
 ·rw[a1];exact⟨v,H,I.tok _,rv',hQ d' v b1 dv'⟩
theorem NI(hu:X.A.units+16<cLine):dB X "dict.setdefault" (bI X.K ca):=by
 intro pins s σ H x vs v us Q I rx rv h;obtain⟨kv,dv,rfl,g,μ,dx,n,t,τ,ks,k,r,q,hk,rfl,hn,hg,hz0,hQ,hQ2⟩:=h;obtain⟨a,rfl⟩:=Xk q hk;cases rx;obtain⟨u1,u2,rfl,ru1,ru2⟩:=rv.two;cases ru1;obtain⟨t',ht',xs,hH,nr,nd,hs⟩:=r.addr hg;rw[hn]at ht';cases ht';have dd:=CC I hH nr nd;have hl:xs.length=ks.length:=Paired.length nr;have hz:xs.length<=sizeLine:=by rw[hl];exact Rf (UA hz0 Z5)
 rcases nr.get k with⟨a1,b1⟩|⟨p,d',v,a1,b1,rv',dv'⟩
 ·obtain⟨de,hde,hQ2⟩:=hQ2 b1;refine WS RW dd.typeIs Ba (W5 _ _ _) (NK.meetsSetDef (knd:=NK.tagK X.prog X.w τ) (d:=t) (a:=a) hs u2) ⟨JY hu,k,xs,Z6 I q rfl hk,dd,hz,(λp hp=>by rw[a1]at hp;cases hp),λ_ h' dd' hs'=>?_⟩;obtain⟨ob,ens,ep,ho,hc,hd,he,_,nd'⟩:=dd';have ex:Ext X.K μ H μ (Za H t (ND t (xs++[(k,a,u2)]))):=Z4 hH (λ_ z=>by unfold ND at z;cases z) (λ_ _ z=>by unfold ND at z;cases z);refine⟨dv,_,CA I (by rw[hH];exact True.intro) hs' ⟨ob,ho⟩ (Hg ⟨ob,ens,ep,ho,hc,hd,by rw[he];exact(NK.ents_eq _ _ _ _).symm⟩),ru2,hQ2 _ ?_ nd' hs⟩;exact Paired.snoc (nr.mono ex) ⟨rfl,⟨dx,hk,q.mono ex⟩,dv,ru2,hde.mono ex⟩
 ·refine WS RW dd.typeIs Ba (W5 _ _ _) (NK.meetsSetDef (knd:=NK.tagK X.prog X.w τ) (d:=t) (a:=a) hs u2) ⟨JY hu,k,xs,Z6 I q rfl hk,dd,hz,(λp' hp=>?_),(λhp=>by rw[a1]at hp;cases hp)⟩;rw[a1]at hp;cases hp;exact⟨v,H,I.tok _,rv',hQ d' v b1 dv'⟩
end
section
variable{X:Cx}{ca:Nat->Addr}{e f o:Expr}{me mf mo:ME}{pos apos:Pos}{k:Nat}
theorem Hj{id:String}{name:Str}{r:V->List V->Hp->VK->Prop}{F:Nat->Bool->List (NK.SK×D)->NK.SK->D->G->Res D}(slot:Slot "dict" name id)(hty:typeOf (.builtin id)=pure (.type "method_descriptor"))(hm:dB (xo X) id r)(hF:∀(H:Hp) (μ:List Addr) (g:G) (kv dv:V) (y z:D) (n:Nat) (t:Addr) (τ:Bool) (ks:List (NK.SK×D)) (k:NK.SK) (Q:VK),GRep X.K ca μ H g->Den X.K μ H kv y->Den X.K μ H dv z->Yl τ y=some k->μ[n]?=some t->g[n]?=some (.dcn τ ks)->Jg X.K ca Q H μ (F n τ ks k z g)->r (.ref t) [kv,dv] H Q)(ho:Qs ca X o mo)(he:Qs ca X e me)(hf:Qs ca X f mf)(hbase:attributeBase o name X.env (eval o X.env)=eval o X.env)(hfew:((backTo pos (starEach [e,f] X.env)).all (λx=>!x.1)&&(backToKw pos (keywordEach [] X.env)).all (λx=>x.1.isSome)&&decide ([e,f].length+([]:List Keyword).length+(if ([]:List Keyword).isEmpty then 0 else 1)<30))=true)(hline:(apos.endLine==pos.line)=true)(hs:starEach [e,f] X.env=(false,eval e X.env)::starEach [f] X.env)(hs2:starEach [f] X.env=(false,eval f X.env)::starEach [] X.env)(hplain:(backTo pos (starEach [f] X.env)).any (·.1)=false):
  Qs ca X (.Call (.Attribute o name apos) [e,f] [] pos) (Hi mo me mf F):=
 QZ (gS (X:=xo X) slot hty hm ho (ZN he (ZN hf JW hs2) hs) hbase hfew hline hs hplain) λσ H Q ⟨σ3,g,μ,R,q⟩=>QC (Zl R q) λx H1 hQ=>by
  obtain⟨d,g1,μ1,e1,R1,q1,p1⟩:=hQ;cases q1 with
  |@ref n t hn=>
   dsimp only at p1;cases hgn:g1[n]? with
   |none=>rw[hgn]at p1;exact p1.elim|some ob=>
    rw[hgn]at p1;obtain⟨t',ht',orp⟩:=R1.g.addr hgn;rw[hn]at ht';cases ht';cases ob with
    |dcn τ0 ks0=>
     obtain⟨xs0,hH0,_⟩:=orp;dsimp only at p1;refine⟨⟨t,xs0,rfl,hH0⟩,σ3,g1,μ1,R1,?_⟩;unfold Qb Qd;cases hm:me σ3 g1 with
     |stuck=>rw[hm]at p1;exact p1.elim|ok y g2=>
      rw[hm,Res.bind_ok]at p1;rw[Res.bind_ok];cases hm2:mf σ3 g2 with
      |stuck=>rw[hm2]at p1;exact p1.elim|ok z g3=>
       rw[hm2,Res.bind_ok]at p1;rw[Res.bind_ok,Res.bind_ok,Res.bind_ok];intro vs H2 μ2 e2 r2 q2;cases q2 with
       |cons h1 h2=>cases h2 with
        |cons h2 h3=>
         cases h3;cases hg2:g3[n]? with
         |none=>rw[hg2]at p1;exact p1.elim|some ob2=>
          rw[hg2]at p1;cases ob2 with
          |dcn τ ks=>
           dsimp only at p1;cases hk:Yl τ y with
           |none=>rw[hk]at p1;exact p1.elim|some k =>rw[hk]at p1;exact hF H2 μ2 g3 _ _ y z n t τ ks k Q r2 h1 h2 hk (e2.at hn) hg2 (p1.go e2)
          |_=>exact p1.elim
    |_=>exact p1.elim
  |_=>exact p1.elim
theorem DC(hr:Room k X.A)(ho:Qs ca X o mo)(he:Qs ca X e me)(hf:Qs ca X f mf)(hbase:attributeBase o "get" X.env (eval o X.env)=eval o X.env:=by rfl)(hfew:((backTo pos (starEach [e,f] X.env)).all (λx=>!x.1)&&(backToKw pos (keywordEach [] X.env)).all (λx=>x.1.isSome)&&decide ([e,f].length+([]:List Keyword).length+(if ([]:List Keyword).isEmpty then 0 else 1)<30))=true:=by exact Eq.refl true)(hline:(apos.endLine==pos.line)=true:=by exact Eq.refl true)(hs:starEach [e,f] X.env=(false,eval e X.env)::starEach [f] X.env:=by rfl)(hs2:starEach [f] X.env=(false,eval f X.env)::starEach [] X.env:=by rfl)(hplain:(backTo pos (starEach [f] X.env)).any (·.1)=false:=by exact Eq.refl false):
  Qs ca X (.Call (.Attribute o "get" apos) [e,f] [] pos) (F9 mo me mf):=
 Hj (r:=bH X.K ca) R0 PySem.F.type_dict_get (DB (ca:=ca) (X:=xo X) (by have:=hr.units;show X.A.units+16<cLine;omega)) (λH μ g kv dv y z n t τ ks k Q r q1 q2 hk hn hg p=>by
  refine⟨kv,dv,rfl,g,μ,y,n,t,τ,ks,k,r,q1,hk,rfl,hn,hg,λd v h1 h2=>?_,λh1=>?_⟩
  ·rw[h1]at p;exact p v H μ .refl r h2
  ·rw[h1]at p;exact p dv H μ .refl r q2) ho he hf hbase hfew hline hs hs2 hplain
theorem PY(hr:Room k X.A)(ho:Qs ca X o mo)(he:Qs ca X e me)(hf:Qs ca X f mf)(hbase:attributeBase o "setdefault" X.env (eval o X.env)=eval o X.env:=by rfl)(hfew:((backTo pos (starEach [e,f] X.env)).all (λx=>!x.1)&&(backToKw pos (keywordEach [] X.env)).all (λx=>x.1.isSome)&&decide ([e,f].length+([]:List Keyword).length+(if ([]:List Keyword).isEmpty then 0 else 1)<30))=true:=by exact Eq.refl true)(hline:(apos.endLine==pos.line)=true:=by exact Eq.refl true)(hs:starEach [e,f] X.env=(false,eval e X.env)::starEach [f] X.env:=by rfl)(hs2:starEach [f] X.env=(false,eval f X.env)::starEach [] X.env:=by rfl)(hplain:(backTo pos (starEach [f] X.env)).any (·.1)=false:=by exact Eq.refl false):
  Qs ca X (.Call (.Attribute o "setdefault" apos) [e,f] [] pos) (Y4 mo me mf):=
 Hj (r:=bI X.K ca) RW PySem.F.type_dict_setdefault (NI (ca:=ca) (X:=xo X) (by have:=hr.units;show X.A.units+16<cLine;omega)) (λH μ g kv dv y z n t τ ks k Q r q1 q2 hk hn hg p=>by
  by_cases hz:ks.length<SZ
  ·rw[Uf hz]at p;refine⟨kv,dv,rfl,g,μ,y,n,t,τ,ks,k,r,q1,hk,rfl,hn,hg,hz,λd v h1 h2=>?_,λh1=>⟨z,q2,λxs' nr nd hsm=>?_⟩⟩
   ·rw[h1]at p;exact p v H μ .refl r h2
   ·rw[h1]at p;obtain⟨t',ht',xs,hH,_⟩:=r.addr hg;rw[hn]at ht';cases ht';have ex:Ext X.K μ H μ (Za H t (ND t xs')):=Z4 hH (λ_ z=>by unfold ND at z;cases z) (λ_ _ z=>by unfold ND at z;cases z);exact p dv _ μ ex (r.set hn hH (λ_ z=>by unfold ND at z;cases z) (λ_ _ z=>by unfold ND at z;cases z) ⟨xs',Qr,nr,nd,hsm⟩) (q2.mono ex)
  ·rw[Uh hz]at p;exact p.elim) ho he hf hbase hfew hline hs hs2 hplain
end
end L3
namespace L3
open PySem
def iZ(x:D)(g:G)(F:List (Ja×D)->Res D):Res D:=match x with
 |.ref n=>(match g[n]? with
  |some (.dcn _ ks)=>if ks.length<=SZ then F ks else .stuck
  |_=>.stuck)
 |_=>.stuck
def VZ(x:D)(g:G):Res D:=iZ x g λks=>.ok (.int ks.length) g
end L3
namespace NK
open PySem PyProof.Rows
theorem lenD{prog:Program}{w:World}{A:Around}{E:VP}{s:Shared}{d:Addr}{es:Array DictEntry}{ep:Nat}{Q:VP}(hs:(d==sysModules)=false)(hm:DE s.heap d es ep)(hfit:(es.size:Int)<2^63)(h:Q (.int es.size (s.toks+1)) {s with toks:=s.toks+1+1}):wpAny (model prog w) A (call (.builtin "len") [.ref d]) Q E s:=by
 have hT:=hm.typeIs;obtain⟨o,ho,_,hd⟩:=hm;have me:MeetsIn prog w (Builtin.«dict.__len__» ⟨[.ref d],[]⟩) (λ_ R s'=>s'=s/\R (.ok (.ret (.int es.size s.toks))) {s with toks:=s.toks+1}):=.of_wp λA R s' ⟨e,h⟩=>by subst e;show wpAny _ _ (dictSize d >>= _) _ _ s';unfold dictSize;refine Ua (Ua (RI ho hd (Uc ?_)));show wpAny _ _ (Builtin.Dict.pendingCount d >>= _) _ _ s';exact Ua (wpAny_pendingCount_other hs (wpAny_ret_mkInt (by rw[Nat.add_zero];exact h)))
 refine Calls.call_function_entry kind_len plain_len entry_len (args_len1 _) ?_;unfold Builtin.«len»;refine Ua (m:=oneArg "len" _) (Uc ?_);refine Ua (m:=callSpecial? (.ref d) (Str.ofString "__len__")) (U0 (name:=Str.ofString "__len__") hT F.slot_dict_len (WS F.slot_dict_len hT F.entry_dict_len (F.args_dict_len_1 _) me ⟨rfl,?_⟩));show wpAny _ _ _ _ _ {s with toks:=s.toks+1};refine Ua (Tt (Uc (Ua (wpAny_letGo ?_))));show wpAny _ _ (if ((es.size:Nat):Int)<0 then _ else _) _ _ _;rw[Uh (by omega)];show wpAny _ _ (if ((es.size:Nat):Int)>=2^63 then _ else _) _ _ _;rw[Uh (by omega)];exact Ua (wpAny_mkInt (Uc ⟨_,rfl,h⟩))
end NK
namespace L3
open PySem PySem.Spec PyProof.Rows L2
section
variable{X:Cx}{ca:Nat->Addr}
abbrev rD(K:Frag)(ca:Nat->Addr)(x:V)(H:Hp)(Q:G->List Addr->Addr->List (NK.SK×D)->Prop):Prop:=∃(g:G)(μ:List Addr)(n:Nat)(t:Addr)(τ:Bool)(ks:List (NK.SK×D)),GRep K ca μ H g/\x=.ref t/\μ[n]?=some t/\g[n]?=some (.dcn τ ks)/\ks.length<=SZ/\Q g μ t ks
theorem L7(I:Inv X pins σ H s)(e:H t=some (ND t xs)):∃es ep,NK.DE s.heap t es ep/\es.toList=NK.ents xs:=by obtain⟨⟨o,es,ep,ho,hc,hd,he⟩,_⟩:=(show ObjOk X.prog X.w H s.heap t (.ext (NK.DObj t xs)) from I.hok t _ e);exact⟨es,ep,⟨o,ho,hc,hd⟩,he⟩
theorem XJ{es:Array DictEntry}{xs:List (NK.SK×Addr×Value)}(h:es.toList=NK.ents xs):es.size=xs.length:=by rw[<-Uo,h];unfold NK.ents;rw[Ue]
theorem NJ:YA X (.builtin "len") (λvs H Q=>∃x,vs=[x]/\rD X.K ca x H λ_ _ _ ks=>Q (.int ks.length) H):=by intro pins s σ H vs us Q I rv h;obtain⟨x,rfl,g,μ,n,t,τ,ks,r,rfl,hn,hg,hz,hQ⟩:=h;obtain⟨u,rfl,ru⟩:=rv.one;cases ru;obtain⟨t',ht',xs,hH,nr,nd,hs⟩:=r.addr hg;rw[hn]at ht';cases ht';obtain⟨es,ep,de,he⟩:=L7 I hH;have hl:es.size=ks.length:=(XJ he).trans (Paired.length nr);have h1:=Vo;have h2:=Z5;have h3:sizeLine=16777216:=TU;exact NK.lenD hs de (by omega) ⟨.int ks.length,H,I.tok _,⟨s.toks+1,by rw[hl]⟩,hQ⟩
theorem DD{K:Frag}{τ:Bool}{μ:List Addr}{H:Hp}{xs:List (NK.SK×Addr×Value)}{ks:List (NK.SK×D)}(h:NRel K τ μ H xs ks):Dens K μ H (xs.map λx=>V.ref x.2.1) (ks.map λp=>kD p.1):=by
 unfold NRel at h;induction h with
 |nil=>exact .nil|cons a _ ih =>obtain⟨e,⟨d,h1,h2⟩,_⟩:=a;refine .cons ?_ ih;dsimp only;rw[<-e,<-LQ h1];exact h2
end
section
variable{X:Cx}{ca:Nat->Addr}{e:Expr}{me:ME}{p pos:Pos}
theorem bJ{K:Frag}{H:Hp}{μ:List Addr}{g:G}{y:V}{d:D}{Q:VK}{F:List (NK.SK×D)->Res D}(r:GRep K ca μ H g)(q:Den K μ H y d)(pp:Jg K ca Q H μ (iZ d g F)):rD K ca y H λg' μ' _ ks=>g'=g/\μ'=μ/\Jg K ca Q H μ (F ks):=by
 unfold iZ at pp;cases q with
 |@ref n t hn=>
  dsimp only at pp;cases hg:g[n]? with
  |none=>rw[hg]at pp;exact pp.elim|some ob=>
   rw[hg]at pp;cases ob with
   |dcn τ ks=>
    dsimp only at pp;by_cases z:ks.length<=SZ
    ·rw[Uf z]at pp;exact⟨g,μ,n,t,τ,ks,r,rfl,hn,hg,z,rfl,rfl,pp⟩
    ·rw[Uh z]at pp;exact pp.elim
   |_=>exact pp.elim
 |_=>exact pp.elim
theorem gT(hm:X.mg "len"=none)(he:Qs ca X e me)(hg:Gl X "len":=by exact Eq.refl (some _))(hs:starEach [e] X.env=[(false,eval e X.env)]:=by rfl)(hpl:(backTo pos (starEach [] X.env)).any (·.1)=false:=by exact Eq.refl false):
  Qs ca X (.Call (.Name "len" p) [e] [] pos) (Qi VZ me):=Eg (r:=λvs H Q=>∃x,vs=[x]/\rD X.K ca x H λ_ _ _ ks=>Q (.int ks.length) H) (NJ (X:=xo X)) hm boot_len (λH μ g y d Q r q pp=>by obtain⟨g',μ',n,t,τ,ks,r',a1,a2,a3,a4,e1,e2,p'⟩:=bJ (F:=λks=>.ok (.int ks.length) g) r q pp;subst e1 e2;exact⟨y,rfl,g',μ',n,t,τ,ks,r',a1,a2,a3,a4,p' _ H μ' .refl r' (.int _)⟩) he hg (by decide) (by decide) hs hpl
end
end L3
namespace L3
open PySem
def lexZ:List Int->List Int->Bool
 |[],[]=>false|[],_::_=>true|_::_,[]=>false|a::x,b::y=>if a=b then lexZ x y else decide (a<b)
def ltK:Ja->Ja->Bool
 |.inl a,.inl b=>lexZ a b|.inr x,.inr y=>if x.1=y.1 then (if x.2.1=y.2.1 then (if x.2.2.1=y.2.2.1 then (if x.2.2.2=y.2.2.2 then false else lexZ x.2.2.2 y.2.2.2) else decide (x.2.2.1<y.2.2.1)) else decide (x.2.1<y.2.1)) else lexZ x.1 y.1
 |.inl _,.inr _=>true|.inr _,.inl _=>false
def IS(k:Ja):List Ja->List Ja
 |[]=>[k]|x::r=>if ltK x k then x::IS k r else k::x::r
def sortK:List Ja->List Ja
 |[]=>[]|k::r=>IS k (sortK r)
def okK:Ja->Bool
 |.inl []=>false|_=>true
def Jd(τ:Bool)(ds:List D):Option (List Ja):=IJ (λks=>∀k∈ks,k.isRight=τ) (·.map kD) ds
def Hk(ks:List Ja)(g:G):Res D:=if ks.length<1000/\ks.Nodup/\ks.all okK=true then .ok (.ref g.length) (g++[.lst ((sortK ks).map kD)]) else .stuck
def V0(x:D)(g:G):Res D:=iZ x g λks=>Hk (ks.map (·.1)) g
def V1(x:D)(g:G):Res D:=match x with
 |.ref n=>(match g[n]? with
  |some (.lst ds)=>(match Jd false ds with
   |some ks=>Hk ks g|none=>(match Jd true ds with
    |some ks=>Hk ks g|none=>.stuck))
  |_=>.stuck)
 |_=>.stuck
theorem Kv(k:Ja):∀l,(IS k l).Perm (k::l)
 |[]=>.refl _|x::r=>by
  unfold IS;split
  ·exact((Kv k r).cons x).trans (.swap ..)
  ·exact .refl _
theorem sortK_perm:∀l,(sortK l).Perm l
 |[]=>.refl _|k::r=>(Kv k _).trans ((sortK_perm r).cons k)
theorem L8(ht:∀x y z,ltK x y=true->ltK y z=true->ltK x z=true)(tot:∀x y:Ja,x≠y->ltK x y=true\/ltK y x=true):∀{l:List Ja},l.Pairwise (λx y=>ltK x y=true)->k∉l->(IS k l).Pairwise (λx y=>ltK x y=true)
 |[],_,_=>by simp[IS]
 |x::r,h,hk=>by
  have h':=RU.mp h;have hne:x≠k:=λz=>hk (by rw[z];exact Uy ..);unfold IS;split
  ·next hx=>
   refine RU.mpr ⟨λy hy=>?_,L8 ht tot h'.2 λz=>hk (Uz _ z)⟩;rcases UG.mp ((Kv k r).mem_iff.mp hy) with rfl|hy
   ·exact hx
   ·exact h'.1 y hy
  ·next hx=>
   have hkx:ltK k x=true:=(tot x k hne).resolve_left hx;refine RU.mpr ⟨λy hy=>?_,h⟩;rcases UG.mp hy with rfl|hy
   ·exact hkx
   ·exact ht _ _ _ hkx (h'.1 y hy)
theorem sortK_up(ht:∀x y z,ltK x y=true->ltK y z=true->ltK x z=true)(tot:∀x y:Ja,x≠y->ltK x y=true\/ltK y x=true):∀{l:List Ja},l.Nodup->(sortK l).Pairwise (λx y=>ltK x y=true)
 |[],_=>.nil|k::r,h=>by have h':=RB.mp h;exact L8 ht tot (sortK_up ht tot h'.2) λz=>h'.1 ((sortK_perm r).mem_iff.mp z)
theorem up_uniq(hi:∀x,ltK x x=false)(ht:∀x y z,ltK x y=true->ltK y z=true->ltK x z=true):∀{a b:List Ja},a.Perm b->a.Pairwise (λx y=>ltK x y=true)->b.Pairwise (λx y=>ltK x y=true)->a=b
 |[],b,p,_,_=>by rw[List.nil_perm.mp p]
 |x::a,[],p,_,_=>absurd p.symm (by simp)|x::a,y::b,p,h1,h2=>by
  have q1:=RU.mp h1;have q2:=RU.mp h2;have e:x=y:=by
   rcases UG.mp (p.mem_iff.mp (Uy ..)) with e|m1
   ·exact e
   ·rcases UG.mp (p.mem_iff.mpr (Uy ..)) with e|m2
    ·exact e.symm
    ·have:=ht _ _ _ (q2.1 x m1) (q1.1 y m2);rw[hi]at this;cases this
  subst e;rw[up_uniq hi ht (List.perm_cons x |>.mp p) q1.2 q2.2]
end L3
namespace NK
open PySem PyProof.Rows
theorem CD:∀x y:List Int,L3.lexZ x y=XG (λa b=>decide (a<b)) x y
 |[],[]=>rfl|[],_::_=>rfl|_::_,[]=>rfl|a::x,b::y=>by unfold L3.lexZ XG;rw[CD x y]
section
variable{prog:Program}{w:World}
abbrev grO:OV (O9 prog w):=lF intO
abbrev ctO:OV (AX prog w):=lG grO intO intO grO
theorem Kw(x y:List Int):L3.ltK (.inl x) (.inl y)=(grO (prog:=prog) (w:=w)).lt x y:=CD x y
theorem Kx(x y:List Int×Int×Int×List Int):L3.ltK (.inr x) (.inr y)=(ctO (prog:=prog) (w:=w)).lt x y:=by show L3.ltK (.inr x) (.inr y)=Jz false (VM _ _ _ _ x y);unfold VM L3.ltK;simp only[VN];rw[CD,CD];rfl
def IT(τ:Bool):OV (tagV prog w τ) where
 lt:=L3.ltK
 rich:=λ{A E s x y u u' Q} hu hx hy hne h=>by
  cases x with
  |inl x=>cases y with
   |inl y=>exact(grO (prog:=prog) (w:=w)).rich (show A.units+1<cLine by have:A.units+2<cLine:=hu;omega) hx.2 hy.2 (λz=>hne (by rw[z])) (by rw[<-Kw];exact h)|inr y=>have:=hx.1;have:=hy.1;simp_all
  |inr x=>cases y with
   |inl y=>have:=hx.1;have:=hy.1;simp_all|inr y=>exact(ctO (prog:=prog) (w:=w)).rich hu hx.2 hy.2 (λz=>hne (by rw[z])) (by rw[<-Kx];exact h)
 irr:=λx=>by
  cases x with
  |inl x=>rw[Kw (prog:=prog) (w:=w)];exact grO.irr x|inr x=>rw[Kx (prog:=prog) (w:=w)];exact ctO.irr x
 tr:=λx y z h1 h2=>by
  cases x with
  |inl x=>cases y with
   |inl y=>cases z with
    |inl z=>rw[Kw (prog:=prog) (w:=w)]at h1 h2 ⊢;exact grO.tr x y z h1 h2|inr z=>rfl
   |inr y=>cases z with
    |inl z=>cases h2|inr z=>rfl
  |inr x=>cases y with
   |inl y=>cases h1|inr y=>cases z with
    |inl z=>cases h2|inr z=>rw[Kx (prog:=prog) (w:=w)]at h1 h2 ⊢;exact ctO.tr x y z h1 h2
 tot:=λx y h=>by
  cases x with
  |inl x=>cases y with
   |inl y=>rw[Kw (prog:=prog) (w:=w),Kw (prog:=prog) (w:=w)];exact grO.tot x y λz=>h (by rw[z])
   |inr y=>exact .inl rfl
  |inr x=>cases y with
   |inl y=>exact .inr rfl|inr y=>rw[Kx (prog:=prog) (w:=w),Kx (prog:=prog) (w:=w)];exact ctO.tot x y λz=>h (by rw[z])
theorem gU(hu:A.units+4<cLine)(hx:(tagV prog w τ).is s.heap x u)(hy:(tagV prog w τ).is s.heap y u')(h:Q (L3.ltK x y) s):wpAny (model prog w) A (keyLt' (PyProof.Rows.tuples' (!τ)) u u') Q E s:=by
 cases x with
 |inl x=>cases y with
  |inl y =>obtain⟨rfl,hx⟩:=hx;exact O8 hu hx hy.2 (by rw[<-Kw];exact h)|inr y=>have:=hx.1;have:=hy.1;simp_all
 |inr x=>cases y with
  |inl y=>have:=hx.1;have:=hy.1;simp_all|inr y =>obtain⟨rfl,hx⟩:=hx;obtain⟨r,x1,x2,x3,x4,rfl,t1,i1,i2,i3,i4⟩:=hx;obtain⟨r',y1,y2,y3,y4,rfl,t2,j1,j2,j3,j4⟩:=hy.2;refine Fi (dep:=1) (os:=VM (prog:=prog) (w:=w) grO intO intO grO x y) (by omega) t1 t2 (.cons (grO.at' (Ug _) i1 j1) (.cons (intO.at' (Tv _) i2 j2) (.cons (intO.at' (Tv _) i3 j3) (.cons (grO.at' (Ug _) i4 j4) .nil)))) (λz=>by cases z) ?_;have:Jz (decide ([x1,x2,x3,x4].length<[y1,y2,y3,y4].length)) (VM (prog:=prog) (w:=w) grO intO intO grO x y)=L3.ltK (.inr x) (.inr y):=(Kx (prog:=prog) (w:=w) x y).symm;rw[this];exact h
end
section
variable{prog:Program}{w:World}{A:Around}{E:VP}{s:Shared}
open Classical in
def PZ(h:Heap)(v:Value):Value:=if e:∃u a us,v=.ref a/\Tp h a us/\us.head?=some u then e.choose else v
theorem P0(ht:Tp h a us)(hu:us.head?=some u):PZ h (.ref a)=u:=by have e:∃u b us,Value.ref a=.ref b/\Tp h b us/\us.head?=some u:=⟨u,a,us,rfl,ht,hu⟩;unfold PZ;rw[iS e];obtain⟨b,vs,e1,e2,e3⟩:=e.choose_spec;injection e1 with e1;subst e1;rw[ht.inj e2,e3]at hu;injection hu
theorem NL(ho:L3.okK k=true)(h:(tagV prog w τ).is s.heap k u):∃a us v,u=.ref a/\Tp s.heap a us/\us.head?=some v/\s.TypeIs v (if τ=true then "tuple" else "int"):=by
 cases k with
 |inl g=>
  obtain⟨rfl,a,us,rfl,t,al⟩:=h;cases al with
  |nil=>cases ho|cons x _ =>obtain⟨t',rfl⟩:=RG x;exact⟨a,_,_,rfl,t,rfl,typeIs_int s _ _⟩
 |inr c =>obtain⟨rfl,r,x,y,z,q,rfl,t,⟨b,us,rfl,t2,_⟩,_⟩:=h;exact⟨r,_,_,rfl,t,rfl,t2.typeIs⟩
theorem Ep(x:(tagV prog w τ).is h k u)(kp:∀b o,h.get? b=some o->h'.get? b=some o):(tagV prog w τ).is h' k u:=(tagV prog w τ).keeps x λb o _ _ e _=>kp b o e
theorem sorted_keys{τ:Bool}{r:Value}{us:List Value}{ks:List SK}{Q:VP}(hu:A.units+16<cLine)(al:Al ((tagV prog w τ).is s.heap) ks us)(hn:ks.Nodup)(ho:ks.all L3.okK=true)(h64:ks.length<1000)(hc:∀{R:List Value->Shared->Prop},(∀h' tk,(∀b o,s.heap.get? b=some o->h'.get? b=some o)->R us {s with heap:=h',toks:=tk})->wpAny (model prog w) A.in1 (collect r) R E s)(h:∀(h1 h':Heap) (tk:Nat) (out:Array Value) (e:Nat),(∀b o,s.heap.get? b=some o->h1.get? b=some o)->(∀b o,h1.get? b=some o->h'.get? b=some o)->h'.get? h1.objs.size=some (seqObj "list" out e)->Al ((tagV prog w τ).is s.heap) (L3.sortK ks) out.toList->(∀u∈out.toList,u∈us)->Q (.ref h1.objs.size) {s with heap:=h',toks:=tk}):
  wpAny (model prog w) A (call (.builtin "sorted") [r]) Q E s:=by
 have hall:∀k∈ks,L3.okK k=true:=λk hk=>US.mp ho k hk;refine IG (kd:=PyProof.Rows.tuples' (!τ)) (rk:=(IT (prog:=prog) (w:=w) τ).rk s.heap ks) (vs:=us) (by rw[<-al.len];exact h64) hc (λh' tk kp=>?_) (λh2 h' tk kp Q hq=>?_) λh1 h' tk out e k1 k2 hg hp hup=>?_
 ·exact eI (IT τ) al hn λx y u u' _ _ hx hy {E Q} hQ=>gU (s:={s with heap:=h',toks:=tk}) (show A.units+1+1+4<cLine by omega) (Ep hx kp) (Ep hy kp) hQ
 ·have fk:∀v∈us,∃a vs x,v=.ref a/\Tp h' a vs/\vs.head?=some x/\Shared.TypeIs {s with heap:=h',toks:=tk} x (if τ=true then "tuple" else "int"):=λv hv=>by obtain⟨k,m,hk⟩:=al.has v hv;exact NL (s:={s with heap:=h',toks:=tk}) (hall k m) (Ep hk kp)
  refine NZ.kind_tup (fst:=PZ h') (T:=if τ=true then "tuple" else "int") (λz=>by rw[z]at h2;exact absurd h2 (by decide)) (λv hv=>?_) (λv hv=>?_) ?_
  ·obtain⟨a,vs,x,rfl,t,hx,_⟩:=fk v hv;exact⟨a,vs,rfl,t,by rw[P0 t hx];exact hx⟩
  ·obtain⟨a,vs,x,rfl,t,hx,ty⟩:=fk v hv;rw[P0 t hx];exact ty
  ·cases τ
   ·exact hq
   ·exact hq
 ·obtain⟨ls,l1,l2,l3⟩:=eJ (IT τ) al hp hup hn;have e1:ls=L3.sortK ks:=L3.up_uniq (IT (prog:=prog) (w:=w) τ).irr (IT (prog:=prog) (w:=w) τ).tr (l1.trans (L3.sortK_perm ks).symm) l3 (L3.sortK_up (IT (prog:=prog) (w:=w) τ).tr (IT (prog:=prog) (w:=w) τ).tot hn);subst e1;refine h h1 h' tk _ e k1 k2 hg l2 λu hm=>?_;rw[Array.toList_map]at hm;obtain⟨p,hp1,rfl⟩:=UR.mp hm;have:=(TV.mp hp).mem_iff.mp hp1;rw[BB]at this;obtain⟨q1,q2⟩:=mem_zip_self this;rw[<-q1];exact q2
end
end NK
namespace L3
open PySem PySem.Spec PyProof.Rows L2
section
variable{X:Cx}{ca:Nat->Addr}{pins:YM}{σ:L2.St}{H:Hp}{s:Shared}{μ:List Addr}
theorem Ft{τ:Bool}{us:List Value}(hb:∀u∈us,∃a k,u=.ref a/\(NK.tagV X.prog X.w τ).is s.heap k u/\Den X.K μ H (.ref a) (kD k)):∀{ls:List NK.SK}{outs:List Value},NK.Al ((NK.tagV X.prog X.w τ).is s.heap) ls outs->(∀u∈outs,u∈us)->∃ws,Vals ws outs/\Dens X.K μ H ws (ls.map kD)
 |_,_,.nil,_=>⟨[],.nil,.nil⟩|l::ls,u::outs,.cons a b,hm=>by obtain⟨p,k,rfl,h1,h2⟩:=hb u (hm u (Uy ..));have e:k=l:=(NK.tagV X.prog X.w τ).inj h1 a;subst e;obtain⟨ws,w1,w2⟩:=Ft hb b λv hv=>hm v (Uz _ hv);exact⟨.ref p::ws,.cons rfl w1,.cons h2 w2⟩
theorem KY{τ:Bool}{r:Value}{us:List Value}{ks:List NK.SK}{Q:VK}(I:Inv X pins σ H s)(hu:X.A.units+16<cLine)(al:NK.Al ((NK.tagV X.prog X.w τ).is s.heap) ks us)(hn:ks.Nodup)(ho:ks.all okK=true)(h64:ks.length<1000)(hb:∀u∈us,∃a k,u=.ref a/\(NK.tagV X.prog X.w τ).is s.heap k u/\Den X.K μ H (.ref a) (kD k))(hc:∀{R:List Value->Shared->Prop},(∀h' tk,(∀b o,s.heap.get? b=some o->h'.get? b=some o)->R us {s with heap:=h',toks:=tk})->wpAny (model X.prog X.w) X.A.in1 (collect r) R X.xe s)(h:∀l ws,H l=none->Dens X.K μ H ws ((sortK ks).map kD)->Q (.ref l) (Za H l (.lst ws))):wpAny (model X.prog X.w) X.A (call (.builtin "sorted") [r]) (EP X pins σ Q) X.xe s:=by
 refine NK.sorted_keys hu al hn ho h64 hc λh1 h' tk out e k1 k2 hg l2 hm=>?_;obtain⟨ws,w1,w2⟩:=Ft hb l2 hm;have I1:Inv X pins σ H {s with heap:=h1,toks:=s.toks}:=I.kept k1;have hl:ws.length<=sizeLine:=by
  have:ws.length=ks.length:=by rw[w2.length,Ue,(sortK_perm ks).length_eq]
  have:=TU;omega
 exact⟨.ref h1.objs.size,_,I1.laid (a:=h1.objs.size) (o:=.lst ws) (t':=tk) k2 (Ug _) (show ObjOk X.prog X.w _ _ _ (.lst ws) from ⟨hl,out.toList,e,w1,by simpa using hg⟩),rfl,h _ ws (I1.hok.fresh (Ug _)) w2⟩
end
section
variable{X:Cx}{ca:Nat->Addr}
theorem gV{K:Frag}{τ:Bool}{μ:List Addr}{H:Hp}{xs:List (NK.SK×Addr×Value)}{ks:List (NK.SK×D)}(h:NRel K τ μ H xs ks):ks.map (·.1)=xs.map (·.1):=by
 unfold NRel at h;induction h with
 |nil=>rfl|cons a _ ih=>rw[UH,UH,ih,a.1]
theorem L9  : ∀{xs:List (NK.SK×Addr×Value)},(∀x∈xs,(NK.tagV X.prog X.w τ).is h x.1 (.ref x.2.1))->NK.Al ((NK.tagV X.prog X.w τ).is h) (xs.map (·.1)) (xs.map λx=>Value.ref x.2.1)
 |[],_=>.nil|y::r,hx=>.cons (hx y (Uy ..)) (L9 λx hm=>hx x (Uz _ hm))
theorem IU{es:Array DictEntry}{xs:List (NK.SK×Addr×Value)}{acc:Array Value}(he:es.toList=NK.ents xs)(ha:ItemsOf (λi v=>∃h:i<es.size,v=es[i].key) acc es.size):acc.toList=xs.map λx=>Value.ref x.2.1:=by
 apply BM;intro j;rw[UL];by_cases hj:j<acc.size
 ·have e0:acc[j]?=some acc[j]:=oN _ j hj;obtain⟨hj',e1⟩:=ha.2 j _ e0;have e2:es.toList[j]?=some es[j]:=by simp[hj']
  rw[he]at e2;unfold NK.ents at e2;rw[UL]at e2;cases hx:xs[j]? with
  |none=>rw[hx]at e2;cases e2|some y =>rw[hx]at e2;injection e2 with e2;rw[Tr,e0,e1,<-e2];rfl
 ·have hl:=XJ he;have h1:=ha.1;rw[TZ (by rw[Uo];omega),TZ (by omega)];rfl
theorem Ga(hc:X.calm=true)(hu:X.A.units+16<cLine):YA X (.builtin "sorted") (λvs H Q=>∃x,vs=[x]/\rD X.K ca x H λ_ μ _ ks=>(ks.map (·.1)).length<1000/\(ks.map (·.1)).Nodup/\(ks.map (·.1)).all okK=true/\∀l ws,H l=none->Dens X.K μ H ws ((sortK (ks.map (·.1))).map kD)->Q (.ref l) (Za H l (.lst ws))):=by
 intro pins s σ H vs us Q I rv h;obtain⟨x,rfl,g,μ,n,t,τ,ks,r,rfl,hn,hg,hz,h64,hnd,hok,hQ⟩:=h;obtain⟨u,rfl,ru⟩:=rv.one;cases ru;obtain⟨t',ht',xs,hH,nr,nd,hs⟩:=r.addr hg;rw[hn]at ht';cases ht';obtain⟨es,ep,de,he⟩:=L7 I hH;have hmem:=nr.mem;have al:NK.Al ((NK.tagV X.prog X.w τ).is s.heap) (ks.map (·.1)) (xs.map λx=>Value.ref x.2.1):=by rw[gV nr];exact L9 λx hx=>let ⟨d,h1,h2⟩:=hmem x hx;Z6 I h2 rfl h1
 refine KY (us:=xs.map λx=>Value.ref x.2.1) I hu al hnd hok h64 (λu hm=>?_) (λ{R} hR=>?_) hQ
 ·obtain⟨y,hy,rfl⟩:=UR.mp hm;obtain⟨d,h1,h2⟩:=hmem y hy;exact⟨_,y.1,rfl,Z6 I h2 rfl h1,by rw[<-LQ h1];exact h2⟩
 ·have hl:es.size=ks.length:=(XJ he).trans (Paired.length nr);have h2:=Z5;refine kdu_collect (NK.srcK (es:=es) (ep:=ep) hs) (I.ok.hd hc) de (by omega) λh' tk acc kp hacc=>?_;rw[IU he hacc];exact hR h' tk kp
theorem Ma(I:Inv X pins σ H s)(qs:Dens X.K μ H vs ds)(rvs:Vals vs us)(hk:Jd τ ds=some ks):NK.Al ((NK.tagV X.prog X.w τ).is s.heap) ks us/\∀u∈us,∃a k,u=.ref a/\(NK.tagV X.prog X.w τ).is s.heap k u/\Den X.K μ H (.ref a) (kD k):=by
 obtain⟨rfl,p⟩:=IK hk;clear hk;induction ks generalizing vs us with
 |nil=>cases qs;cases rvs;exact⟨.nil,λu hu=>by cases hu⟩|cons k ks ih=>
  cases qs with
  |cons q qs=>cases rvs with
   |cons rv rvs=>
    obtain⟨q1,q2⟩:=ih (qs:=qs) (rvs:=rvs) (p:=λk hk=>p k (.tail _ hk));have h1:Yl τ (kD k)=some k:=AY (p k (.head _));have ht:=Z6 I q rv h1;refine⟨.cons ht q1,λu hu=>?_⟩;rcases UG.mp hu with rfl|hu
    ·obtain⟨a,e⟩:=Xk q h1;subst e;cases rv;exact⟨a,k,rfl,ht,q⟩
    ·exact q2 u hu
theorem Gb(hu:X.A.units+16<cLine):YA X (.builtin "sorted") (λvs H Q=>∃(p:Addr)(ys:List V)(ds:List D)(g:G)(μ:List Addr)(τ:Bool)(ks:List NK.SK),vs=[.ref p]/\H p=some (.lst ys)/\GRep X.K ca μ H g/\Dens X.K μ H ys ds/\Jd τ ds=some ks/\ks.length<1000/\ks.Nodup/\ks.all okK=true/\∀l ws,H l=none->Dens X.K μ H ws ((sortK ks).map kD)->Q (.ref l) (Za H l (.lst ws))):=by
 intro pins s σ H vs us Q I rv h;obtain⟨p,ys,ds,g,μ,τ,ks,rfl,hH,r,qs,hk,h64,hnd,hok,hQ⟩:=h;obtain⟨u,rfl,ru⟩:=rv.one;cases ru;obtain⟨its,rvs,pl,hz⟩:=I.list (.of hH);obtain⟨al,hb⟩:=Ma I qs rvs hk;have hlen:its.length<=sizeLine:=by rw[<-al.len];have:=TU;omega
 refine KY (us:=its) I hu al hnd hok h64 hb (λ{R} hR=>?_) hQ;exact collect_list pl.isList (hR _ _ λb o e=>(Heap.get?_update_ne _ _ _ _ (UY (UB e))).trans (Ub _ e)) hlen
end
section
variable{X:Cx}{ca:Nat->Addr}{e:Expr}{me:ME}{p pos:Pos}{k:Nat}
theorem NM(hr:Room k X.A)(hc:X.calm=true)(hm:X.mg "sorted"=none)(he:Qs ca X e me)(hg:Gl X "sorted":=by exact Eq.refl (some _))(hs:starEach [e] X.env=[(false,eval e X.env)]:=by rfl)(hpl:(backTo pos (starEach [] X.env)).any (·.1)=false:=by exact Eq.refl false):
  Qs ca X (.Call (.Name "sorted" p) [e] [] pos) (Qi V0 me):=
 Eg (r:=λvs H Q=>∃x,vs=[x]/\rD X.K ca x H λ_ μ _ ks=>(ks.map (·.1)).length<1000/\(ks.map (·.1)).Nodup/\(ks.map (·.1)).all okK=true/\∀l ws,H l=none->Dens X.K μ H ws ((sortK (ks.map (·.1))).map kD)->Q (.ref l) (Za H l (.lst ws))) (Ga (X:=xo X) hc (by have:=hr.units;show X.A.units+16<cLine;omega)) hm boot_sorted (λH μ g y d Q r q pp=>by
  obtain⟨g',μ',n,t,τ,ks,r',a1,a2,a3,a4,e1,e2,p'⟩:=bJ (F:=λks=>Hk (ks.map (·.1)) g) r q pp;subst e1 e2;unfold Hk at p';by_cases z:(ks.map (·.1)).length<1000/\(ks.map (·.1)).Nodup/\(ks.map (·.1)).all okK=true
  ·rw[Uf z]at p';exact⟨y,rfl,g',μ',n,t,τ,ks,r',a1,a2,a3,a4,z.1,z.2.1,z.2.2,λl ws hl hw=>p' _ _ (μ'++[l]) (Q3 hl) (r'.push hl ⟨_,Qr,hw.mono (Q3 hl)⟩) (.ref (by rw[<-r'.len];simp))⟩
  ·rw[Uh z]at p';exact p'.elim) he hg (by decide) (by decide) hs hpl
end
section
variable{X:Cx}{ca:Nat->Addr}{e:Expr}{me:ME}{p pos:Pos}{k:Nat}
theorem NN(hr:Room k X.A)(hm:X.mg "sorted"=none)(he:Qs ca X e me)(hg:Gl X "sorted":=by exact Eq.refl (some _))(hs:starEach [e] X.env=[(false,eval e X.env)]:=by rfl)(hpl:(backTo pos (starEach [] X.env)).any (·.1)=false:=by exact Eq.refl false):
  Qs ca X (.Call (.Name "sorted" p) [e] [] pos) (Qi V1 me):=
 Eg (r:=λvs H Q=>∃(p:Addr)(ys:List V)(ds:List D)(g:G)(μ:List Addr)(τ:Bool)(ks:List NK.SK),vs=[.ref p]/\H p=some (.lst ys)/\GRep X.K ca μ H g/\Dens X.K μ H ys ds/\Jd τ ds=some ks/\ks.length<1000/\ks.Nodup/\ks.all okK=true/\∀l ws,H l=none->Dens X.K μ H ws ((sortK ks).map kD)->Q (.ref l) (Za H l (.lst ws))) (Gb (X:=xo X) (by have:=hr.units;show X.A.units+16<cLine;omega)) hm boot_sorted (λH μ g y d Q r q pp=>by
  unfold V1 at pp;cases q with
  |@ref n t hn=>
   dsimp only at pp;cases hgn:g[n]? with
   |none=>rw[hgn]at pp;exact pp.elim|some ob=>
    rw[hgn]at pp;obtain⟨t',ht',orp⟩:=r.addr hgn;rw[hn]at ht';cases ht';cases ob with
    |lst ds=>
     obtain⟨ys,hH,qs⟩:=orp;dsimp only at pp;have fin:∀(τ:Bool)(ks:List NK.SK),Jd τ ds=some ks->Jg X.K ca Q H μ (Hk ks g)->∃(p:Addr)(ys:List V)(ds:List D)(g:G)(μ:List Addr)(τ:Bool)(ks:List NK.SK),[V.ref t]=[.ref p]/\H p=some (.lst ys)/\GRep X.K ca μ H g/\Dens X.K μ H ys ds/\Jd τ ds=some ks/\ks.length<1000/\ks.Nodup/\ks.all okK=true/\∀l ws,H l=none->Dens X.K μ H ws ((sortK ks).map kD)->Q (.ref l) (Za H l (.lst ws)):=λτ ks hk p'=>by
      unfold Hk at p';by_cases z:ks.length<1000/\ks.Nodup/\ks.all okK=true
      ·rw[Uf z]at p';exact⟨t,ys,ds,g,μ,τ,ks,rfl,hH,r,qs,hk,z.1,z.2.1,z.2.2,λl ws hl hw=>p' _ _ (μ++[l]) (Q3 hl) (r.push hl ⟨_,Qr,hw.mono (Q3 hl)⟩) (.ref (by rw[<-r.len];simp))⟩
      ·rw[Uh z]at p';exact p'.elim
     cases h0:Jd false ds with
     |some ks=>rw[h0]at pp;exact fin false ks h0 pp|none=>
      rw[h0]at pp;dsimp only at pp;cases h1:Jd true ds with
      |some ks=>rw[h1]at pp;exact fin true ks h1 pp|none=>rw[h1]at pp;exact pp.elim
    |_=>exact pp.elim
  |_=>exact pp.elim) he hg (by decide) (by decide) hs hpl
end
end L3
namespace NK
open PySem PyProof.Rows
theorem Kz:fillsNumberSlot (.type "tuple") "mul"=pure false:=PySem.fillsNumberSlot_seq (id:="tuple.__mul__") (r:=some (.builtin "tuple.__rmul__")) B0.lookup (by decide +kernel) F.slot_tuple_rmul.lookup (by decide +kernel)
theorem Gc:seqRepeat? (.type "tuple")=pure (some (.builtin "tuple.__mul__")):=by unfold seqRepeat?;rw[PySem.seqSlot_of (T:="tuple") (name:="__mul__") (id:="tuple.__mul__") B0.lookup (by decide +kernel),PySem.seqSlot_of (T:="tuple") (name:="__rmul__") (id:="tuple.__rmul__") F.slot_tuple_rmul.lookup (by decide +kernel)];rfl
theorem IV(a:Int)(t:Tok)(l:Addr)(cls:Value)(dd:Option Addr)(items:Array Value)(n:Nat)(sl:Array (Option Value))(hc:cls=.type "tuple"):
  Meets (Builtin.«int.__rmul__» ⟨[.int a t,.ref l],[]⟩) (λ_ R s=>s.heap.get? l=some {cls:=cls,dict:=dd,data:=.seq items n,slots:=sl}/\R (.ok (.ret Value.notImplemented)) s):=
 .of_wp λprog w A R s h=>by subst hc;obtain⟨hp,g,d,tk,os⟩:=s;obtain⟨hl,h⟩:=h;wp_walk;exact⟨_,rfl,h⟩
section
variable{prog:Program}{w:World}{A:Around}{E:VP}{s:Shared}
theorem Fv(xs:Array Value):∀(m:Nat)(acc:Array Value),((List.replicate m xs).foldl (· ++ ·) acc).size=acc.size+m*xs.size
 |0,acc=>by simp
 |m+1,acc=>by rw[RO,pJ,Fv xs m,WJ,Nat.add_mul];omega
theorem P1{a:Addr}{us:List Value}{n:Int}{t:Tok}{Q:VP}(ht:Tp s.heap a us)(hne:us≠[])(h1:1<=n)(hz:(us.length:Int)*n<=100000)(hq1:n=1->Q (.ref a) s)(hq2:n≠1->Q (.ref s.heap.objs.size) {s with heap:=s.heap.push {cls:=.type "tuple",data:=.seq ((List.replicate n.toNat us.toArray).foldl (· ++ ·) #[])} }):wpAny (model prog w) A (call (.builtin "tuple.__mul__") [.ref a,.int n t]) Q E s:=by
 have hT:=ht.typeIs;obtain⟨o,items,k,ho,hc,hd,rfl⟩:=ht;refine UW B0 hT F.entry_tuple_mul ?_ (F.args_tuple_mul_2 _ _);have hpos:0<items.size:=by
  rcases Nat.eq_zero_or_pos items.size with z|z
  ·exact absurd (by simpa using z) hne
  ·exact z
 have hle:n<=100000:=by rw[Uo]at hz;have:(1:Int)*n<=(items.size:Int)*n:=Int.mul_le_mul_of_nonneg_right (by omega) (by omega);omega
 have hemp:items.isEmpty=false:=by
  cases h:items.isEmpty with
  |false=>rfl|true=>exact absurd hpos (by rw[Array.isEmpty_iff.mp h];decide)
 show wpAny _ _ (asIndex (.int n t) >>= _) _ _ s;refine Ua (m:=asIndex (.int n t)) (RJ (a:=n) rfl ?_);dsimp only;rw[Uh (by simp only[Bool.or_eq_true,Tg];omega)];refine Ua (Ru ho hd ?_);rw[hemp];by_cases e:n=1
 ·subst e;rw[Uf (by rfl)];unfold Builtin.Tuple.tupleIsExact;refine Ua (Ua (Rr hT (Uc ?_)));rw[Uf (by rfl)];exact Ua (TC (Uc ⟨_,rfl,hq1 rfl⟩))
 ·rw[Uh (by simpa using e),Uh (by simp only[pL,Tg];omega)];rw[Uo]at hz;rw[Uh (by show ¬((items.size:Int)*n>(2^63-1) / 8);omega)];have hm:Builtin.Tuple.tupleTooMany ((items.size:Int)*n)=false:=by unfold Builtin.Tuple.tupleTooMany;have:=TU;rw[Uv (by omega)]
  rw[Uh (by rw[hm];exact Uj)];unfold Builtin.Tuple.tupleExact;refine Ua (UP (Uc ⟨_,rfl,hq2 e⟩) (hd:=by
   have hs:=Fv items n.toNat #[];have h0:((n.toNat*items.size:Nat):Int)=(items.size:Int)*n:=by rw[Int.natCast_mul,To (by omega),Int.mul_comm]
   have:=TU;have h3:n.toNat*items.size<=100000:=by omega
   simp only[sizeOk,hs];simp;omega))
theorem mul_tup{a:Addr}{us:List Value}{n:Int}{t:Tok}{Q:VP}(ht:Tp s.heap a us)(hne:us≠[])(h1:1<=n)(hz:(us.length:Int)*n<=100000)(hq1:n=1->Q (.ref a) s)(hq2:n≠1->Q (.ref s.heap.objs.size) {s with heap:=s.heap.push {cls:=.type "tuple",data:=.seq ((List.replicate n.toNat us.toArray).foldl (· ++ ·) #[])} }):wpAny (model prog w) A (binaryOp .Mult (.ref a) (.int n t)) Q E s:=by
 have hT:=ht.typeIs;obtain⟨⟨cls,dd,data,sl⟩,items,k,ho,hc,hd,e⟩:=id ht;simp only at hc hd;subst hd;refine wpAny_binaryOp_repeat_ref (T:="tuple") (U:="int") (by decide) hT (λs'=>typeIs_int s' n t) Kz F.fills_int_mul F.slot_int_rmul Gc F.slot_int_index.lookup
  (BC F.slot_int_rmul (typeIs_int s n t) F.entry_int_rmul (F.args_int_rmul_2 _ _) (IV n t a cls dd items k sl hc) ⟨ho,rfl,hT,P1 ht hne h1 hz hq1 hq2⟩)
end
end NK
namespace L3
open PySem
def Hl(x y:D)(g:G):Res D:=match x,y with
 |.tup [d],.int n=>if 1<=n/\n<=1000 then .ok (.tup (List.replicate n.toNat d)) g else .stuck
 |_,_=>.stuck
open PySem.Spec PyProof.Rows L2
theorem Hm(u:Value):∀(m:Nat)(acc:List Value),((List.replicate m #[u]).foldl (· ++ ·) acc.toArray)=(acc++List.replicate m u).toArray
 |0,acc=>by simp
 |m+1,acc=>by rw[RO,pJ,show acc.toArray ++ #[u]=(acc++[u]).toArray by simp,Hm u m,RO];simp
theorem Hn(h:RelV v u):∀m,Vals (List.replicate m v) (List.replicate m u)
 |0=>.nil|m+1=>.cons h (Hn h m)
theorem Ho{K:Frag}{μ:List Addr}{H:Hp}{v:V}{d:D}(h:Den K μ H v d):∀m,Dens K μ H (List.replicate m v) (List.replicate m d)
 |0=>.nil|m+1=>.cons h (Ho h m)
def bK(K:Frag):R2:=λx y H Q=>∃a v n,x=.ref a/\y=.int n/\SqT K H a [v]/\1<=n/\n<=1000/\(n=1->Q (.ref a) H)/\(n≠1->∀l,H l=none->Q (.ref l) (Za H l (.tup (List.replicate n.toNat v))))
section
variable{X:Cx}
theorem DF:OpR X (binaryOp .Mult) (bK X.K):=by intro pins s σ H x y v u Q I rx ry h;obtain⟨a,w,n,rfl,rfl,ha,h1,h2,q1,q2⟩:=h;cases rx;obtain⟨t,rfl⟩:=ry;obtain⟨its,r1,tp⟩:=L6 I ha;obtain⟨u,rfl,ru⟩:=r1.one;refine NK.mul_tup tp (by simp) h1 (by simp;omega) (λe=>⟨.ref a,H,I,rfl,q1 e⟩) λe=>?_;have ef:=Hm u n.toNat [];rw[RC]at ef;have ef:(List.replicate n.toNat [u].toArray).foldl (· ++ ·) #[]=(List.replicate n.toNat u).toArray:=ef;rw[ef];refine⟨.ref s.heap.objs.size,_,I.laid (t':=s.toks) (o:=.tup (List.replicate n.toNat w)) (λb ob q=>Ub _ q) (Ug _) ?_,rfl,q2 e _ (I.hok.fresh (Ug _))⟩;exact⟨by rw[U9];have:=TU;omega,_,Hn ru _,IsTup.new _ _⟩
end
section
variable{X:Cx}{ca:Nat->Addr}{a b:Expr}{ma mb:ME}{pos:Pos}
theorem gW(ha:Qs ca X a ma)(hb:Qs ca X b mb):Qs ca X (.BinOp a .Mult b pos) (Qc Hl ma mb):=
 Fk (r:=bK X.K) (DF (X:=xo X)) (λH μ g x y dx dy Q r qx qy p=>by
  unfold Hl at p;cases qx with
  |@tup ax xs dsx hx hsx=>
   cases qy with
   |int n=>
    cases hsx with
    |nil=>exact p.elim|cons q1 qs=>
     cases qs with
     |nil=>
      dsimp only at p;by_cases z:1<=n/\n<=1000
      ·rw[Uf z]at p;refine⟨ax,_,n,rfl,rfl,hx,z.1,z.2,λe=>?_,λ_ l hl=>p _ _ μ (Q8 hl) (r.new hl) (.tup (.of Qr) ((Ho q1 _).mono (Q8 hl)))⟩;subst e;exact p _ H μ .refl r (.tup hx (.cons q1 .nil))
      ·rw[Uh z]at p;exact p.elim
     |cons _ _=>exact p.elim
   |_=>cases hsx with
    |nil=>exact p.elim|cons _ qs=>cases qs<;>exact p.elim
  |_=>exact p.elim) ha hb
end
end L3
namespace L3
open PySem
def ZA(x y:D)(g:G):Res D:=match x,y with
 |.ref n,.str z=>(match g[n]? with
  |some (.dct ks)=>(match E1 ks (.inr z) with
   |some v=>.ok v g|none=>.stuck)
  |_=>.stuck)
 |_,_=>.stuck
open PySem.Spec PyProof.Rows L2
section
variable{X:Cx}{ca:Nat->Addr}{a b:Expr}{ma mb:ME}{pos:Pos}
theorem NO{K:Frag}:Yd K ca (λx y H Q=>∃a kvs k v,x=.ref a/\y=kV k/\H a=some (.dK kvs)/\Ej kvs k=some v/\Q v H) ZA:=by
 intro H μ g x y dx dy Q r qx qy p;unfold ZA at p;cases qx with
 |@ref n t hn=>
  cases qy with
  |str i=>
   dsimp only at p;cases hg:g[n]? with
   |none=>rw[hg]at p;exact p.elim|some ob=>
    rw[hg]at p;obtain⟨t',ht',orp⟩:=r.addr hg;rw[hn]at ht';cases ht';cases ob with
    |dct ks=>
     obtain⟨kv,hH,q⟩:=orp;dsimp only at p;rcases q.get (.inr i) with⟨a,b⟩|⟨v,d,a,b,c⟩
     ·rw[b]at p;exact p.elim
     ·rw[b]at p;exact⟨t,kv,.inr i,v,rfl,rfl,hH,a,p v H μ .refl r c⟩
    |_=>exact p.elim
  |_=>exact p.elim
 |_=>cases qy<;>exact p.elim
theorem gX(ha:Qs ca X a ma)(hb:Qs ca X b mb)(hs:Co b:=by exact λ_ _=>rfl):Qs ca X (.Subscript a b pos) (Qc ZA ma mb):=lP PU NO ha hb hs
end
end L3
namespace L3
open PySem
def Hq(f:Ja×D->D)(x:D)(g1:G):Res Src:=match x with
 |.ref n=>(match g1[n]? with
  |some (.dcn τ ks)=>.ok ⟨λ_ i=>some (ks.map f)[i]?,ks.length⟩ (g1.set n (.dcf τ ks))|_=>.stuck)
 |_=>.stuck
def Fw(f:Ja×D->D)(e:ME):MI:=λσ g=>(e σ g).bind (Hq f)
def IW:=Fw λp=>kD p.1
def P2:=Fw λp=>p.2
def Er(i:Nat)(n:Nat)(cap:List Nat)(t:MG)(c:MT)(e:ME):ME:=λσ g=>match Qa i σ g with
 |.ok (.ref r) _=>(match Zq (IW (Qa i)) n cap t c e σ g with
  |.ok d g'=>(match g[r]?,g'[r]? with
   |some (.dcn _ _),some (.dcf τ ks)=>.ok d (g'.set r (.dcn τ ks))|_,_=>.stuck)
  |_=>.stuck)
 |_=>.stuck
open PySem.Spec PyProof.Rows L2
section
variable{X:Cx}{ca:Nat->Addr}
def jA(a:Addr)(o:Obj)(xs:List (NK.SK×Addr×Value))(ws:List V):It:=⟨λi H=>H a=some (.frz o (ND a xs))/\i<xs.length,λi H x H'=>H'=H/\ws[i]?=some x,λi H=>H a=some (.frz o (ND a xs))/\xs.length<=i⟩
theorem Mb:∀{ws:List V}{us:List Value},Vals ws us->∀{i:Nat}{u:Value},us[i]?=some u->∃x,ws[i]?=some x/\RelV x u
 |_,_,.nil,i,u,h=>by cases h
 |_,_,.cons a r,0,u,h=>by cases h;exact⟨_,rfl,a⟩
 |_,_,.cons a r,i+1,u,h=>Mb r h
theorem Mc(I:Inv X pins σ H s)(e:H a=some (.frz o (ND a xs)))(hoe:o.data=.dict es ep):NK.DE s.heap a es ep/\es.toList=NK.ents xs:=by obtain⟨ho,⟨o',es',ep',ho',hc,hd,he⟩,_⟩:=(show ObjOk X.prog X.w H s.heap a (.frz o (.ext (NK.DObj a xs))) from I.hok a _ e);rw[ho]at ho';cases ho';rw[hoe]at hd;cases hd;exact⟨⟨o,ho,hc,hoe⟩,he⟩
theorem DG{es:Array DictEntry}{xs:List (NK.SK×Addr×Value)}(h:es.toList=NK.ents xs){i:Nat}(hi:i<es.size)(hx:i<xs.length):es[i].key=.ref xs[i].2.1/\es[i].val=xs[i].2.2:=by
 have e1:es.toList[i]?=some es[i]:=by simp[hi]
 rw[h]at e1;unfold NK.ents at e1;rw[UL,UK hx]at e1;injection e1 with e1;rw[<-e1];exact⟨rfl,rfl⟩
theorem P3(b:Bool){P:Program}{w:World}{K:Frag}{tg:Expr}(a it:Addr){o:Obj}{es:Array DictEntry}{ep:Nat}{xs:List (NK.SK×Addr×Value)}{ws:List V}(hoe:o.data=.dict es ep)(hv:Vals ws (xs.map λx=>if b=true then x.2.2 else .ref x.2.1)):Turn P w K tg (jA a o xs ws) [it] it (λi h=>NK.itIs b h it a i es.size ep) where
 mem:=by simp
 obj:=λi h st b' hb=>by
  have e:b'=it:=by simpa using hb
  subst e;cases b;all_goals
   obtain⟨o,e,c,d⟩:=id st;exact⟨o,e,λv z=>by rw[d]at z;cases z⟩
 keep:=λi h h' st k=>by
  cases b;all_goals
   obtain⟨o,e,c⟩:=id st;exact⟨o,k it (by simp) o e,c⟩
 item:=by
  intro X hP hw hK hc i pins s σ H E I hf st hg;subst hP hw hK;obtain⟨e,hi⟩:=hg;obtain⟨de,he⟩:=Mc I e hoe;obtain⟨f0,f1,f2,f3,f4,f5⟩:=hf it (by simp);have hsz:=XJ he;have hi':i<es.size:=by omega
  refine NK.next_item b st de hi' λh' st' sb=>?_;have I1:Inv X pins σ H {s with heap:=h'}:=I.turned (t':=s.toks) (λb o hb e=>(sb.2 b hb).trans e) f0 f1 f3 f4 f5;obtain⟨v,hw,rv⟩:=Mb hv (i:=i) (u:=if b=true then xs[i].2.2 else .ref xs[i].2.1) (by simp[hi]);obtain⟨k1,k2⟩:=DG he hi' hi;rw[k1,k2];refine⟨_,rfl,?_⟩;have fin:∃x H',Inv X pins σ H' {s with heap:=h'}/\RelV x (if b=true then xs[i].2.2 else .ref xs[i].2.1)/\(jA a o xs ws).yld i H x H'/\NK.itIs b h' it a (i+1) es.size ep/\∀b∈[it],H' b=none:=⟨v,H,I1,rv,⟨rfl,hw⟩,st',λb hb=>(hf b hb).1⟩;cases b;all_goals
   obtain⟨ob,e',c,d⟩:=id st';exact LC (s:={s with heap:=h'}) e' c d (by decide) fin
 done:=by intro X hP hw hK hc i pins s σ H E I hf st hg;subst hP hw hK;obtain⟨e,hi⟩:=hg;obtain⟨de,he⟩:=Mc I e hoe;obtain⟨f0,f1,f2,f3,f4,f5⟩:=hf it (by simp);have hsz:=XJ he;exact NK.next_end b (I.ok.hd hc) st de (by omega) λh' eb=>⟨rfl,I.turned (t':=s.toks) (λb o hb e=>eb b o hb e) f0 f1 f3 f4 f5⟩
 self:=λ_ _ _ _ _ st h=>by
  cases b
  ·exact wpAny_pyIter_keyiter st h
  ·exact wpAny_pyIter_valiter st h
theorem Md(I:Inv X pins σ H s)(e:H a=some (ND a xs))(ho:s.heap.get? a=some o):Inv X pins σ (Za H a (.frz o (ND a xs))) s:=by obtain⟨x,_⟩:=(show ObjOk X.prog X.w H s.heap a (.ext (NK.DObj a xs)) from I.hok a _ e);exact I.write (x:=a) (e:=a) (h':=s.heap) (t':=s.toks) (o:=.frz o (ND a xs)) (by rw[e];trivial) (.inl rfl) (λ_ _ _ h=>h) ⟨o,ho⟩ ⟨ho,Hg x⟩
theorem DH{tg l:Expr}{tl:TE}(hl:PE X l tl):PI X tg l (λσ H R=>tl σ H λx H1=>∃a xs ws,x=.ref a/\H1 a=some (ND a xs)/\(a==sysModules)=false/\Vals ws (xs.map λx=>Value.ref x.2.1)/\∀o,R (jA a o xs ws) (Za H1 a (.frz o (ND a xs)))):=by
 intro pins s σ H R I h;refine Zx (hl pins s σ H _ I h) λv s1 ⟨x,H1,I1,r1,q1⟩=>?_;obtain⟨a,xs,ws,rfl,e,hs,hv,q⟩:=q1;cases r1;obtain⟨es,ep,de,he⟩:=L7 I1 e;obtain⟨o,ho,hc,hd⟩:=id de;have I2:=Md I1 e ho;refine NK.iterK hs de ?_;refine⟨s1.heap.objs.size,[s1.heap.objs.size],_,_,_,rfl,I2.kept (t':=s1.toks) λb o e=>Ub _ e,P3 false a _ hd hv,⟨_,Uu _ rfl,rfl,rfl⟩,λb hb=>?_,q o⟩;have e:b=s1.heap.objs.size:=by simpa using hb
 subst e;exact I2.fpOk (Ug _) (I2.hok.fresh (Ug _))
theorem DI{tg l:Expr}{tl:TE}{apos cpos:Pos}(hl:PE X l tl)(hbase:attributeBase l "values" X.env (eval l X.env)=eval l X.env)(hline:(apos.endLine==cpos.line)=true):
  PI X tg (.Call (.Attribute l "values" apos) [] [] cpos) (λσ H R=>tl σ H λx H1=>∃a xs ws,x=.ref a/\H1 a=some (ND a xs)/\(a==sysModules)=false/\Vals ws (xs.map λx=>x.2.2)/\∀o,R (jA a o xs ws) (Za H1 a (.frz o (ND a xs)))):=by
 intro pins s σ H R I h;refine wpAny_Call_method0_late hbase hline (Zx (hl pins s σ H _ I h) λv s1 ⟨x,H1,I1,r1,q1⟩=>?_);obtain⟨a,xs,ws,rfl,e,hs,hv,q⟩:=q1;cases r1;obtain⟨es,ep,de,he⟩:=L7 I1 e;obtain⟨o,ho,hc,hd⟩:=id de;have I2:=Md I1 e ho;refine⟨"dict","dict.values",Wy,BO,rfl,⟨o,ho,hc.1⟩,λa e=>by cases e;exact⟨o,ho,hc.2.1⟩,?_⟩;refine RS rfl (PySem.evalArgs_none ?_);refine WS BO de.typeIs PySem.F.entry_dict_values (PySem.F.args_dict_values_1 _) (NK.valuesK hs) ⟨⟨es,ep,de⟩,?_⟩;have kp:∀b ob,s1.heap.get? b=some ob->(s1.heap.push {cls:=.type "dict_values",data:=.fields #[.ref a]}).get? b=some ob:=λb ob e=>Ub _ e;refine NK.iterV (s:={s1 with heap:=s1.heap.push {cls:=.type "dict_values",data:=.fields #[.ref a]} }) ⟨_,Uu _ rfl,rfl,rfl⟩ (de.at' λo e=>kp _ _ e) ?_;have I3:Inv X pins σ (Za H1 a (.frz o (ND a xs))) {s1 with heap:=s1.heap.push {cls:=.type "dict_values",data:=.fields #[.ref a]} }:=I2.kept (t':=s1.toks) kp;refine⟨_,[_],_,_,_,rfl,I3.kept (t':=s1.toks) λb o e=>Ub _ e,P3 true a _ hd hv,⟨_,Uu _ rfl,rfl,rfl⟩,λb hb=>?_,q o⟩;have e:b=(s1.heap.push {cls:=.type "dict_values",data:=.fields #[.ref a]}).objs.size:=by simpa using hb
 subst e;exact I3.fpOk (Ug _) (I3.hok.fresh (Ug _))
end
section
variable{X:Cx}{ca:Nat->Addr}{e tg:Expr}{me:ME}{p pos:Pos}
theorem Me{K:Frag}{μ:List Addr}{H:Hp}:∀{ws:List V}{ds:List D},Dens K μ H ws ds->∀{i:Nat}{x:V},ws[i]?=some x->∃d,ds[i]?=some d/\Den K μ H x d
 |_,_,.nil,i,u,h=>by cases h
 |_,_,.cons a r,0,u,h=>by cases h;exact⟨_,rfl,a⟩
 |_,_,.cons a r,i+1,u,h=>Me r h
theorem nF{K:Frag}{μ:List Addr}{H:Hp}{a:Addr}{o:Obj}{xs:List (NK.SK×Addr×Value)}{ws:List V}{ds:List D}{n:Nat}(h:H a=some (.frz o (ND a xs)))(hl:xs.length=ds.length)(dn:Dens K μ H ws ds):A5 K ca μ H ⟨λ_ i=>some ds[i]?,n⟩ (jA a o xs ws):=by
 intro i H1 μ1 g1 e r;dsimp only;have h1:=e.frz _ _ _ h;by_cases hi:i<ds.length
 ·rw[UK hi];exact⟨⟨h1,by omega⟩,λx H' y=>by obtain⟨rfl,y1⟩:=y;obtain⟨d,z1,z2⟩:=Me dn y1;rw[UK hi]at z1;cases z1;exact⟨.refl,r,z2.mono e⟩⟩
 ·rw[TZ (Wj hi)];exact⟨h1,by omega⟩
theorem nG{K:Frag}{τ:Bool}{μ:List Addr}{H:Hp}{xs:List (NK.SK×Addr×Value)}{ks:List (NK.SK×D)}(h:NRel K τ μ H xs ks):∃ws,Vals ws (xs.map λx=>x.2.2)/\Dens K μ H ws (ks.map λp=>p.2):=by
 unfold NRel at h;induction h with
 |nil=>exact⟨[],.nil,.nil⟩|cons a _ ih =>obtain⟨_,_,v,h1,h2⟩:=a;obtain⟨ws,h3,h4⟩:=ih;exact⟨v::ws,.cons h1 h3,.cons h2 h4⟩
theorem Hr:∀xs:List (NK.SK×Addr×Value),Vals (xs.map λx=>V.ref x.2.1) (xs.map λx=>Value.ref x.2.1)
 |[]=>.nil|_::r=>.cons rfl (Hr r)
def nH(K:Frag)(ca:Nat->Addr)(R:It->Hp->Prop)(H:Hp)(μ:List Addr):Res Src->Prop
 |.ok src g'=>∀J H' μ',Ext K μ H μ' H'->GRep K ca μ' H' g'->A5 K ca μ' H' src J->R J H'|.stuck=>False
theorem P4{K:Frag}{f:NK.SK×D->D}{u:NK.SK×Addr×Value->Value}{R:It->Hp->Prop}{H H1:Hp}{μ μ1:List Addr}{g1:G}{v:V}{d:D}(e1:Ext K μ H μ1 H1)(r1:GRep K ca μ1 H1 g1)(q1:Den K μ1 H1 v d)(hS:∀τ μ H xs ks,NRel K τ μ H xs ks->∃ws,Vals ws (xs.map u)/\Dens K μ H ws (ks.map f))(p:nH K ca R H μ (Hq f d g1)):∃a xs ws,v=.ref a/\H1 a=some (ND a xs)/\(a==sysModules)=false/\Vals ws (xs.map u)/\∀o,R (jA a o xs ws) (Za H1 a (.frz o (ND a xs))):=by
 unfold Hq at p;cases q1 with
 |@ref n a hn=>
  dsimp only at p;cases hg:g1[n]? with
  |none=>rw[hg]at p;exact p.elim|some ob=>
   rw[hg]at p;obtain⟨a',ha',orp⟩:=r1.addr hg;rw[hn]at ha';cases ha';cases ob with
   |dcn τ ks =>obtain⟨xs,hH,nr,nd,hs⟩:=orp;have ex:∀o,Ext K μ1 H1 μ1 (Za H1 a (.frz o (ND a xs))):=λo=>Z4 hH (λ_ z=>by unfold ND at z;cases z) (λ_ _ z=>by unfold ND at z;cases z);obtain⟨ws,hv,dn⟩:=hS _ _ _ _ _ nr;exact⟨a,xs,ws,rfl,hH,hs,hv,λo=>p _ _ μ1 (e1.trans (ex o)) (r1.set hn hH (λ_ z=>by unfold ND at z;cases z) (λ_ _ z=>by unfold ND at z;cases z) ⟨o,xs,Qr,nr.mono (ex o),nd,hs⟩) (nF Qr ((Paired.length nr).trans (Ue ..).symm) (dn.mono (ex o)))⟩
   |_=>exact p.elim
 |_=>exact p.elim
theorem nI(he:Qs ca X e me):Pm ca X tg e (IW me):=
 Xi (DH (X:=xo X) he) λσ H R hQ=>by
  obtain⟨σ3,g,μ,Rp,p⟩:=hQ;unfold IW Fw at p;refine⟨σ3,g,μ,Rp,?_⟩;cases hm:me σ3 g with
  |stuck=>rw[hm]at p;exact p.elim|ok d g1 =>rw[hm,Res.bind_ok]at p;intro v H1 μ1 e1 r1 q1;exact P4 e1 r1 q1 (λτ μ H xs ks nr=>⟨_,Hr xs,DD nr⟩) p
theorem nJ(he:Qs ca X e me)(hbase:attributeBase e "values" X.env (eval e X.env)=eval e X.env:=by rfl)(hline:(apos.endLine==cpos.line)=true:=by exact Eq.refl true):Pm ca X tg (.Call (.Attribute e "values" apos) [] [] cpos) (P2 me):=
 Xi (DI (X:=xo X) he hbase hline) λσ H R hQ=>by
  obtain⟨σ3,g,μ,Rp,p⟩:=hQ;unfold P2 Fw at p;refine⟨σ3,g,μ,Rp,?_⟩;cases hm:me σ3 g with
  |stuck=>rw[hm]at p;exact p.elim|ok d g1 =>rw[hm,Res.bind_ok]at p;intro v H1 μ1 e1 r1 q1;exact P4 e1 r1 q1 (λτ μ H xs ks nr=>nG nr) p
end
theorem nK(I:Inv X pins σ H s)(e:H t=some (.frz o (ND t kv)))(hn:∀o u,X.H₀ t≠some (.frz o u)):Inv X pins σ (Za H t (ND t kv)) s:=by
 obtain⟨ho,hk⟩:=(show ObjOk X.prog X.w H s.heap t (.frz o (ND t kv)) from I.hok t _ e);have ne:∀{b:Addr},H b=none->b≠t:=λh=>(Q4 e h).symm;have hu:∀{b:Addr},b≠t->Za H t (ND t kv) b=H b:=λh=>QH h;refine⟨I.ok,I.os,I.bare,⟨I.base.keep,I.base.slot,λb ob h1 h2 h3=>?_,I.base.there,λb xs h=>?_,λb ob u h=>?_,λb ps h=>?_⟩,I.loc,I.cell,?_,λx c h=>?_,λp hp=>?_,?_,I.len⟩
 ·have:=I.base.free b ob h1 h2 h3;rw[hu (ne this)];exact this
 ·have:=I.base.tups b xs h;rw[hu (VE this e (λz=>by cases z))];exact this
 ·have:=I.base.frzs b ob u h;rw[hu (λz=>by subst z;exact hn _ _ h)];exact this
 ·obtain⟨more,h2⟩:=I.base.tbls b ps h;exact⟨more,by rw[hu (VE h2 e (λz=>by cases z))];exact h2⟩
 ·rw[hu (ne I.free)];exact I.free
 ·rw[hu (ne (I.freeC x c h))];exact I.freeC x c h
 ·obtain⟨a1,a2,a3⟩:=I.pin p hp;exact⟨a1,by rw[hu (ne a2)];exact a2,a3⟩
 ·intro b u q;by_cases hb:b=t
  ·subst hb;rw[Qr]at q;cases q;exact hk
  ·rw[hu hb]at q;exact(I.hok b u q).stay (λ_ _ _ z=>z) (λc z=>by rw[hu (VE z e (λz=>by cases z))];exact z) λc xs z=>by rw[hu (VE z e (λz=>by cases z))];exact z
section
variable{K:Frag}{ca:Nat->Addr}{μ:List Addr}{H H':Hp}
mutual
theorem Den.mv(ft:∀a xs,SqT K H a xs->SqT K H' a xs)(ff:∀a xs,SqF K H a xs->SqF K H' a xs):∀{v:V}{d:D},Den K μ H v d->Den K μ H' v d
 |_,_,.non=>.non|_,_,.bl b=>.bl b|_,_,.int i=>.int i|_,_,.str x=>.str x|_,_,.ref h=>.ref h|_,_,.tup h hs=>.tup (ft _ _ h) (Dens.mv ft ff hs)|_,_,.fl h hs=>.fl (ff _ _ h) (Dens.mv ft ff hs)
theorem Dens.mv(ft:∀a xs,SqT K H a xs->SqT K H' a xs)(ff:∀a xs,SqF K H a xs->SqF K H' a xs):∀{vs:List V}{ds:List D},Dens K μ H vs ds->Dens K μ H' vs ds
 |_,_,.nil=>.nil|_,_,.cons h hs=>.cons (Den.mv ft ff h) (Dens.mv ft ff hs)
end
theorem ORep.mv(ft:∀a xs,SqT K H a xs->SqT K H' a xs)(ff:∀a xs,SqF K H a xs->SqF K H' a xs)(ha:∀u,H a=some u->H' a=some u)(h:ORep K ca μ H a o):ORep K ca μ H' a o:=by
 cases o with
 |lst ds=>obtain⟨vs,h,q⟩:=h;exact⟨vs,ha _ h,q.mv ft ff⟩|ins c fs=>obtain⟨dx,fv,h,q⟩:=h;exact⟨dx,fv,ha _ h,Paired.imp' (λ_ _ q=>⟨q.1,q.2.mv ft ff⟩) q⟩|dct ks=>obtain⟨kv,h,q⟩:=h;exact⟨kv,ha _ h,Paired.imp' (λ_ _ q=>⟨q.1,q.2.mv ft ff⟩) q⟩|dcf t ks=>obtain⟨o,xs,h,q,r⟩:=h;exact⟨o,xs,ha _ h,Paired.imp' (λ_ _ q=>⟨q.1,let ⟨d,a,b⟩:=q.2.1;⟨d,a,b.mv ft ff⟩,let ⟨v,a,b⟩:=q.2.2;⟨v,a,b.mv ft ff⟩⟩) q,r⟩|dcn t ks=>obtain⟨xs,h,q,r⟩:=h;exact⟨xs,ha _ h,Paired.imp' (λ_ _ q=>⟨q.1,let ⟨d,a,b⟩:=q.2.1;⟨d,a,b.mv ft ff⟩,let ⟨v,a,b⟩:=q.2.2;⟨v,a,b.mv ft ff⟩⟩) q,r⟩
end
section
variable{X:Cx}{ca:Nat->Addr}{E:Expr}{i n:Nat}{cap:List Nat}{t:MG}{c:MT}{e:ME}
theorem DJ(h:Qs ca X E (Zq (IW (Qa i)) n cap t c e)):Qs ca X E (Er i n cap t c e):=λpins s σ H Q I hq=>by
 obtain⟨σ3,g,μ,R,q⟩:=hq;unfold Er at q;cases hm:Qa i σ3 g with
 |stuck=>rw[hm]at q;exact q.elim|ok d0 g0=>
  rw[hm]at q;cases d0 with
  |ref r=>
   dsimp only at q;cases hc:Zq (IW (Qa i)) n cap t c e σ3 g with
   |stuck=>rw[hc]at q;exact q.elim|ok d g'=>
    rw[hc]at q;dsimp only at q;cases hg:g[r]? with
    |none=>rw[hg]at q;exact q.elim|some ob=>
     cases hg':g'[r]? with
     |none=>rw[hg,hg']at q;cases ob<;>exact q.elim|some ob'=>
      rw[hg,hg']at q;cases ob with
      |dcn τ0 ks0=>
       cases ob' with
       |dcf τ ks=>
        obtain⟨a,ha,kv0,hH0,_⟩:=R.g.addr hg;unfold ND at hH0;have hne:∀o u,X.H₀ a≠some (.frz o u):=λo u z=>by have:=I.base.frzs a o u z;rw[hH0]at this;cases this
        have key:=h pins s σ H (λv H'=>∃μ',Ext X.K μ H μ' H'/\GRep X.K ca μ' H' g'/\Den X.K μ' H' v d) I ⟨σ3,g,μ,R,by rw[hc];exact λv H' μ' ex gr dn=>⟨μ',ex,gr,dn⟩⟩;refine Rw key (λv s' hv=>?_) λ_ _ z=>z;obtain⟨x,H',I',rx,μ',ex,gr,dn⟩:=hv;obtain⟨a',ha',o,kv,hH',kr,knd,ksm⟩:=gr.addr hg';rw[ex.at ha]at ha';cases ha';have hu:∀{b:Addr},b≠a->Za H' a (ND a kv) b=H' b:=λh=>QH h;have tups:∀b xs,SqT X.K H' b xs->SqT X.K (Za H' a (ND a kv)) b xs:=λb xs hb=>by
         rcases hb with(z|⟨u,z⟩)|z
         ·exact .inl (.inl (by rw[hu (VE z hH' (λz=>by cases z))];exact z))
         ·by_cases hb:b=a
          ·subst hb;rw[hH']at z;cases z
          ·exact .inl (.inr ⟨u,by rw[hu hb];exact z⟩)
         ·exact .inr z
        have fls:∀b xs,SqF X.K H' b xs->SqF X.K (Za H' a (ND a kv)) b xs:=λb xs hb=>by
         rcases hb with⟨u,z⟩|z
         ·by_cases hb:b=a
          ·subst hb;rw[hH']at z;cases z
          ·exact .inl ⟨u,by rw[hu hb];exact z⟩
         ·exact .inr z
        have exF:Ext X.K μ H μ' (Za H' a (ND a kv)):=⟨ex.pre,λb xs z=>tups b xs (ex.tup b xs z),λb xs z=>fls b xs (ex.fl b xs z),λb o u z=>by rw[hu (λy=>by subst y;rw[hH0]at z;cases z)];exact ex.frz b o u z⟩;have ar:=ex.at ha;refine⟨x,Za H' a (ND a kv),nK I' hH' hne,rx,q x _ μ' exF ⟨by rw[UQ];exact gr.len,gr.nd,λm b w h1 h2=>?_⟩ (dn.mv tups fls)⟩;by_cases em:m=r
        ·subst em;rw[ar]at h1;cases h1;rw[UT (Um.mp hg').1]at h2;cases h2;exact⟨kv,Qr,Paired.imp' (λ_ _ q=>⟨q.1,let ⟨d,a,b⟩:=q.2.1;⟨d,a,b.mv tups fls⟩,let ⟨v,a,b⟩:=q.2.2;⟨v,a,b.mv tups fls⟩⟩) kr,knd,ksm⟩
        ·rw[Ud (Ne.symm em)]at h2;have nb:b≠a:=λz=>by subst z;obtain⟨l1,q1⟩:=Um.mp h1;obtain⟨l2,q2⟩:=Um.mp ar;exact em ((BX gr.nd).mp (q1.trans q2.symm))
         exact(gr.obj m b w h1 h2).mv tups fls λu z=>by rw[hu nb];exact z
       |_=>exact q.elim
      |_=>cases ob'<;>exact q.elim
  |_=>exact q.elim
end
end L3
namespace L3
open PySem
def Vs:List D->Option (List (Str×D))
 |[]=>some []|.str k::v::r=>(Vs r).map ((k,v) :: ·)|_=>none
def DL(ks:List (DK×D)):List (Str×D)->List (DK×D)
 |[]=>ks| (k,v)::r=>DL (E2 ks (.inr k) v) r
def Fx(n:Nat)(ds:List D)(g':G):Res D:=match Vs ds,g'[n]? with
 |some ps,some (.dct [])=>if ps.length<=15 then .ok (.ref n) (g'.set n (.dct (DL [] ps))) else .stuck
 |_,_=>.stuck
def JQ(a:MA):ME:=λσ g=>(a σ (g++[.dct []])).bind (Fx g.length)
open PySem.Spec PyProof.Rows L2
def P5(ps:List (Value×Value)):List Value:=ps.flatMap λp=>[p.1,p.2]
def PP(X:Cx)(pos:Pos)(ks:List (Option Expr))(vs:List Expr)(t:TA):Prop:=∀(pins:YM)(s:Shared)(σ:L2.St)(H:Hp)(Q:List V->Hp->Prop),Inv X pins σ H s->t σ H Q->wpAny (model X.prog X.w) X.A (evalPairs (pairTrees ks vs X.env pos)) (λps s1=>AP X pins σ Q (P5 ps) s1) X.xe s
def nL(ca:Nat->Addr)(X:Cx)(pos:Pos)(ks:List (Option Expr))(vs:List Expr)(m:MA):Prop:=PP (xo X) pos ks vs (lJ X.K ca m)
section
variable{X:Cx}{ca:Nat->Addr}{pos:Pos}{k v:Expr}{ks:List (Option Expr)}{vs:List Expr}{mk mv:ME}{m:MA}
theorem DM(hk:PE X k tk)(hv:PE X v tv)(hr:PP X pos ks vs t):PP X pos (some k::ks) (v::vs) (λσ H Q=>tk σ H λx H1=>tv σ H1 λy H2=>t σ H2 λws H3=>Q (x::y::ws) H3):=by intro pins s σ H Q I h;refine evalPairs_cons (Zx (hk pins s σ H _ I h) λkv s1 ⟨x,H1,I1,r1,q1⟩=>?_);refine Ua (Zx (hv pins s1 σ H1 _ I1 q1) λvv s2 ⟨y,H2,I2,r2,q2⟩=>Ua (wpAny_standAt (Uc ?_)));exact Zx (hr pins s2 σ H2 _ I2 q2) λps s3 ⟨ws,H3,I3,r3,q3⟩=>⟨x::y::ws,H3,I3,.cons r1 (.cons r2 r3),q3⟩
theorem gY:nL ca X pos [] [] Qd:=λpins s σ H Q I ⟨_,_,μ,R,p⟩=>Uc ⟨[],H,I,.nil,p [] H μ .refl R.g .nil⟩
theorem DN(hk:Qs ca X k mk)(hv:Qs ca X v mv)(hr:nL ca X pos ks vs m):nL ca X pos (some k::ks) (v::vs) (Qb mk (Qb mv m)):=λpins s σ H Q I ⟨σ3,g,μ,R,p⟩=>DM (X:=xo X) hk hv hr pins s σ H Q I (QC (Zl R p) λx H1 ⟨d,g1,μ1,e1,R1,q1,p1⟩=>
  QC (Zl R1 (B':=Dens X.K) (k:=λy g2=>(m σ3 g2).bind λzs g3=>.ok (d::y::zs) g3) (by
   unfold Qb at p1;cases hm:mv σ3 g1 with
   |stuck=>rw[hm]at p1;exact p1|ok y g2=>
    rw[hm,Res.bind_ok]at p1;rw[Res.bind_ok];cases hm2:m σ3 g2 with
    |stuck=>rw[hm2]at p1;exact p1|ok zs g3=>rw[hm2]at p1;exact p1)) λy H2 ⟨d2,g2,μ2,e2,R2,q2,p2⟩=>
   QC (Zl R2 p2) λxs H3 ⟨ds,g3,μ3,e3,R3,q3,p3⟩=>p3 (x::y::xs) H3 μ3 .refl R3.g (.cons ((q1.mono e2).mono e3) (.cons (q2.mono e3) q3)))
theorem DO{t:TA}{F:Addr->HO}(hF:∀(h:Heap) (H:Hp),sysModules<h.objs.size->ObjOk X.prog X.w H (h.push {cls:=.type "dict",data:=.dict #[]}) h.objs.size (F h.objs.size))(hp:PP X pos ks vs t)(hall:ks.all (·.isSome)=true)(hl:ks.length=vs.length)(h0:ks≠[])(hlen:ks.length<=15):
  PE X (.Dict ks vs pos) (λσ H Q=>∀p,H p=none->(p==sysModules)=false->t σ (Za H p (F p)) λws H1=>∀pins s ps,Inv X pins σ H1 s->Vals ws (P5 ps)->wpAny (model X.prog X.w) X.A (storeAll p ps) (λ_ s2=>EP X pins σ Q (.ref p) s2) X.xe s):=by
 intro pins s σ H Q I h;have hb:(s.heap.objs.size==sysModules)=false:=Ta.mpr (Ne.symm (UY I.big));have I1:=I.laid (a:=s.heap.objs.size) (o:=F s.heap.objs.size) (t':=s.toks) (λ_ _ q=>Ub _ q) (Ug _) (hF s.heap (Za H s.heap.objs.size (F s.heap.objs.size)) I.big);refine wpAny_Dict_any hall hl h0 hlen ?_;exact Zx (hp pins _ σ _ _ I1 (h _ (I.hok.fresh (Ug _)) hb)) λps s1 ⟨ws,H1,I2,rv,q⟩=>q pins s1 ps I2 rv
theorem gZ(hn:μ[n]?=some p):∀(ps:List (Value×Value))(ws:List V)(ds:List D)(prs:List (Str×D))(ks:List (X6×D))(H:Hp)(g:G)(s:Shared)(Q:PUnit->Shared->Prop),Inv X pins σ H s->GRep X.K ca μ H g->g[n]?=some (.dct ks)->Vals ws (P5 ps)->Dens X.K μ H ws ds->Vs ds=some prs->ks.length+prs.length<=1000->(∀H' s',Inv X pins σ H' s'->Ext X.K μ H μ H'->GRep X.K ca μ H' (g.set n (.dct (DL ks prs)))->Q ⟨⟩ s')->wpAny (model X.prog X.w) A (storeAll p ps) Q E s:=by
 intro ps;induction ps with
 |nil=>
  intro ws ds prs ks H g s Q I r hg rv dn hp _ hQ;cases rv;cases dn;cases hp;unfold storeAll;rw[pK];refine Uc (hQ H s I .refl ?_);show GRep X.K ca μ H (g.set n (.dct ks));have e:g.set n (.dct ks)=g:=by
   refine BM λi=>?_;by_cases z:i=n
   ·subst z;rw[UT (Um.mp hg).1,hg]
   ·rw[Ud (Ne.symm z)]
  rw[e];exact r
 |cons x ps ih=>
  intro ws ds prs ks H g s Q I r hg rv dn hp hz hQ;cases rv with
  |cons ra rv=>cases rv with
   |@cons yv _ _ _ rb rv=>
    cases dn with
    |cons da dn=>cases dn with
     |@cons _ db _ _ dbh dn=>
      cases da with
      |str kk=>
       obtain⟨prs',hp',rfl⟩:=TW.mp (show(Vs _).map _=some prs from hp);obtain⟨p',hp2,kv,hH,kr⟩:=r.addr hg;rw[hn]at hp2;cases hp2;obtain⟨z,hd,vs,rel,dd⟩:=Hc I.hok hH;have hkl:kv.length=ks.length:=Paired.length kr;have hs:sizeLine=16777216:=TU;rw[UJ]at hz;have hl2:(Ek kv (.inr kk) yv).length<=sizeLine:=Uk (KS kv (.inr kk) yv) (by omega);unfold storeAll;rw[pI];refine Ua (Ua (wpAny_dictSet_pairs (hsz:=by rw[<-rel.length];omega) (L1 (k:=.inr kk) ra) dd λh' dd' hs'=>Uc ?_));have he:∃q,h'.get? p=some q:=let ⟨q,_,_,hq,_⟩:=dd';⟨q,hq⟩;have I1:=CA (t':=s.toks+1) I (by rw[hH];exact True.intro) hs' he (PM hl2 hd (rel.put (.inr kk) rb) dd');have ex:Ext X.K μ H μ (Za H p (.dK (Ek kv (.inr kk) yv))):=Z4 hH (λ_ z=>nomatch z) (λ_ _ z=>nomatch z);have r1:=r.set (u:=.dct (E2 ks (.inr kk) db)) hn hH (λ_ z=>nomatch z) (λ_ _ z=>nomatch z) ⟨_,Qr,(kr.mono ex).put (.inr kk) (dbh.mono ex)⟩;have hlt:n<g.length:=(Um.mp hg).1;refine ih _ _ prs' (E2 ks (.inr kk) db) _ _ _ Q I1 r1 (by rw[UT hlt]) rv (dn.mono ex) hp' ?_ λH' s' I' ex' r'=>hQ H' s' I' (ex.trans ex') ?_
       ·have:(E2 ks (.inr kk) db).length<=ks.length+1:=by
         unfold E2;split
         ·rw[Ue];omega
         ·rw[Uq];exact Ug _
        omega
       ·rw[Wp]at r';exact r'
      |_=>exact nomatch hp
theorem DP(hp:nL ca X pos ks vs m)(hall:ks.all (·.isSome)=true:=by exact Eq.refl true)(hl:ks.length=vs.length:=by rfl)(h0:ks≠[]:=by exact λh=>nomatch h)(hlen:ks.length<=15:=by decide):Qs ca X (.Dict ks vs pos) (JQ m):=
 QZ (DO (X:=xo X) (F:=λ_=>.dK []) (λh H hb=>VY h hb) hp hall hl h0 hlen) λσ H Q ⟨σ3,g,μ,R,q⟩=>λp hpn hb=>by
  have ex:Ext X.K μ H (μ++[p]) (Za H p (.dK [])):=Q3 hpn;have R':Rep X.K ca (μ++[p]) σ3 (g++[.dct []]) σ (Za H p (.dK [])):=R.go ex (R.g.push hpn ⟨[],Qr,.nil⟩);refine QC (Zl R' (k:=Fx g.length) (PostR.go ex q)) λws H1 hQ=>?_;obtain⟨ds,g1,μ1,e1,R1,q1,p1⟩:=hQ;intro pins s ps I rv;have hn:μ1[g.length]?=some p:=e1.at (by rw[<-R.g.len];simp);unfold Fx at p1;cases hd:Vs ds with
  |none=>rw[hd]at p1;exact p1.elim|some prs=>
   rw[hd]at p1;cases hg:g1[g.length]? with
   |none=>rw[hg]at p1;exact p1.elim|some ob=>
    rw[hg]at p1;cases ob with
    |dct kk=>
     cases kk with
     |nil=>
      dsimp only at p1;by_cases z:prs.length<=15
      ·rw[Uf z]at p1;exact gZ (X:=xo X) hn ps ws ds prs [] H1 g1 s _ I R1.g hg rv q1 hd (by rw[Wt];omega) λH' s' I' ex' r'=>⟨.ref p,H',I',rfl,p1 (.ref p) H' μ1 ex' r' (.ref hn)⟩
      ·rw[Uh z]at p1;exact p1.elim
     |cons _ _=>exact p1.elim
    |_=>exact p1.elim
end
end L3
namespace L3
open PySem
def IX(x y:D)(g:G):Res D:=match y,(Yl false x:Option Ja) with
 |.ref n,some (k:Ja)=>(match g[n]? with
  |some (.lst ds)=>(match Jd false ds with
   |some ks=>.ok (.bl (ks.any λc=>decide (c=k))) g|none=>.stuck)
  |_=>.stuck)
 |_,_=>.stuck
open PySem.Spec PyProof.Rows L2
section
variable{X:Cx}{ca:Nat->Addr}{a b:Expr}{ma mb:ME}{pos:Pos}{j:Nat}
def nM(K:Frag):R2:=λx y H Q=>∃(p:Addr)(ys:List V)(ds:List D)(μ:List Addr)(dx:D)(k:NK.SK)(ks:List NK.SK),y=.ref p/\H p=some (.lst ys)/\Dens K μ H ys ds/\Den K μ H x dx/\Yl false dx=some k/\Jd false ds=some ks/\Q (.bl (ks.any λc=>decide (c=k))) H
open Classical in
theorem P6(inj:∀u x y,R x u->R y u->x=y):∀{ks:List NK.SK}{us:List Value},NK.Al R ks us->us.any (λu=>decide (R k u))=ks.any λc=>decide (c=k)
 |_,_,.nil=>rfl|c::ks,u::us,.cons h t=>by rw[Tu,Tu,P6 inj t];congr 1;exact Tj.mpr ⟨λz=>inj _ _ _ h z,λz=>z ▸ h⟩
open Classical in
theorem DQ{pins:YM}{σ:L2.St}{H:Hp}{s:Shared}{μ:List Addr}{ks:List NK.SK}{its:List Value}{k:NK.SK}{x:V}{v:Value}{dx:D}(I:Inv X pins σ H s)(hu:X.A.units+16<cLine)(al:NK.Al ((NK.tagV X.prog X.w false).is s.heap) ks its)(qx:Den X.K μ H x dx)(rx:RelV x v)(hk:Yl false dx=some k):
  (∀y,y∈its.toArray->SeqAt.EqAt X.A.in1 s y v (decide ((NK.tagV X.prog X.w false).is s.heap k y)))/\its.toArray.any (λw=>decide ((NK.tagV X.prog X.w false).is s.heap k w))=ks.any λc=>decide (c=k):=by
 have kx:=Z6 I qx rx hk;refine⟨λw hw=>?_,?_⟩
 ·obtain⟨c,hc,rc⟩:=NK.Al.has al w (by simpa using hw);intro prog w' E' Q' hq;refine(NK.tagV prog w' false).eqBool (x:=c) (y:=k) (show X.A.units+1+2<cLine by omega) rc kx ?_;have e:decide ((NK.tagV X.prog X.w false).is s.heap k w)=decide (c=k):=Tj.mpr ⟨λz=>(NK.tagV X.prog X.w false).inj rc z,λz=>z ▸ rc⟩;rw[e]at hq;exact hq
 ·rw[show its.toArray.any (λw=>decide ((NK.tagV X.prog X.w false).is s.heap k w))=its.any (λw=>decide ((NK.tagV X.prog X.w false).is s.heap k w)) by simp,P6 (R:=(NK.tagV X.prog X.w false).is s.heap) (λu x y hx hy=>(NK.tagV X.prog X.w false).inj hx hy) al]
open Classical in
theorem hJ(hu:X.A.units+16<cLine):OpR X (compareOp .In) (nM X.K):=by intro pins s σ H x y v u Q I rx ry h;obtain⟨p,ys,ds,μ,dx,k,ks,rfl,hH,qs,qx,hk,hks,q⟩:=h;cases ry;obtain⟨its,rvs,pl,hz⟩:=I.list (.of hH);obtain⟨al,_⟩:=Ma I qs rvs hks;obtain⟨h1,h2⟩:=DQ I hu al qx rx hk;refine SeqAt.in_listAt (λw=>decide ((NK.tagV X.prog X.w false).is s.heap k w)) pl.isList h1 ⟨.bl _,H,I,rfl,?_⟩;rw[h2];exact q
theorem P7{K:Frag}:Yd K ca (nM K) IX:=by
 intro H μ g x y dx dy Q r qx qy p;unfold IX at p;cases qy with
 |@ref n t hn=>
  cases hk:Yl false dx with
  |none=>rw[hk]at p;exact p.elim|some k=>
   rw[hk]at p;dsimp only at p;cases hg:g[n]? with
   |none=>rw[hg]at p;exact p.elim|some ob=>
    rw[hg]at p;obtain⟨t',ht',orp⟩:=r.addr hg;rw[hn]at ht';cases ht';cases ob with
    |lst ds=>
     obtain⟨vs,hH,q⟩:=orp;dsimp only at p;cases hks:Jd false ds with
     |none=>rw[hks]at p;exact p.elim|some ks=>rw[hks]at p;exact⟨t,vs,ds,μ,dx,k,ks,rfl,hH,q,qx,hk,hks,p _ H μ .refl r (.bl _)⟩
    |_=>exact p.elim
 |_=>exact p.elim
theorem nN(hr:Room j X.A)(ha:Qs ca X a ma)(hb:Qs ca X b mb)(hm:behindInMarks .In b=false:=by exact Eq.refl false):Qs ca X (.Compare a [.In] [b] pos) (Qc IX ma mb):=Fl (hJ (X:=xo X) (by have:=hr.units;show X.A.units+16<cLine;omega)) P7 ha hb hm
end
end L3
namespace L3
open PySem
def NP(x y:D)(g:G):Res D:=match y with
 |.ref n=>(match g[n]? with
  |some (.dcf τ ks)=>(match Yl τ x with
   |some k=>.ok (.bl (YF ks k).isSome) g|none=>.stuck)
  |_=>.stuck)
 |_=>.stuck
def pC(p:Ja×D):D:=.tup [kD p.1,p.2]
def Es(ds:List D):Option (List (Ja×D)):=IJ (λps=>∀p∈ps,p.1.isRight=true) (·.map pC) ds
def Et(x:D)(g:G):Res D:=match x with
 |.ref n=>(match g[n]? with
  |some (.lst ds)=>(match Es ds with
   |some ps=>if ps.length<=SZ then .ok (.ref g.length) (g++[.dcn true (ps.foldl (λks p=>Va ks p.1 p.2) [])]) else .stuck
   |none=>.stuck)
  |_=>.stuck)
 |_=>.stuck
end L3
namespace DT
open PySem PySem.Spec PyProof.Rows
theorem NQ:typeLookup (.type "list") (Str.ofString "keys")=pure none:=by rw[Rj,Ts];kernel_rfl
theorem Eu:entryFor table "dict.update.loop"=some Builtin.«dict.update.loop»:=entryFor_of_tree (by kernel_rfl)
theorem Xl:plainId "dict.update.loop"=true:=by decide +kernel
section
variable{prog:Program}{w:World}{A:Around}{E:VP}{s:Shared}
theorem hU{a:Addr}{o:Obj}{items:Array Value}{n:Nat}{Q:Option Value->Shared->Prop}(hx:s.heap.get? a=some o)(hc:o.cls=.type "list")(hdat:o.data=.seq items n)(hd:o.dict=none)(hA:A.handled=none)(h:∀h' tk e,Heap.NewExcOf s.heap h' e "AttributeError"->Q none {s with heap:=h',toks:=tk}):wpAny (model prog w) A (getAttr? (.ref a) (Str.ofString "keys")) Q E s:=by
 obtain⟨c,dct,dat,sl⟩:=o;simp only at hc hdat hd;subst hc hdat hd;obtain⟨hp,g,d,tk,os⟩:=s;have hTy:∀tk',(⟨hp,g,d,tk',os⟩:Shared).TypeIs (.ref a) "list":=λ_=>⟨_,hx,rfl⟩;have f1:=sub_AttributeError;have f3:=F.slot_list_getattribute.lookup;have f4:=F.slot_list_getattribute.bind (.ref a);have f5:=am_list_getattr_none;unfold getAttr? getAttrBy? getAttrBy;repeat (any_goals (first|assumption|exact hTy _|((with_reducible show wpAny _ _ (call (Value.builtin "list.__getattribute__") _ _) _ _ _);refine BC F.slot_list_getattribute (hTy _) am_entry_list_getattribute (F.args_list_getattribute_2 _ _) (meets_getattribute_miss_list a items n sl (Str.ofString "keys") _ NQ (by decide) (by size_fits)) ⟨hx,hA,λh' tk' e hx'=>?_⟩)|wp_step))
 obtain⟨t',u',he⟩:=hx'.there;have hq:=h _ tk' _ hx'.of;show wpAny _ _ (getattributeRaised _ _ _ _ _ _ _) _ _ _;unfold getattributeRaised;repeat (any_goals (first|assumption|wp_step))
def putP{K:Type}[DecidableEq K](xs:List (K×Addr×Value))(p:K×Addr×Value):List (K×Addr×Value):=storedH xs p.1 p.2.1 p.2.2
theorem V2{K:Type}[DecidableEq K]:∀(ps xs:List (K×Addr×Value)),(ps.foldl putP xs).length<=xs.length+ps.length
 |[],xs=>Ug _|p::ps,xs=>by
  have h1:=V2 ps (putP xs p);have h2:(putP xs p).length<=xs.length+1:=by
   unfold putP storedH;split
   ·rw[Ue];omega
   ·simp
  rw[pJ,UJ];omega
theorem Mf{K:Type}[DecidableEq K]:∀(ps xs:List (K×Addr×Value)),∀x∈ps.foldl putP xs,∃p,(p∈ps\/p∈xs)/\x.1=p.1/\x.2.1=p.2.1
 |[],xs,x,h=>⟨x,.inr h,rfl,rfl⟩|p::ps,xs,x,h=>by
  obtain⟨q,hq,e1,e2⟩:=Mf ps (putP xs p) x h;rcases hq with hq|hq
  ·exact⟨q,.inl (Uz _ hq),e1,e2⟩
  ·unfold putP storedH at hq;split at hq
   ·obtain⟨y,hy,rfl⟩:=UR.mp hq;refine⟨y,.inr hy,?_⟩;unfold putAt at e1 e2;split at e1
    ·next z=>rw[Uf z]at e2;exact⟨e1,e2⟩
    ·next z=>rw[Uh z]at e2;exact⟨e1,e2⟩
   ·rcases Ut.mp hq with hq|hq
    ·exact⟨q,.inr hq,e1,e2⟩
    ·rw[Ui]at hq;subst hq;exact⟨p,.inl (Uy ..),e1,e2⟩
def rL{K:Type}[DecidableEq K](knd:HeapKind prog w K)(h:Heap)(d:Addr)(xs:List (K×Addr×Value)):Prop:=∃o es ep,h.get? d=some o/\o.ExactDict/\o.data=.dict es ep/\es.toList=xs.map (entryOfKey knd)/\(xs.map (·.1)).Nodup
theorem loop{K:Type}[DecidableEq K]{knd:HeapKind prog w K}{R:Result->Shared->Prop}{d it t:Addr}{items:Array Value}{ps:List (K×Addr×Value)}{res:Value}(hh:A.handled=none)(hr:knd.room A.in1)(hdi:d≠it)(hps:∀(h:Heap),(∀b o,b≠d->b≠it->s.heap.get? b=some o->h.get? b=some o)->h.IsList t items/\∀(i:Nat) (p:K×Addr×Value),ps[i]?=some p->∃b n o,items[i]?=some (.ref b)/\h.get? b=some o/\o.cls=.type "tuple"/\o.data=.seq #[.ref p.2.1,p.2.2] n/\knd.is h p.1 p.2.1)(hl:items.size=ps.length)(hz:ps.length<=sizeLine):∀(k i:Nat)(s':Shared),ps.length-i=k->i<=ps.length->(∀b o,b≠d->b≠it->s.heap.get? b=some o->s'.heap.get? b=some o)->s'.heap.IsListIter it t i->rL knd s'.heap d ((ps.take i).foldl putP [])->(∀s1:Shared,(∀b o,b≠d->b≠it->s.heap.get? b=some o->s1.heap.get? b=some o)->s1.gens=s'.gens->s1.drawn=s'.drawn->s1.os=s'.os->rL knd s1.heap d (ps.foldl putP [])->R (.ok (.ret res)) s1)->codeAny (model prog w) A (.builtin "dict.update.loop" ⟨[.ref d,.ref it,rawInt i,res],[]⟩) R s':=by
 intro k;induction k with
 |zero =>intro i s' hk hi kp hit hd hR;refine Wu Eu ?_;rw[RE Xl _];unfold Builtin.«dict.update.loop»;refine Ua (wpAny_pyNext_list_end (show A.in1.handled=none from hh) hit (hps s'.heap kp).1 (WH (by omega)) λh' eb=>?_);show wpAny _ _ (Builtin.Dict.addKeywords d [] >>= λ_=>ret res) _ _ _;refine Ua (Uc (Uc ?_));refine hR _ (λb o b1 b2 e=>eb b o b2 (kp b o b1 b2 e)) rfl rfl rfl ?_;rw[Rq (by omega)]at hd;obtain⟨o,es,ep,ho,r⟩:=hd;exact⟨o,es,ep,eb d o hdi ho,r⟩|succ k ih=>
  intro i s' hk hi kp hit hd hR;have hlt:i<ps.length:=by omega
  have hp:ps[i]?=some ps[i]:=UK hlt;obtain⟨b,n,o,hb,ho,hc,hdat,hkey⟩:=(hps s'.heap kp).2 i ps[i] hp;refine Wu Eu ?_;rw[RE Xl _];unfold Builtin.«dict.update.loop»;refine Ua (wpAny_pyNext_list_item hit (hps s'.heap kp).1 hb λh1 hit1 sb1=>?_);have kp1:∀b o,b≠d->b≠it->s.heap.get? b=some o->h1.get? b=some o:=λb o b1 b2 e=>sb1.extBut b o b2 (kp b o b1 b2 e);obtain⟨b',n',o',hb',ho',hc',hdat',hkey'⟩:=(hps h1 kp1).2 i ps[i] hp;rw[hb]at hb';cases hb';refine Ua (Tt ?_);refine Ua (wpAny_tryCatch ?_);unfold Builtin.Dict.pairItems;have hT:({s' with heap:=h1}:Shared).TypeIs (.ref b) "tuple":=⟨o',ho',hc'⟩;refine Ua (Rr hT ?_);show wpAny _ _ (if ((Value.type "tuple"==Value.type "list")||(Value.type "tuple"==Value.type "tuple"))=true then _ else _) _ _ _;rw[Uf (by decide)];refine Ua (BA ho' hdat' (Uc ?_));show wpAny _ _ (holding [.ref ps[i].2.1,ps[i].2.2] (dictSet d (.ref ps[i].2.1) ps[i].2.2)) _ _ _;refine Tt ?_;have hd1:h1.DictOfH knd d ((ps.take i).foldl putP []):=by obtain⟨o,es,ep,ho,h2,h3,h4,h5⟩:=hd;refine⟨o,es,ep,sb1.extBut d o hdi ho,h2,h3,h4,λx hx=>?_,h5⟩;obtain⟨p,hp',e1,e2⟩:=Mf _ _ x hx;obtain⟨j,hj⟩:=List.getElem?_of_mem (List.mem_of_mem_take (hp'.resolve_right (by simp)));obtain⟨_,_,_,_,_,_,_,r⟩:=(hps h1 kp1).2 j p hj;rw[e1,e2];exact r
  have hml:((ps.take i).foldl putP []).length<=sizeLine:=by
   have:=V2 (ps.take i) ([]:List (K×Addr×Value));have h2:(ps.take i).length<=ps.length:=by rw[Ti];omega
   simp only[Wt]at this;omega
  refine wpAny_dictSet_heap (s:={s' with heap:=h1}) (hsz:=hml) hr hkey' hd1 λh2 hd2 sb2=>?_;refine Uc ⟨Bb Xl _,?_⟩;have e1:rawInt ((i:Int)+1)=rawInt ((i+1:Nat):Int):=rfl;show codeAny (model prog w) A (.builtin "dict.update.loop" ⟨[.ref d,.ref it,rawInt ((i:Int)+1),res],[]⟩) R _;rw[e1];refine ih (i+1) {s' with heap:=h2,toks:=s'.toks+knd.draws ps[i].1} (by omega) (by omega) (λb o b1 b2 e=>sb2.extBut b o b1 (kp1 b o b1 b2 e)) ?_ ?_ hR
  ·obtain⟨o,e,r⟩:=hit1;exact⟨o,sb2.extBut it o (Ne.symm hdi) e,r⟩
  ·obtain⟨o,es,ep,a1,a2,a3,a4,_,a5⟩:=hd2;rw[List.take_succ,hp,Option.toList_some,List.foldl_append];exact⟨o,es,ep,a1,a2,a3,a4,a5⟩
theorem call_pairs{K:Type}[DecidableEq K]{knd:HeapKind prog w K}{Q:VP}{t:Addr}{o:Obj}{items:Array Value}{n:Nat}{ps:List (K×Addr×Value)}(hh:A.handled=none)(hr:knd.room A.in1.in1)(hx:s.heap.get? t=some o)(hc:o.cls=.type "list")(hdat:o.data=.seq items n)(hdn:o.dict=none)(hps:∀h:Heap,(∀b o,s.heap.get? b=some o->h.get? b=some o)->∀(i:Nat) (p:K×Addr×Value),ps[i]?=some p->∃b n o,items[i]?=some (.ref b)/\h.get? b=some o/\o.cls=.type "tuple"/\o.data=.seq #[.ref p.2.1,p.2.2] n/\knd.is h p.1 p.2.1)(hl:items.size=ps.length)(hz:ps.length<=sizeLine)(h:∀s1:Shared,(∀b o,s.heap.get? b=some o->s1.heap.get? b=some o)->s1.gens=s.gens->s1.drawn=s.drawn->s1.os=s.os->rL knd s1.heap s.heap.objs.size (ps.foldl putP [])->Q (.ref s.heap.objs.size) s1):
  wpAny (model prog w) A (call (.type "dict") [.ref t]) Q E s:=by
 refine callType_codes (Q₁:=λobj s₁=>obj=.ref s.heap.objs.size/\s₁ = {s with heap:=s.heap.push {cls:=.type "dict",data:=.dict #[]} }) F.kt_called_dict (F.kt_typeCall_dict_1 _) F.entry_dict_init (kt_code_dict_new _ ⟨rfl,rfl⟩) ?_;rintro obj s₁ ⟨rfl,rfl⟩;have hnew:(s.heap.push {cls:=.type "dict",data:=.dict #[]}).DictOfH knd s.heap.objs.size []:=Heap.DictOfH.new s.heap;have htd:t<s.heap.objs.size:=UB hx;refine⟨hnew.typeIs,F.args_dict_init_2 _ _,?_⟩;unfold Builtin.«dict.__init__»;refine Ua ?_;unfold Builtin.Dict.selfAndRest;refine Ua (RZ hnew.typeIs ?_);show wpAny _ _ (pure (s.heap.objs.size,[Value.ref t])) _ _ _;refine Uc ?_;show wpAny _ _ (Builtin.Dict.updateFrom "dict.__init__" s.heap.objs.size (.ref t) [] .none) _ _ _;unfold Builtin.Dict.updateFrom;have hx1:(s.heap.push {cls:=.type "dict",data:=.dict #[]}).get? t=some o:=Ub _ hx;refine Ua (Rr (T:="list") ⟨o,hx1,hc⟩ ?_);rw[Uf (by decide)];refine Ua (hU (s:={s with heap:=s.heap.push {cls:=.type "dict",data:=.dict #[]} }) hx1 hc hdat hdn (show A.in1.handled=none from hh) λh2 tk e hE=>?_);have hx2:h2.get? t=some o:=hE.keeps _ _ hx1;rw[Uf (show(none:Option Value).isNone=true from rfl)];refine Ua (TC ?_);refine Ua (BL (s:={s with heap:=h2,toks:=tk}) (items:=items) ⟨o,hx2,hc,n,hdat⟩ ?_);refine Uc ⟨Bb Xl _,?_⟩;have hds:s.heap.objs.size<h2.objs.size:=by obtain⟨o',es,ep,ho',r⟩:=hnew;exact UB (hE.keeps _ _ ho')
 have lift:∀{h3:Heap},(∀b o,b≠s.heap.objs.size->b≠h2.objs.size->(h2.push {cls:=.type "list_iterator",data:=.fields #[.ref t,.int 0 0]}).get? b=some o->h3.get? b=some o)->∀b o,s.heap.get? b=some o->h3.get? b=some o:=λk3 b o e=>by have lt:=UB e;exact k3 b o (UY lt) (UY (Nat.lt_trans lt hds)) (Ub _ (hE.keeps _ _ (Ub _ e)))
 refine loop (s:={s with heap:=h2.push {cls:=.type "list_iterator",data:=.fields #[.ref t,.int 0 0]},toks:=tk}) (knd:=knd) (d:=s.heap.objs.size) (it:=h2.objs.size) (t:=t) (items:=items) (ps:=ps) (res:=.none) (show A.in1.handled=none from hh) hr (UY hds) (λh3 k3=>⟨⟨o,lift k3 _ _ hx,hc,n,hdat⟩,hps h3 (lift k3)⟩) hl hz ps.length 0 _ (by omega) (by omega) (λb o _ _ e=>e) ⟨_,Uu _ rfl,rfl,rfl⟩ ?_ λs1 k1 g1 d1 o1 D1=>⟨rfl,h s1 (lift k1) g1 d1 o1 D1⟩;obtain⟨o',es,ep,ho',a1,a2,a3,_,a4⟩:=hnew;exact⟨o',es,ep,Ub _ (hE.keeps _ _ ho'),a1,a2,a3,a4⟩
end
end DT
namespace L3
open PySem PySem.Spec PyProof.Rows L2
section
variable{X:Cx}{ca:Nat->Addr}{pins:YM}{σ:L2.St}{H:Hp}{s:Shared}{μ:List Addr}
def hV(X:Cx)(h:Heap)(p:NK.SK×Addr×Value)(u:Value):Prop:=∃b,u=.ref b/\NK.Tp h b [.ref p.2.1,p.2.2]/\(NK.tagV X.prog X.w true).is h p.1 (.ref p.2.1)
theorem P8(I:Inv X pins σ H s)(qs:Dens X.K μ H vs ds)(rvs:Vals vs its)(hp:Es ds=some ps):∃xs,NRel X.K true μ H xs ps/\NK.Al (hV X s.heap) xs its:=by
 obtain⟨rfl,p⟩:=IK hp;clear hp;induction ps generalizing vs its with
 |nil=>cases qs;cases rvs;exact⟨[],.nil,.nil⟩|cons c ps ih=>
  cases qs with
  |cons q qs=>cases rvs with
   |cons rv rvs=>
    obtain⟨xs,h1,h2⟩:=ih (qs:=qs) (rvs:=rvs) (p:=λk hk=>p k (.tail _ hk));have hk:Yl true (kD c.1)=some c.1:=AY (p c (.head _));cases q with
    |tup ht hs=>
     cases rv;cases hs with
     |cons q1 hs=>cases hs with
      |cons q2 hs=>
       cases hs;obtain⟨us,r1,r2⟩:=L6 I ht;cases r1 with
       |cons v1 r1=>cases r1 with
        |cons v2 r1 =>cases r1;obtain⟨a,rfl⟩:=Xk q1 hk;have kt:=Z6 I q1 v1 hk;cases v1;exact⟨(c.1,a,_)::xs,.cons ⟨rfl,⟨_,hk,q1⟩,_,v2,q2⟩ h1,.cons ⟨_,rfl,r2,kt⟩ h2⟩
theorem DR{xs:List (NK.SK×Addr×Value)}{ps:List (NK.SK×D)}(h:NRel X.K true μ H xs ps):∀{ys:List (NK.SK×Addr×Value)}{ks:List (NK.SK×D)},NRel X.K true μ H ys ks->NRel X.K true μ H (xs.foldl DT.putP ys) (ps.foldl (λks p=>Va ks p.1 p.2) ks):=by
 unfold NRel at h;induction h with
 |nil=>exact λh=>h
 |@cons x q l1 l2 a _ ih =>intro ys ks h;obtain⟨e,⟨d,h1,h2⟩,v,h3,h4⟩:=a;refine ih (ys:=DT.putP ys x) (ks:=Va ks q.1 q.2) ?_;rw[<-e];exact NRel.put h h1 h2 h3 h4
theorem bL{R:NK.SK×Addr×Value->Value->Prop}:∀{xs:List (NK.SK×Addr×Value)}{us:List Value},NK.Al R xs us->∀{i:Nat}{x:NK.SK×Addr×Value},xs[i]?=some x->∃u,us[i]?=some u/\R x u
 |_,_,.nil,i,x,h=>by cases h
 |_,_,.cons a r,0,x,h=>by cases h;exact⟨_,rfl,a⟩
 |_,_,.cons a r,i+1,x,h=>bL r h
def P9(K:Frag):List V->Hp->VK->Prop:=λxs H Q=>∃(t:Addr)(vs:List V)(ds:List D)(μ:List Addr)(ps:List (NK.SK×D)),xs=[.ref t]/\H t=some (.lst vs)/\Dens K μ H vs ds/\Es ds=some ps/\∀p xs',H p=none->(p==sysModules)=false->NRel K true μ H xs' (ps.foldl (λks p=>Va ks p.1 p.2) [])->(xs'.map (·.1)).Nodup->Q (.ref p) (Za H p (ND p xs'))
theorem IY(hc:X.calm=true)(hu:X.A.units+16<cLine):YA X (.type "dict") (P9 X.K):=by
 intro pins s σ H xs us Q I rv h;obtain⟨t,vs,ds,μ,ps,rfl,hH,qs,hp,hQ⟩:=h;obtain⟨u,rfl,ru⟩:=rv.one;cases ru;obtain⟨z,its,n,r,hl,e⟩:=I.lstM hH;obtain⟨xs,h1,h2⟩:=P8 I qs r hp;have hlen:=h2.len;obtain⟨_,hd,_⟩:=(show ObjOk X.prog X.w H _ _ (.dK []) from VY s.heap I.big);refine DT.call_pairs (knd:=NK.tagK X.prog X.w true) (ps:=xs) (I.ok.hd hc) (show X.A.units+1+1+2<cLine by omega) e rfl rfl rfl (λh k i p hi=>?_) (by rw[Ux];exact hlen.symm) (by omega) λs1 k1 g1 d1 o1 ⟨o,es,ep,a1,a2,a3,a4,a5⟩=>?_
 ·obtain⟨u,hu,b,rfl,⟨o,items,m,t1,t2,t3,t4⟩,tk⟩:=bL h2 hi;refine⟨b,m,o,by simpa using hu,k _ _ t1,t2,?_,(NK.tagV X.prog X.w true).keeps tk λb o _ _ e _=>k b o e⟩;rw[t3];have:items = #[.ref p.2.1,p.2.2]:=Array.toList_inj.mp t4;rw[this]
 ·obtain⟨hp',g',d',t',o'⟩:=s1;simp only at g1 d1 o1;subst g1 d1 o1;exact⟨.ref s.heap.objs.size,_,I.laid (a:=s.heap.objs.size) (o:=ND s.heap.objs.size _) (t':=t') k1 (Ug _) (Hg ⟨o,es,ep,a1,a2,a3,by rw[a4];exact(NK.ents_eq _ _ _ _).symm⟩),rfl,hQ _ _ (I.hok.fresh (Ug _)) hd (DR h1 .nil) a5⟩
def rF(K:Frag)(ca:Nat->Addr):R2:=λx y H Q=>∃(g:G)(μ:List Addr)(dx:D)(n:Nat)(t:Addr)(τ:Bool)(ks:List (NK.SK×D))(k:NK.SK),GRep K ca μ H g/\Den K μ H x dx/\Yl τ dx=some k/\y=.ref t/\μ[n]?=some t/\g[n]?=some (.dcf τ ks)/\Q (.bl (YF ks k).isSome) H
theorem hX(hu:X.A.units+16<cLine):OpR X (compareOp .In) (rF X.K ca):=by
 intro pins s σ H x y v u Q I rx ry h;obtain⟨g,μ,dx,n,t,τ,ks,k,r,q,hk,rfl,hn,hg,hQ⟩:=h;obtain⟨a,rfl⟩:=Xk q hk;cases rx;cases ry;obtain⟨t',ht',o,xs,hH,nr,nd,hs⟩:=r.addr hg;rw[hn]at ht';cases ht';obtain⟨_,⟨o,es,ep,ho,hc,hd,he⟩,_⟩:=(show ObjOk X.prog X.w H s.heap t (.frz o (.ext (NK.DObj t xs))) from I.hok t _ hH);refine wpAny_in_heap (knd:=NK.tagK X.prog X.w τ) (JY hu) (Z6 I q rfl hk) hs (xs:=xs) ⟨o,es,ep,ho,hc,hd,by rw[he];exact NK.ents_eq _ _ _ _,λx hx=>?_,nd⟩ ?_
 ·obtain⟨d,h1,h2⟩:=nr.mem x hx;exact Z6 I h2 rfl h1
 ·rw[nr.isSome k];exact⟨.bl _,H,I.tok _,rfl,hQ⟩
theorem Sa{K:Frag}:Yd K ca (rF K ca) NP:=by
 intro H μ g x y dx dy Q r qx qy p;unfold NP at p;cases qy with
 |@ref n t hn=>
  dsimp only at p;cases hg:g[n]? with
  |none=>rw[hg]at p;exact p.elim|some ob=>
   rw[hg]at p;cases ob with
   |dcf τ ks=>
    dsimp only at p;cases hk:Yl τ dx with
    |none=>rw[hk]at p;exact p.elim|some k=>rw[hk]at p;exact⟨g,μ,dx,n,t,τ,ks,k,r,qx,hk,rfl,hn,hg,p _ H μ .refl r (.bl _)⟩
   |_=>exact p.elim
 |_=>exact p.elim
end
section
variable{X:Cx}{ca:Nat->Addr}{a b e:Expr}{ma mb me:ME}{pos p:Pos}{k:Nat}
theorem nO(hr:Room k X.A)(ha:Qs ca X a ma)(hb:Qs ca X b mb)(hm:behindInMarks .In b=false:=by exact Eq.refl false):Qs ca X (.Compare a [.In] [b] pos) (Qc NP ma mb):=Fl (hX (X:=xo X) (mN hr)) Sa ha hb hm
theorem DS(hr:Room k X.A)(hc:X.calm=true)(hm:X.mg "dict"=none)(he:Qs ca X e me)(hg:Gl X "dict":=by exact Eq.refl (some _))(hs:starEach [e] X.env=[(false,eval e X.env)]:=by rfl)(hpl:(backTo pos (starEach [] X.env)).any (·.1)=false:=by exact Eq.refl false):
  Qs ca X (.Call (.Name "dict" p) [e] [] pos) (Qi Et me):=
 Dg (r:=P9 X.K) (IY (X:=xo X) hc (mN hr)) hm boot_dict (λH μ g y d Q r q pp=>by
  unfold Et at pp;cases q with
  |@ref n t hn=>
   dsimp only at pp;cases hgn:g[n]? with
   |none=>rw[hgn]at pp;exact pp.elim|some ob=>
    rw[hgn]at pp;obtain⟨t',ht',orp⟩:=r.addr hgn;rw[hn]at ht';cases ht';cases ob with
    |lst ds=>
     obtain⟨vs,hH,qs⟩:=orp;dsimp only at pp;cases hps:Es ds with
     |none=>rw[hps]at pp;exact pp.elim|some ps=>
      rw[hps]at pp;dsimp only at pp;by_cases z:ps.length<=SZ
      ·rw[Uf z]at pp;exact⟨t,vs,ds,μ,ps,rfl,hH,qs,hps,λl xs' hl hs nr nd=>pp _ _ (μ++[l]) (Q3 hl) (r.push hl ⟨xs',Qr,nr.mono (Q3 hl),nd,hs⟩) (.ref (by rw[<-r.len];simp))⟩
      ·rw[Uh z]at pp;exact pp.elim
    |_=>exact pp.elim
  |_=>exact pp.elim) he hg (by decide) (by decide) hs hpl
end
end L3
namespace L3
open PySem
def XM(x:D)(g:G):Res D:=match X8 g x with
 |some t=>.ok (.bl (VQ t .list||VQ t .tuple)) g|none=>.stuck
open PySem.Spec PyProof.Rows L2
section
variable{X:Cx}{ca:Nat->Addr}{e:Expr}{me:ME}{pos p p2 tp:Pos}{all cs:List Nat}
theorem JD(K:Frag)(t:Ty):kitAny K (.type t.name) [.type "list",.type "tuple"]=some (VQ t .list||VQ t .tuple):=by
 unfold kitAny;rw[show Value.type "list"=.type Ty.list.name from rfl,Y0];cases VQ t .list with
 |true=>rfl|false =>dsimp only;unfold kitAny;rw[show Value.type "tuple"=.type Ty.tuple.name from rfl,Y0];cases VQ t .tuple<;>rfl
theorem DU{h:Heap}{a:Addr}{xs:Array Value}(p:IsTup h a xs):∃dd n sl,h.get? a=some ⟨.type "tuple",dd,.seq xs n,sl⟩:=by obtain⟨⟨cls,dd,data,sl⟩,h1,h2,n,h3⟩:=p;simp only at h2 h3;subst h2 h3;exact⟨dd,n,sl,h1⟩
theorem IZ:YA X (.builtin "isinstance") (λxs H Q=>∃x q g μ d t,xs=[x,.ref q]/\SqT X.K H q [.ty "list",.ty "tuple"]/\GRep X.K ca μ H g/\Den X.K μ H x d/\X8 g d=some t/\Q (.bl (VQ t .list||VQ t .tuple)) H):=by
 intro pins s σ H xs us Q I rv h;obtain⟨x,q,g,μ,d,t,rfl,hq,r,qd,ht,qq⟩:=h;obtain⟨u,u2,rfl,ru,ru2⟩:=rv.two;cases ru2;obtain⟨its,r1,p1,_⟩:=I.tuple hq;obtain⟨w1,w2,rfl,a1,a2⟩:=r1.two;cases a1;cases a2;obtain⟨dd,n,sl,ho⟩:=DU p1;have fin:∀tk,EP X pins σ Q (.bool (VQ t .list||VQ t .tuple)) {s with toks:=tk}:=λtk=>⟨.bl _,H,I.tok tk,rfl,qq⟩;cases qd with
 |non=>cases ht;cases (show u=Value.none from ru);exact Rl kitx_none I.kIn True.intro ho (JD X.K .non) (λz=>nomatch z) fin|bl y=>cases ht;cases (show u=Value.bool y from ru);exact Rl kitx_bool I.kIn True.intro ho (JD X.K .bool) (λz=>nomatch z) fin|int y=>cases ht;obtain⟨t,q⟩:=(show ∃t,u=Value.int y t from ru);cases q;exact Rl kitx_int I.kIn True.intro ho (JD X.K .int) (λz=>nomatch z) fin|str y=>cases ht;obtain⟨t,q⟩:=(show ∃t,u=Value.str y t from ru);cases q;exact Rl kitx_str I.kIn True.intro ho (JD X.K .str) (λz=>nomatch z) fin|@tup a vs ds hq hs =>cases ht;cases ru;obtain⟨its,_,⟨o,h1,h2,_⟩,_⟩:=I.tuple hq;exact Rl Bs I.kIn ⟨o,h1,h2⟩ ho (JD X.K .tuple) (λz=>nomatch z) fin|@fl a vs ds hq hs =>cases ht;cases ru;obtain⟨its,_,p,_⟩:=I.list hq.sq;obtain⟨o,h1,h2,_⟩:=p.isList;exact Rl Wd I.kIn ⟨o,h1,h2⟩ ho (JD X.K .list) (λz=>nomatch z) fin|@ref n a hn=>
  unfold X8 at ht;dsimp only at ht;cases hg:g[n]? with
  |none=>rw[hg]at ht;cases ht|some o=>
   rw[hg]at ht;obtain⟨a',ha',ob⟩:=r.addr hg;rw[hn]at ha';cases ha';cases o with
   |lst ds =>cases ht;obtain⟨vs,hH,_⟩:=ob;cases ru;obtain⟨_,_,n,_,h1⟩:=(show ObjOk X.prog X.w H s.heap a (.lst vs) from I.hok a _ hH);exact Rl Wd I.kIn ⟨_,h1,rfl⟩ ho (JD X.K .list) (λz=>nomatch z) fin|dct ks =>cases ht;obtain⟨kv,hH,_⟩:=ob;cases ru;obtain⟨_,_,vs,_,p⟩:=(show ObjOk X.prog X.w H s.heap a (.dK kv) from I.hok a _ hH);obtain⟨o,es,ep,h1,h2,_⟩:=p;exact Rl BI I.kIn ⟨o,h1,h2.1⟩ ho (JD X.K .dict) (λz=>nomatch z) fin|_=>cases ht
theorem DV{k:Nat}{p3:Pos}(hi:X.mg "isinstance"=none)(hl:X.mg "list"=none)(ht:X.mg "tuple"=none)(he:Qs ca X e me)(hgi:Gl X "isinstance":=by exact Eq.refl (some _))(hgl:Gl X "list":=by exact Eq.refl (some _))(hgt:Gl X "tuple":=by exact Eq.refl (some _))(hs:starEach [e,.Tuple [.Name "list" p2,.Name "tuple" p3] k tp] X.env=(false,eval e X.env)::starEach [.Tuple [.Name "list" p2,.Name "tuple" p3] k tp] X.env:=by rfl)(hs2:starEach [.Tuple [.Name "list" p2,.Name "tuple" p3] k tp] X.env=(false,eval (.Tuple [.Name "list" p2,.Name "tuple" p3] k tp) X.env)::starEach [] X.env:=by rfl)(hs3:starEach [.Name "list" p2,.Name "tuple" p3] X.env=(false,eval (.Name "list" p2) X.env)::starEach [.Name "tuple" p3] X.env:=by rfl)(hs4:starEach [.Name "tuple" p3] X.env=(false,eval (.Name "tuple" p3) X.env)::starEach [] X.env:=by rfl)(hpl:(backTo pos (starEach [.Tuple [.Name "list" p2,.Name "tuple" p3] k tp] X.env)).any (·.1)=false:=by exact Eq.refl false):
  Qs ca X (.Call (.Name "isinstance" p) [e,.Tuple [.Name "list" p2,.Name "tuple" p3] k tp] [] pos) (Qi XM me):=QZ (VG (X:=xo X) (IZ (ca:=ca)) hgi hi boot_isinstance (Xf (X:=xo X) he (Xf (X:=xo X) (OF (X:=xo X) (Xf (X:=xo X) (FJ (X:=xo X) (v:=.ty "list") hgl hl boot_list rfl (by decide) (by decide)) (Xf (X:=xo X) (FJ (X:=xo X) (v:=.ty "tuple") hgt ht boot_tuple rfl (by decide) (by decide)) FL hs4) hs3)) FL hs2) hs) (by decide) (by decide) hs hpl) λσ H Q ⟨σ3,g,μ,R,q⟩=>
  QC (Zl R q) λy H1 hQ=>by
   obtain⟨d,g1,μ1,e1,R1,q1,p1⟩:=hQ;unfold XM at p1;cases ht:X8 g1 d with
   |none=>rw[ht]at p1;exact p1.elim|some t =>rw[ht]at p1;exact⟨Uk (by decide:2<=SZ) Z5,λq hq=>⟨y,q,g1,μ1,d,t,rfl,.of Qr,R1.g.new hq,q1.mono (Q8 hq),ht,p1 _ _ μ1 (Q8 hq) (R1.g.new hq) (.bl _)⟩⟩
end
end L3
namespace L3
open PySem
def Hs(x y:D)(g:G):Res D:=match x,y with
 |.bl a,.bl b=>.ok (.bl (a != b)) g|_,_=>.stuck
open PySem.Spec PyProof.Rows L2
theorem DW:OpR X (compareOp .IsNot) (λx y H Q=>∃a b,x=.bl a/\y=.bl b/\Q (.bl (a != b)) H):=by intro pins s σ H x y v u Q I rx ry h;obtain⟨a,b,rfl,rfl,q⟩:=h;cases rx;cases ry;exact isnot_bool ⟨.bl (a != b),H,I,rfl,q⟩
theorem NR{K:Frag}:Yd K ca (λx y H Q=>∃a b,x=.bl a/\y=.bl b/\Q (.bl (a != b)) H) Hs:=by
 intro H μ g x y dx dy Q r qx qy p;unfold Hs at p;cases qx with
 |bl a=>cases qy with
  |bl b=>exact⟨a,b,rfl,rfl,p _ H μ .refl r (.bl _)⟩|_=>exact p.elim
 |_=>exact p.elim
theorem DX(ha:Qs ca X a ma)(hb:Qs ca X b mb):B3 ca X (.Compare a [.IsNot] [b] pos) (Qf (Qc Hs ma mb)):=JB DW NR ha hb (JN b)
end L3
namespace L3
open PySem
def I0:MS:=(Qz (YN (Qi (YE .int) (Qa 0)) (eL (Qi (YE .bool) (Qa 0)))))
def Jq:MF:=QI 1 0 I0
def La:MS:=(Qz (YN (Qg Jq (Qb (Qa 0) Qd)) (Kk Ar FZ (mI 0) (Qa 0) (Qa 1))))
def QV:MF:=QI 2 0 La
def Lb:MS:=(Qm (ZT (Qf (Qc bB (Qa 0) (Qp .non))) (Qz (Qp (.bl true))) Qv)
 (Qm (ZT (ZV (QR (Qf (Qi (YE .tuple) (Qa 0)))) (Qf (Qc Ik (Qi Zj (Qa 0)) (mI 3)))) (Qz (Qp (.bl false))) Qv)
 (Qz (YN (Qg QV (Qb (Qc QG (Qa 0) (mI 0)) (Qb (Qa 2) Qd))) (YN (Qc (eM false) (Qc QG (Qa 0) (mI 1)) (QQ Yy (Qb (Qp (.str "l")) (Qb (Qp (.str "r")) Qd)))) (Qg QV (Qb (Qc QG (Qa 0) (mI 2)) (Qb (Qa 1) Qd))))))))
def YU:MF:=QI 3 0 Lb
def Zr:MS:=(Qm (ZT (Qf (Qc Ik (Qi Zj (Qa 3)) (Qa 2))) Zy Qv)
 (ZT (QR (Qf (Qi XE (Zq (QL (Qa 3)) 1 [1,2] (Ql 0) Zz (Qg YU (Qb (Qa 0) (Qb (Qa 1) (Qb (Qa 2) Qd)))))))) Zy Qv))
def Z7:MS:=(Qm (ZT (Qf (Qc VD (Qi Zj (Qa 0)) (mI 0))) Zy Qv)
 (Qm (QF (Ql 1) (Qi Zj (Qa 0)))
 (Qm (QF (Ql 2) (Qi Zj (Qc QG (Qa 0) (mI 0))))
 (Qm (ZT (Qf (Qc VD (Qa 2) (mI 0))) Zy Qv)
 (YT (QL (Qa 0)) (Ql 3) Zr)))))
def Z8:MF:=QI 1 3 Z7
def XN:MS:=(Qm (QF (Ql 2) (Qi YD (Zq (QL (Qa 1)) 1 [] (Ql 0) Zz (Qi YD (Qa 0)))))
 (Qm (Q6 (Qg Z8 (Qb (Qa 2) Qd)))
 (Qw [11,12] "table" (Qa 0) (Qa 2))))
def ZX:MF:=QI 2 1 XN
def Ew:MS:=(Qm (Ec (Qa 1) (mI 0) (Qc ZE (Qc QG (Qa 1) (mI 0)) (mI 1)))
 (Qm (QF (Ql 2) (mI 0))
 (Qm (ZT (Qf (Qc GJ (Qi Zj (Qa 0)) (mI 0))) (QF (Ql 2) (Qc QG (Qa 0) (Qc Yz (Qc QG (Qa 1) (mI 0)) (Qi Zj (Qa 0))))) Qv)
 (Qm (QF (Ql 3) (Qc Yz (Qc XD (Qc ZE (Qc ZE (Qc Yz (Qa 2) (mI 2147483647)) (Qc XD (Qc XD (Qc QG (Qa 1) (mI 0)) (Qc QG (Qa 1) (mI 0))) (mI 7919))) (mI 11)) (mI 48271)) (mI 2147483647)))
 (Qz (Qc Yz (Qc XD (Qa 3) (Qa 3)) (mI 1999999973)))))))
def XO:MF:=QI 2 2 Ew
def Sb:MS:=(Qm (ZT (Qf (Qi (YE .dict) (Qa 1))) Zy Qv)
 (Qm (ZT (ZV (Qf (Qi (YE .list) (Qa 1))) (Qf (Qi (YE .tuple) (Qa 1)))) Zy Qv)
 (Qm (ZT (Qf (Qi (YE .str) (Qa 1))) Zy Qv)
 (Qz (YN (Qi (YE .int) (Qa 0)) (YN (eL (Qi (YE .bool) (Qa 0))) (Qc VD (Qa 0) (Qa 1))))))))
def Ht:MF:=QI 2 0 Sb
def ZI:MS:=(Qm (QF (Ql 8) (Qg XO (Qb (Qa 0) (Qb (Qa 1) Qd))))
 (Qm (QF (Ql 9) (QQ Yy (Qb (Qc Yz (Qc JA (Qa 8) (mI 9)) (Qa 3)) (Qb (Qc QG (Qp (.str "lr")) (Qc Yz (Qc JA (Qa 8) (mI 100)) (mI 2))) (Qb (Qc Yz (Qc JA (Qa 8) (mI 300)) (Qa 2)) Qd)))))
 (Qm (ZT (Qf (Qc VD (Qc Yz (Qa 8) (mI 9)) (mI 0))) (QF (Ql 9) (Qp .non)) Qv)
 (Q6 (Zp (Qa 6) (Qa 9))))))
def Jh:MS:=(Qm (QF (Ql 6) (QQ ZD Qd))
 (Qm (YT (Zh (Qa 3)) (Ql 7) ZI)
 (Q6 (Zp (Qa 4) (Qa 6)))))
def KA:MS:=(Qm (QF (Ql 4) (QQ ZD Qd))
 (Qm (YT (Zh (Qa 2)) (Ql 5) Jh)
 (Qz (Qa 4))))
def KC:MF:=QI 4 6 KA
def Se:MS:=(Qz (Qi YD (Zq (Zh (Qa 3)) 1 [0,1,2] (Ql 0) Zz (XH (Qa 1) (Qc ZE (Qa 2) (Qc XD (Qa 3) (Qa 0))) (mI 0)))))
def Y5:MF:=QI 4 0 Se
def Vg:MS:=(ZT (Qf (Qc ZP (Qg Y5 (Qb (Qa 3) (Qb (Qa 13) (Qb (Qi JP (mI 1)) (Qb (Qa 5) Qd))))) (Qa 6))) (Qz (Qp (.bl false))) Qv)
def Vh:MS:=(ZT (Qf (Qc ZP (Qg Y5 (Qb (Qa 3) (Qb (Qa 13) (Qb (mI 1) (Qb (Qa 5) Qd))))) (Qa 7))) (Qz (Qp (.bl false))) Qv)
def Vt:MS:=(Qm (QF (Eb [(Ql 4),(Ql 5),(Ql 6),(Ql 7),(Ql 8)]) (Qa 0))
 (Qm (QF (Ql 9) (Qg Y5 (Qb (Qa 3) (Qb (Qc FY (Qa 2) (mI 1)) (Qb (Qi JP (mI 1)) (Qb (Qa 5) Qd))))))
 (Qm (QF (Ql 10) (Qg Y5 (Qb (Qa 3) (Qb (Qc ZE (Qa 2) (mI 1)) (Qb (mI 1) (Qb (Qa 5) Qd))))))
 (Qm (ZT (Qf (Qc ZP (QQ Yy (Qb (Qa 9) (Qb (Qa 1) (Qb (XH (Qa 3) (Qa 2) (mI 0)) (Qb (Qa 10) Qd))))) (Qa 8))) (Qz (Qp (.bl false))) Qv)
 (Qm (QF (Ql 11) (Qi He (Qc ZE (Qi KU (Qa 3)) (QQ ZD (Qb (Qa 2) Qd)))))
 (Qm (QF (Ql 12) (Qi Hf (Qc ZE (Qi KU (Qa 3)) (QQ ZD (Qb (Qa 2) Qd)))))
 (Qm (YT (Yr (Qc FY (Qa 11) (mI 1)) (Qc FY (Qa 2) (mI 1))) (Ql 13) Vg)
 (Qm (YT (Yr (Qc ZE (Qa 2) (mI 2)) (Qc ZE (Qa 12) (mI 2))) (Ql 13) Vh)
 (Qz (Qp (.bl true)))))))))))
def Xm:MF:=QI 4 10 Vt
def JR:MS:=(XI (Qc QG (Qa 5) (Qa 6)) (Qa 7) (Qp (.bl true)))
def E3:MS:=(YT (QL (Qc QG (Qa 1) (Qc ZE (mI 2) (Qa 6)))) (Ql 7) JR)
def Y1:MS:=(Qm (ZT (QR (Qf (Qg Xm (Qb (Qa 8) (Qb (Qa 2) (Qb (Qa 3) (Qb (Qa 4) Qd))))))) (Qz (Qp (.bl false))) Qv)
 (Qm (QF (Ql 9) (Qc QG (Qc QG (Qa 0) (Qa 2)) (XH (Qa 4) (Qa 3) (mI 0))))
 (Qm (ZT (Qf (Qc bB (Qa 9) (Qp .non))) (Qz (Qp (.bl false))) Qv)
 (Qm (Hd (Qa 4) (Qa 3) (Qc QG (Qa 9) (mI 0)))
 (Qm (QF (Ql 2) (Qc QG (Qa 9) (mI 2)))
 (QF (Ql 3) (Qc ZE (Qa 3) (Qc QG (QQ ZD (Qb (Qi JP (mI 1)) (Qb (mI 1) Qd))) (Qi lI (Qc VD (Qc QG (Qa 9) (mI 1)) (Qp (.str "r"))))))))))))
def Vu:MS:=(Qm (QF (Ql 2) (mI 0))
 (Qm (QF (Ql 3) (mI 0))
 (Qm (QF (Ql 4) bG)
 (Qm (QF (Ql 5) (QQ ZD (Qb (Ym false) (Qb (Ym false) (Qb (Ym true) Qd)))))
 (Qm (YT (Zh (mI 3)) (Ql 6) E3)
 (Qm (QF (Ql 8) (QQ Yy (Qb (Qp (.str "wall")) (Qb (Qc QG (Qa 1) (mI 1)) (Qb (Qc QG (Qa 5) (mI 0)) (Qb (Qc QG (Qa 5) (mI 1)) (Qb (Qc QG (Qa 5) (mI 2)) Qd)))))))
 (Qm (YT (Zh (mI 60)) (Ql 6) Y1)
 (Qz (Qg Xm (Qb (Qa 8) (Qb (Qa 2) (Qb (Qa 3) (Qb (Qa 4) Qd)))))))))))))
def Vv:MF:=QI 2 8 Vu
def XQ:MS:=(Qm (Qw [11,12] "table" (Qa 0) (Qj [11,12] "table" (Qa 1)))
 (Qm (Qw [12] "state" (Qa 0) (Qc QG (Qa 2) (mI 0)))
 (Qm (Qw [12] "place" (Qa 0) (Qc QG (Qa 2) (mI 1)))
 (Qm (Qw [12] "left_marks" (Qa 0) (Zq (QL (Qc QG (Qa 2) (mI 2))) 2 [0] (Eb [(Ql 0),(Ql 1)]) Pd Pc))
 (Qw [12] "right_marks" (Qa 0) (Zq (IQ (Qc QG (Qa 2) (mI 2))) 2 [0] (Eb [(Ql 0),(Ql 1)]) Pd Pc))))))
def Y6:MF:=QI 3 0 XQ
def V3:MS:=(Qz (YN (Qc GJ (Qi Zj (Qj [12] "right_marks" (Qa 0))) (mI 0)) (Qc VD (Qc QG (Qc QG (Qj [12] "right_marks" (Qa 0)) (Qi JP (mI 1))) (mI 0)) (Qj [12] "place" (Qa 0)))))
def QS:MF:=QI 1 0 V3
def Xn:MS:=(Qm (QF (Ql 1) (ET (Qf (QD 12 "is_on_mark" QS (Qa 0) Qd)) (Qc QG (Qc QG (Qj [12] "right_marks" (Qa 0)) (Qi JP (mI 1))) (mI 1)) (mI 0)))
 (Qz (Qc QG (Qc QG (Qj [11,12] "table" (Qa 0)) (Qj [12] "state" (Qa 0))) (Qa 1))))
def Ji:MF:=QI 1 1 Xn
def Jr:MS:=(Qm (Qw [12] "place" (Qa 0) (Qc FY (Qj [12] "place" (Qa 0)) (mI 1)))
 (ZT (Vd (Qf (Qc GJ (Qi Zj (Qj [12] "left_marks" (Qa 0))) (mI 0))) (Qf (Qc VD (Qc QG (Qc QG (Qj [12] "left_marks" (Qa 0)) (Qi JP (mI 1))) (mI 0)) (Qj [12] "place" (Qa 0))))) (Q6 (Zp (Qj [12] "right_marks" (Qa 0)) (Qi Kp (Qj [12] "left_marks" (Qa 0))))) Qv))
def YG:MF:=QI 1 0 Jr
def Jb:MS:=(Qm (ZT (Qf (QD 12 "is_on_mark" QS (Qa 0) Qd)) (Q6 (Zp (Qj [12] "left_marks" (Qa 0)) (Qi Kp (Qj [12] "right_marks" (Qa 0))))) Qv)
 (Qw [12] "place" (Qa 0) (Qc ZE (Qj [12] "place" (Qa 0)) (mI 1))))
def Yj:MF:=QI 1 0 Jb
def YH:MS:=(Qm (ZT (Qf (QD 12 "is_on_mark" QS (Qa 0) Qd)) (Q6 (Qi Kp (Qj [12] "right_marks" (Qa 0)))) Qv)
 (ZT (Qf (Qc Ik (Qa 1) (mI 0))) (Q6 (Zp (Qj [12] "right_marks" (Qa 0)) (QQ Yy (Qb (Qj [12] "place" (Qa 0)) (Qb (Qa 1) Qd))))) Qv))
def Jj:MF:=QI 2 0 YH
def ZY:MS:=(Qm (QF (Ql 1) (QD 12 "entry" Ji (Qa 0) Qd))
 (Qm (ZT (Qf (Qc bB (Qa 1) (Qp .non))) (Qz (Qp (.bl false))) Qv)
 (Qm (Q6 (QD 12 "write" Jj (Qa 0) (Qb (Qc QG (Qa 1) (mI 0)) Qd)))
 (Qm (ZT (Qf (Qc VD (Qc QG (Qa 1) (mI 1)) (Qp (.str "r")))) (Q6 (QD 12 "go_right" Yj (Qa 0) Qd)) (Q6 (QD 12 "go_left" YG (Qa 0) Qd)))
 (Qm (Qw [12] "state" (Qa 0) (Qc QG (Qa 1) (mI 2)))
 (Qz (Qp (.bl true))))))))
def Zm:MF:=QI 1 1 ZY
def Vi:MS:=(QF (Ql 2) (Qc ZE (Qa 2) (mI 1)))
def Vw:MS:=(Qm (QF (Ql 2) (mI 0))
 (Qm (Km (Vd (Qf (Qc FZ (Qa 2) (Qa 1))) (Qf (QD 12 "stepped" Zm (Qa 0) Qd))) Vi)
 (Qz (Qa 2))))
def Vx:MF:=QI 2 1 Vw
def Hu:MS:=(Qz (QQ Yy (Qb (Qj [12] "state" (Qa 0)) (Qb (Qj [12] "place" (Qa 0)) (Qb (Qc ZE (Qi YD (Qj [12] "left_marks" (Qa 0))) (Qi JX (Qj [12] "right_marks" (Qa 0)))) Qd)))))
def XR:MF:=QI 1 0 Hu
def Lc:MS:=(Qz (Qi Zj (Qc QG (Qj [11,12] "table" (Qa 0)) (mI 0))))
def QW:MF:=QI 1 0 Lc
def Hv:MS:=(Qz (Qi Zj (Qj [11,12] "table" (Qa 0))))
def Ys:MF:=QI 1 0 Hv
def Ca:MS:=Zy
def Cb:MS:=Zy
def Xo:MS:=(Qm (ZT (QR (Qf (Qg QV (Qb (Qc QG (Qa 1) (mI 0)) (Qb (Qg Ys (Qb (Qa 0) Qd)) Qd))))) Zy Qv)
 (Qm (QF (Ql 2) (Qc QG (Qa 1) (mI 2)))
 (Qm (QF (Ql 3) (Qg QW (Qb (Qa 0) Qd)))
 (Qm (YT (QL (Qa 2)) (Eb [(Ql 4),(Ql 5)]) Ca)
 (YT (II (Qa 2) (ZW (Qa 2) (YQ (mI 1)) Zw)) (Eb [(Ql 6),(Ql 7)]) Cb)))))
def Xp:MF:=QI 2 6 Xo
def Xq:MS:=(Qm (Q6 (Qg Xp (Qb (Qa 0) (Qb (Qa 1) Qd))))
 (Qm (QF (Ql 3) (YC 12 Y6 (Qb (Qa 0) (Qb (Qa 1) Qd))))
 (Qm (QF (Ql 4) (QD 12 "run" Vx (Qa 3) (Qb (Qa 2) Qd)))
 (Qz (QQ Yy (Qb (QD 12 "shot" XR (Qa 3) Qd) (Qb (Qa 4) Qd)))))))
def Xr:MF:=QI 3 2 Xq
def DY:MS:=(Qz (Qg Xr (Qb (Qa 0) (Qb (Qp (.tup [(.int 0),(.int 0),(.tup [])])) (Qb (Qa 1) Qd)))))
def Gd:MF:=QI 2 0 DY
def Cc:MS:=(Qm (ZT (ZV (QR (Qf (Qi (YE .tuple) (Qa 0)))) (ZV (Qf (Qc Ik (Qi Zj (Qa 0)) (mI 4))) (Qf (Qc Ik (Qc QG (Qa 0) (mI 0)) (Qp (.str "grow")))))) (Qz (Qp (.bl false))) Qv)
 Zy)
def XA:MF:=QI 1 0 Cc
def Ge:MS:=(Qm (ZT (QR (Qf (Qg XA (Qb (Qa 1) Qd)))) (Qz (Qp (.bl false))) Qv)
 Zy)
def Jk:MF:=QI 2 2 Ge
def Ld:MS:=(Qm (ZT (ZV (QR (Qf (Qi (YE .tuple) (Qa 0)))) (ZV (Qf (Qc Ik (Qi Zj (Qa 0)) (mI 3))) (Qf (Qc Ik (Qc QG (Qa 0) (mI 0)) (Qa 1))))) (Qz (Qp (.bl false))) Qv)
 Zy)
def Xs:MF:=QI 2 0 Ld
def Gf:MS:=(Qm (ZT (QR (Qf (Qg Xs (Qb (Qa 1) (Qb (Qp (.str "same")) Qd))))) (Qz (Qp (.bl false))) Qv)
 Zy)
def Xt:MF:=QI 2 1 Gf
def Cd:MS:=(Qm (ZT (QR (Qf (Qg Xs (Qb (Qa 1) (Qb (Qp (.str "shifted")) Qd))))) (Qz (Qp (.bl false))) Qv)
 Zy)
def Jc:MF:=QI 2 1 Cd
def V4:MS:=(Qz (F9 (Qj [14] "by_seen" (Qa 0)) (Qa 1) (QQ ZD Qd)))
def QJ:MF:=QI 2 0 V4
def Hw:MS:=(Qz (Qc IX (Qa 1) (QD 14 "beginning" QJ (Qa 0) (Qb (ZW (Qa 1) Zw (YQ (Qi JP (mI 1)))) Qd))))
def QX:MF:=QI 2 0 Hw
def Gg:MS:=(Qw [14] "by_seen" (Qa 0) (Ym false))
def YI:MF:=QI 1 0 Gg
def ZZ:MS:=(ZT (QR (Qf (QD 14 "has" QX (Qa 0) (Qb (Qa 1) Qd)))) (Q6 (Zp (Y4 (Qj [14] "by_seen" (Qa 0)) (ZW (Qa 1) Zw (YQ (Qi JP (mI 1)))) (QQ ZD Qd)) (Qa 1))) Qv)
def Zn:MF:=QI 2 0 ZZ
def JS:MS:=(Q6 (QD 14 "put_in" Zn (Qa 1) (Qb (Qa 2) Qd)))
def Js:MS:=(Qm (QF (Ql 1) (YC 14 YI Qd))
 (Qm (YT (QL (Qa 0)) (Ql 2) JS)
 (Qz (Qa 1))))
def Zd:MF:=QI 1 2 Js
def Le:MS:=(Qz (Qc QG (Qc QG (Qj [11,12] "table" (Qa 0)) (Qc QG (Qa 1) (mI 1))) (Qc QG (Qa 1) (mI 2))))
def Yn:MF:=QI 2 0 Le
def V5:MS:=(Qz (ET (Qf (Qc VD (Qc QG (Qa 0) (mI 1)) (Qp (.str "r")))) (Qc QG (Qa 1) (mI 3)) (Qc QG (Qa 1) (mI 0))))
def ZJ:MF:=QI 2 0 V5
def Vj:MS:=(Qz (ET (Qf (Qc VD (Qc QG (Qa 0) (mI 1)) (Qp (.str "r")))) (Qc QG (Qa 1) (mI 0)) (Qc QG (Qa 1) (mI 3))))
def Zu:MF:=QI 2 0 Vj
def Jt:MS:=(Qm (QF (Ql 3) (Qc QG (Qg ZJ (Qb (Qa 0) (Qb (Qa 1) Qd))) (mI 0)))
 (Qm (QF (Ql 4) (Qc ZE (QQ Yy (Qb (Qc QG (Qa 0) (mI 0)) Qd)) (ZW (Qg Zu (Qb (Qa 0) (Qb (Qa 1) Qd))) Zw (YQ (Qi JP (mI 1))))))
 (Qm (ZT (Qf (Qc VD (Qc QG (Qa 0) (mI 1)) (Qp (.str "r")))) (Qz (QQ Yy (Qb (Qa 4) (Qb (Qc QG (Qa 0) (mI 2)) (Qb (Qa 3) (Qb (Qa 2) Qd)))))) Qv)
 (Qz (QQ Yy (Qb (Qa 2) (Qb (Qc QG (Qa 0) (mI 2)) (Qb (Qa 3) (Qb (Qa 4) Qd)))))))))
def Q9:MF:=QI 3 2 Jt
def KZ:MS:=(Qz (ET (Qf (Qc VD (Qa 0) (Qp (.str "r")))) (Qp (.str "l")) (Qp (.str "r"))))
def Yt:MF:=QI 1 0 KZ
def Lf:MS:=(Qm (QF (Ql 4) (Qg Yn (Qb (Qa 0) (Qb (Qa 3) Qd))))
 (Qm (ZT (Qf (Qc bB (Qa 4) (Qp .non))) (Qz (Qp (.bl false))) Qv)
 (Qm (QF (Ql 5) (Qc QG (Qa 4) (mI 1)))
 (Qm (ZT (QR (Qf (QD 14 "has" QX (Qc ZA (Qa 1) (Qg Yt (Qb (Qa 5) Qd))) (Qb (Qg Zu (Qb (Qa 4) (Qb (Qa 3) Qd))) Qd)))) (Qz (Qp (.bl false))) Qv)
 (Qm (QF (Ql 6) (QD 14 "beginning" QJ (Qc ZA (Qa 1) (Qa 5)) (Qb (ZW (Qg ZJ (Qb (Qa 4) (Qb (Qa 3) Qd))) (YQ (mI 1)) Zw) Qd)))
 (Qz (Qi XE (Zq (QL (Qa 6)) 1 [2,4,3] (Ql 0) Zz (Qc NP (Qg Q9 (Qb (Qa 2) (Qb (Qa 3) (Qb (Qa 0) Qd)))) (Qa 1))))))))))
def Xu:MF:=QI 4 3 Lf
def NS:MS:=(Qz (YN (Qi (YE .tuple) (Qa 0)) (YN (Qc VD (Qi Zj (Qa 0)) (Qa 1)) (Qi XE (Zq (QL (Qa 0)) 1 [2] (Ql 0) Zz (Qg QV (Qb (Qa 0) (Qb (Qa 1) Qd))))))))
def Yu:MF:=QI 3 0 NS
def Hx:MS:=(Qz (YN (Qi XM (Qa 0)) (Qi XE (Zq (QL (Qa 0)) 1 [1,2] (Ql 0) Zz (Qg Yu (Qb (Qa 0) (Qb (Qa 1) (Qb (Qa 2) Qd))))))))
def ZG:MF:=QI 3 0 Hx
def Gh:MS:=(Qm (ZT (ZV (QR (Qf (Qi (YE .tuple) (Qa 0)))) (Qf (Qc Ik (Qi Zj (Qa 0)) (mI 4)))) (Qz (Qp (.bl false))) Qv)
 (Qm (ZT (ZV (QR (Qf (Qg QV (Qb (Qc QG (Qa 0) (mI 1)) (Qb (Qg Ys (Qb (Qa 2) Qd)) Qd))))) (QR (Qf (Qg QV (Qb (Qc QG (Qa 0) (mI 2)) (Qb (Qg QW (Qb (Qa 2) Qd)) Qd)))))) (Qz (Qp (.bl false))) Qv)
 (Qz (YN (Qg Yu (Qb (Qc QG (Qa 0) (mI 0)) (Qb (Qa 1) (Qb (Qg QW (Qb (Qa 2) Qd)) Qd)))) (Qg Yu (Qb (Qc QG (Qa 0) (mI 3)) (Qb (Qa 1) (Qb (Qg QW (Qb (Qa 2) Qd)) Qd))))))))
def ZK:MF:=QI 3 0 Gh
def KD:MS:=(Qz (YN (Qg Jq (Qb (Qa 0) Qd)) (Qc qV (Qa 0) (mI 0))))
def Zi:MF:=QI 1 0 KD
def XB:MS:=(Qm (ZT (ZV (QR (Qf (Qi (YE .tuple) (Qa 1)))) (ZV (Qf (Qc Ik (Qi Zj (Qa 1)) (mI 5))) (Qf (Qc Ik (Qc QG (Qa 1) (mI 0)) (Qp (.str "wall")))))) (Qz (Qp (.bl false))) Qv)
 (Qm (QF (Ql 2) (Qc QG (Qa 1) (mI 1)))
 (Qm (ZT (ZV (QR (Qf (Qg Zi (Qb (Qa 2) Qd)))) (Qf (Qc FZ (Qa 2) (mI 1)))) (Qz (Qp (.bl false))) Qv)
 (Qm (ZT (ZV (QR (Qf (Qg ZG (Qb (Qc QG (Qa 1) (mI 2)) (Qb (Qa 2) (Qb (Qg QW (Qb (Qa 0) Qd)) Qd)))))) (QR (Qf (Qg ZG (Qb (Qc QG (Qa 1) (mI 3)) (Qb (Qa 2) (Qb (Qg QW (Qb (Qa 0) Qd)) Qd))))))) (Qz (Qp (.bl false))) Qv)
 (Qz (YN (Qi XM (Qc QG (Qa 1) (mI 4))) (Qi XE (Zq (QL (Qc QG (Qa 1) (mI 4))) 1 [2,0] (Ql 0) Zz (Qg ZK (Qb (Qa 0) (Qb (Qa 1) (Qb (Qa 2) Qd))))))))))))
def Yk:MF:=QI 2 1 XB
def Gi:MS:=(Qm (ZT (ZV (QR (Qf (Qg Yk (Qb (Qa 0) (Qb (Qa 1) Qd))))) (Qf (Qc VD (Qi Zj (Qc QG (Qa 1) (mI 4))) (mI 0)))) (Qz (Qp (.bl false))) Qv)
 (Qm (QF (Ql 2) (Qc Hl (QQ Yy (Qb (mI 0) Qd)) (Qc QG (Qa 1) (mI 1))))
 (Qm (QF (Ql 3) (JQ (Qb (Qp (.str "l")) (Qb (Qg Zd (Qb (Qc QG (Qa 1) (mI 2)) Qd)) (Qb (Qp (.str "r")) (Qb (Qg Zd (Qb (Qc QG (Qa 1) (mI 3)) Qd)) Qd))))))
 (Qm (QF (Ql 4) (Qi Et (Zq (QL (Qc QG (Qa 1) (mI 4))) 1 [] (Ql 0) Zz (QQ Yy (Qb (Qa 0) (Qb (Qp (.bl true)) Qd))))))
 (Qm (ZT (ZV (QR (Qf (QD 14 "has" QX (Qc ZA (Qa 3) (Qp (.str "l"))) (Qb (Qa 2) Qd)))) (ZV (QR (Qf (QD 14 "has" QX (Qc ZA (Qa 3) (Qp (.str "r"))) (Qb (Qa 2) Qd)))) (Qf (Qc ZP (QQ Yy (Qb (Qa 2) (Qb (mI 0) (Qb (mI 0) (Qb (Qa 2) Qd))))) (Qa 4))))) (Qz (Qp (.bl false))) Qv)
 (Qz (Qi XE (Er 4 1 [0,3,4] (Ql 0) Zz (Qg Xu (Qb (Qa 1) (Qb (Qa 2) (Qb (Qa 3) (Qb (Qa 0) Qd)))))))))))))
def Z9:MF:=QI 2 3 Gi
def DZ:MS:=(Qm (ZT (ZV (Qf (Qg Xt (Qb (Qa 0) (Qb (Qa 1) Qd)))) (Qf (Qg Jc (Qb (Qa 0) (Qb (Qa 1) Qd))))) (Qz (Qp (.bl true))) Qv)
 (Qz (qU (Qg Jk (Qb (Qa 0) (Qb (Qa 1) Qd))) (Qg Z9 (Qb (Qa 0) (Qb (Qa 1) Qd))))))
def Gj:MF:=QI 2 0 DZ
def Ye:MS:=(ZT (Qf (Qc ZP (Qa 1) (Qj [15] "contexts" (Qa 0)))) (Qm (XI (Qj [15] "contexts" (Qa 0)) (Qa 1) (Qp (.bl true)))
 (Q6 (Zp (Qj [15] "pending" (Qa 0)) (Qa 1)))) Qv)
def Q1:MF:=QI 2 0 Ye
def YV:MS:=(Qm (QF (Ql 3) (Qc Hl (QQ Yy (Qb (mI 0) Qd)) (Qa 2)))
 (Qm (Qw [15] "machine" (Qa 0) (Qa 1))
 (Qm (Qw [15] "sides" (Qa 0) (JQ (Qb (Qp (.str "l")) (Qb (Qg Zd (Qb (QQ ZD (Qb (Qa 3) Qd)) Qd)) (Qb (Qp (.str "r")) (Qb (Qg Zd (Qb (QQ ZD (Qb (Qa 3) Qd)) Qd)) Qd))))))
 (Qm (Qw [15] "contexts" (Qa 0) (Ym true))
 (Qm (Qw [15] "pending" (Qa 0) (QQ ZD Qd))
 (Qm (Qw [15] "asking" (Qa 0) (JQ (Qb (Qp (.str "l")) (Qb (Ym false) (Qb (Qp (.str "r")) (Qb (Ym false) Qd))))))
 (Q6 (QD 15 "ask_for" Q1 (Qa 0) (Qb (QQ Yy (Qb (Qa 3) (Qb (mI 0) (Qb (mI 0) (Qb (Qa 3) Qd))))) Qd)))))))))
def Ya:MF:=QI 3 1 YV
def Je:MS:=(Q6 (CB (Qa 1) (Qa 2)))
def YW:MS:=(Qm (QF (Ql 1) (QQ ZD Qd))
 (Qm (YT (P2 (Qj [14] "by_seen" (Qa 0))) (Ql 2) Je)
 (Qz (Qi V1 (Qa 1)))))
def Yb:MF:=QI 1 2 YW
def V6:MS:=(Qz (QQ Yy (Qb (Qp (.str "wall")) (Qb (Qa 1) (Qb (QD 14 "in_order" Yb (Qc ZA (Qj [15] "sides" (Qa 0)) (Qp (.str "l"))) Qd) (Qb (QD 14 "in_order" Yb (Qc ZA (Qj [15] "sides" (Qa 0)) (Qp (.str "r"))) Qd) (Qb (Qi V0 (Qj [15] "contexts" (Qa 0))) Qd)))))))
def ZQ:MF:=QI 2 0 V6
def Yv:MS:=(Q6 (QD 15 "ask_for" Q1 (Qa 0) (Qb (Qg Q9 (Qb (Qg Yn (Qb (Qj [15] "machine" (Qa 0)) (Qb (Qa 3) Qd))) (Qb (Qa 3) (Qb (Qa 2) Qd)))) Qd)))
def Z0:MS:=(Qm (ZT (Qf (QD 14 "has" QX (Qc ZA (Qj [15] "sides" (Qa 0)) (Qa 1)) (Qb (Qa 2) Qd))) Pb Qv)
 (Qm (Q6 (QD 14 "put_in" Zn (Qc ZA (Qj [15] "sides" (Qa 0)) (Qa 1)) (Qb (Qa 2) Qd)))
 (YT (QL (F9 (Qc ZA (Qj [15] "asking" (Qa 0)) (Qa 1)) (ZW (Qa 2) Zw (YQ (Qi JP (mI 1)))) (QQ ZD Qd))) (Ql 3) Yv)))
def Z1:MF:=QI 3 1 Z0
def YJ:MS:=(Q6 (QD 15 "ask_for" Q1 (Qa 0) (Qb (Qg Q9 (Qb (Qa 2) (Qb (Qa 1) (Qb (Qa 5) Qd)))) Qd)))
def Ze:MS:=(Qm (QF (Ql 1) (Qi Kp (Qj [15] "pending" (Qa 0))))
 (Qm (QF (Ql 2) (Qg Yn (Qb (Qj [15] "machine" (Qa 0)) (Qb (Qa 1) Qd))))
 (Qm (ZT (Qf (Qc bB (Qa 2) (Qp .non))) (Qz (Qp (.bl false))) Qv)
 (Qm (QF (Ql 3) (Qc QG (Qa 2) (mI 1)))
 (Qm (Q6 (QD 15 "put_gram" Z1 (Qa 0) (Qb (Qg Yt (Qb (Qa 3) Qd)) (Qb (Qg Zu (Qb (Qa 2) (Qb (Qa 1) Qd))) Qd))))
 (Qm (QF (Ql 4) (ZW (Qg ZJ (Qb (Qa 2) (Qb (Qa 1) Qd))) (YQ (mI 1)) Zw))
 (Qm (Q6 (Zp (Y4 (Qc ZA (Qj [15] "asking" (Qa 0)) (Qa 3)) (Qa 4) (QQ ZD Qd)) (Qa 1)))
 (Qm (YT (QL (QD 14 "beginning" QJ (Qc ZA (Qj [15] "sides" (Qa 0)) (Qa 3)) (Qb (Qa 4) Qd))) (Ql 5) YJ)
 (Qz (Qp (.bl true)))))))))))
def Q2:MF:=QI 1 5 Ze
def ZL:MS:=(ZT (ZV (Qf (Qc GJ (Qi VZ (Qj [15] "contexts" (Qa 3))) (Qa 2))) (QR (Qf (QD 15 "went_on" Q2 (Qa 3) Qd)))) (Qz (Qp .non)) Qv)
def JZ:MS:=(Qm (ZT (Qf (Qc FZ (Qa 1) (mI 1))) Zy Qv)
 (Qm (QF (Ql 3) (YC 15 Ya (Qb (Qa 0) (Qb (Qa 1) Qd))))
 (Qm (Km (Qf (Qc GJ (Qi Zj (Qj [15] "pending" (Qa 3))) (mI 0))) ZL)
 (Qz (ET (Qf (Qc Ar (Qi VZ (Qj [15] "contexts" (Qa 3))) (Qa 2))) (QD 15 "paper" ZQ (Qa 3) (Qb (Qa 1) Qd)) (Qp .non))))))
def XY:MF:=QI 3 1 JZ
def Ju:MS:=(Qm (QF (Ql 6) (Qp .non))
 (Qm (ZT (ZV (Qf (Qc FZ (Qa 5) (mI 3))) (Qf (Qc VD (Qi Zj (Qc QG (Qa 3) (mI 0))) (mI 2)))) (QF (Ql 6) (Qg XY (Qb (Qa 4) (Qb (Qa 5) (Qb (mI 120) Qd))))) Qv)
 (Qm (ZT (Qf (Qc bB (Qa 6) (Qp .non))) sM Qv)
 (Qm (ZT (ZV (Qf (Qc Hs (Qg Z9 (Qb (Qa 4) (Qb (Qa 6) Qd))) (Qp (.bl true)))) (Qf (Qc Hs (Qg Gj (Qb (Qa 4) (Qb (Qa 6) Qd))) (Qp (.bl true))))) (Qz (Qp (.bl false))) Qv)
 (ZT (ZV (QR (Qf (Qg Vv (Qb (Qa 3) (Qb (Qa 6) Qd))))) (QR (Qf (Qg Ht (Qb (Qc QG (Qg Gd (Qb (Qa 4) (Qb (mI 60) Qd))) (mI 1)) (Qb (mI 60) Qd)))))) (Qz (Qp (.bl false))) Qv)))))
def Gk:MS:=(Qm (QF (Ql 2) (Qg XO (Qb (Qa 0) (Qb (Qa 1) Qd))))
 (Qm (QF (Ql 3) (Qg KC (Qb (Qa 0) (Qb (Qa 1) (Qb (Qc ZE (mI 1) (Qc Yz (Qa 2) (mI 3))) (Qb (Qc ZE (mI 2) (Qc Yz (Qc JA (Qa 2) (mI 3)) (mI 2))) Qd))))))
 (Qm (QF (Ql 4) (YC 11 ZX (Qb (Qa 3) Qd)))
 (Qm (YT (QL (QQ ZD (Qb (mI 1) (Qb (mI 2) (Qb (mI 3) Qd))))) (Ql 5) Ju)
 (Qz (Qp (.bl true)))))))
def Gm:MF:=QI 2 5 Gk
def Hy:MS:=(ZT (QR (Qf (Qg Gm (Qb (Qa 0) (Qb (Qa 1) Qd))))) (Qz (Qp (.bl false))) Qv)
def Sf:MS:=(Qm (QF (Ql 1) (QQ ZD (Qb (mI 0) Qd)))
 (Qm (YT (Zh (Qc ZE (mI 1) (Qc L4 (mI 2) (Qc JA (Qi Zj (Qa 0)) (mI 16))))) (Ql 2) Hy)
 (Qz (Qp (.bl true)))))
def Mg:MF:=QI 1 2 Sf
structure Keeps(S:List Nat)(g g':G):Prop where
 len:g.length<=g'.length
 at':∀n o,n∉S->g[n]?=some o->g'[n]?=some o
theorem Keeps.refl  : Keeps S g g:=⟨Ug _,λ_ _ _ h=>h⟩
theorem Keeps.trans(a:Keeps S g g1)(b:Keeps S g1 g2):Keeps S g g2:=⟨Uk a.len b.len,λn o h e=>b.at' n o h (a.at' n o h e)⟩
theorem Keeps.mono(a:Keeps S g g1)(h:∀n∈S,n∈T):Keeps T g g1:=⟨a.len,λn o q e=>a.at' n o (λz=>q (h n z)) e⟩
theorem Keeps.push(o:GO):Keeps S g (g++[o]):=⟨by simp,λn u _ e=>by have hl:n<g.length:=(Um.mp e).1;rw[Ul hl];exact e⟩
theorem Keeps.set(n:Nat)(o:GO):Keeps [n] g (g.set n o):=⟨by simp,λm u h e=>by rw[Ud (λz=>h (by simp[z]))];exact e⟩
structure KeepsN(k:Nat)(S:List Nat)(g g':G):Prop where
 len:g.length<=g'.length
 at':∀n o,n<k->n∉S->g[n]?=some o->g'[n]?=some o
theorem KeepsN.trans(a:KeepsN k S g g1)(b:KeepsN k S g1 g2):KeepsN k S g g2:=⟨Uk a.len b.len,λn o l h e=>b.at' n o l h (a.at' n o l h e)⟩
theorem Keeps.n(a:Keeps S g g1)(h:∀n∈S,n<k->n∈T):KeepsN k T g g1:=⟨a.len,λn o l q e=>a.at' n o (λz=>q (h n z l)) e⟩
theorem KeepsN.keeps(a:KeepsN g.length S g g1):Keeps S g g1:=⟨a.len,λn o q e=>a.at' n o (Um.mp e).1 q e⟩
theorem QM(o:GO):(g++[o])[g.length]?=some o:=by simp
theorem QB{g:G}{n:Nat}{o:GO}(h:g[n]?=some o):n<g.length:=(Um.mp h).1
theorem Zb{g:G}{n:Nat}{o u:GO}(h:g[n]?=some o):(g.set n u)[n]?=some u:=by rw[UT (QB h)]
def Mh:Out->Prop
 |.rt _ _=>True|.stuck=>True|_=>False
theorem J0{src:Src}{t:MG}{body:MS}{n:Nat}(I:Nat->S3->G->Prop)(R:Out->Prop)(step:∀i σ g,i<n->I i σ g->∃d σ1,src.at' g i=some (some d)/\t d σ=some σ1/\((∃σ2 g2,(body σ1 g=.nx σ2 g2\/body σ1 g=.ct σ2 g2)/\I (i+1) σ2 g2)\/(Mh (body σ1 g)/\R (body σ1 g))))(stop:∀σ g,I n σ g->src.at' g n=some none):∀(f i:Nat)(σ:S3)(g:G),n-i<f->i<=n->I i σ g->(∃σ' g',YS src t body f i σ g=.nx σ' g'/\I n σ' g')\/(Mh (YS src t body f i σ g)/\R (YS src t body f i σ g))
 |0,_,_,_,h,_,_=>by omega
 |f+1,i,σ,g,hf,hi,h=>by
  unfold YS;by_cases e:i=n
  ·subst e;rw[stop σ g h];exact .inl ⟨σ,g,rfl,h⟩
  ·obtain⟨d,σ1,h1,h2,h3⟩:=step i σ g (by omega) h;rw[h1];dsimp only;rw[h2];dsimp only;rcases h3 with⟨σ2,g2,h3|h3,h4⟩|⟨h3,h4⟩
   ·rw[h3];exact J0 I R step stop f (i+1) σ2 g2 (by omega) (by omega) h4
   ·rw[h3];exact J0 I R step stop f (i+1) σ2 g2 (by omega) (by omega) h4
   ·cases hb:body σ1 g with
    |rt d g'=>rw[hb]at h4;exact .inr ⟨trivial,h4⟩|nx _ _=>rw[hb]at h3;exact h3.elim|bk _ _=>rw[hb]at h3;exact h3.elim|ct _ _=>rw[hb]at h3;exact h3.elim|stuck=>rw[hb]at h4;exact .inr ⟨trivial,h4⟩
theorem J4{t:MG}{body:MS}{lo:Int}{n:Nat}{σ:S3}{g:G}(I:Nat->S3->G->Prop)(h0:I 0 σ g)(step:∀i σ g,i<n->I i σ g->∃σ1 σ2 g2,t (.int (lo+i)) σ=some σ1/\body σ1 g=.nx σ2 g2/\I (i+1) σ2 g2):∃σ' g',YS (Zs lo n) t body (n+1) 0 σ g=.nx σ' g'/\I n σ' g':=by
 have:=J0 (src:=Zs lo n) (t:=t) (body:=body) (n:=n) I (λ_=>False) (λi σ g hi h=>by obtain⟨σ1,σ2,g2,a,b,c⟩:=step i σ g hi h;exact⟨.int (lo+i),σ1,by simp[Zs,hi],a,.inl ⟨σ2,g2,.inl b,c⟩⟩) (λσ g _=>by simp[Zs]) (n+1) 0 σ g (by omega) (by omega) h0;rcases this with h|h
 ·exact h
 ·exact h.2.elim
theorem NT{t:MG}{body:MS}{ds:List D}{σ:S3}{g:G}(I:Nat->S3->G->Prop)(h0:I 0 σ g)(step:∀i d σ g,ds[i]?=some d->I i σ g->∃σ1 σ2 g2,t d σ=some σ1/\body σ1 g=.nx σ2 g2/\I (i+1) σ2 g2):∃σ' g',YS ⟨λ_ i=>some ds[i]?,ds.length⟩ t body (ds.length+1) 0 σ g=.nx σ' g'/\I ds.length σ' g':=by
 have:=J0 (src:=⟨λ_ i=>some ds[i]?,ds.length⟩) (t:=t) (body:=body) (n:=ds.length) I (λ_=>False) (λi σ g hi h=>by obtain⟨σ1,σ2,g2,a,b,c⟩:=step i ds[i] σ g (by simp[hi]) h;exact⟨ds[i],σ1,by simp[hi],a,.inl ⟨σ2,g2,.inl b,c⟩⟩) (λσ g _=>by simp) (ds.length+1) 0 σ g (by omega) (by omega) h0;rcases this with h|h
 ·exact h
 ·exact h.2.elim
theorem Gn{t:MG}{body:MS}{ds:List D}{σ:S3}{g:G}(I:Nat->S3->G->Prop)(R:Out->Prop)(h0:I 0 σ g)(step:∀i d σ g,ds[i]?=some d->I i σ g->∃σ1,t d σ=some σ1/\((∃σ2 g2,body σ1 g=.nx σ2 g2/\I (i+1) σ2 g2)\/(Mh (body σ1 g)/\R (body σ1 g)))):
  (∃σ' g',YS ⟨λ_ i=>some ds[i]?,ds.length⟩ t body (ds.length+1) 0 σ g=.nx σ' g'/\I ds.length σ' g')\/(Mh (YS ⟨λ_ i=>some ds[i]?,ds.length⟩ t body (ds.length+1) 0 σ g)/\R (YS ⟨λ_ i=>some ds[i]?,ds.length⟩ t body (ds.length+1) 0 σ g)):=
 J0 (src:=⟨λ_ i=>some ds[i]?,ds.length⟩) (t:=t) (body:=body) (n:=ds.length) I R (λi σ g hi h=>by
  obtain⟨σ1,a,b⟩:=step i ds[i] σ g (by simp[hi]) h;refine⟨ds[i],σ1,by simp[hi],a,?_⟩;rcases b with⟨σ2,g2,b,c⟩|b
  ·exact .inl ⟨σ2,g2,.inl b,c⟩
  ·exact .inr b) (λσ g _=>by simp) (ds.length+1) 0 σ g (by omega) (by omega) h0
theorem Mi{src:Src}{t:MG}{body:MS}{n:Nat}{σ:S3}{g:G}(hn:src.top=n)(I:Nat->S3->G->Prop)(h0:I 0 σ g)(step:∀i σ g,i<n->I i σ g->∃d σ1 σ2 g2,src.at' g i=some (some d)/\t d σ=some σ1/\body σ1 g=.nx σ2 g2/\I (i+1) σ2 g2)(stop:∀σ g,I n σ g->src.at' g n=some none):∃σ' g',YS src t body (src.top+1) 0 σ g=.nx σ' g'/\I n σ' g':=by
 rw[hn];have:=J0 (src:=src) (t:=t) (body:=body) (n:=n) I (λ_=>False) (λi σ g hi h=>by obtain⟨d,σ1,σ2,g2,a,b,c,e⟩:=step i σ g hi h;exact⟨d,σ1,a,b,.inl ⟨σ2,g2,.inl c,e⟩⟩) stop (n+1) 0 σ g (by omega) (by omega) h0;rcases this with h|h
 ·exact h
 ·exact h.2.elim
theorem Jm{src:Src}{t:MG}{c:MT}{e:ME}{n:Nat}(I:Nat->S3->G->List D->Prop)(step:∀i σ g acc,i<n->I i σ g acc->∃d σ1 g1,src.at' g i=some (some d)/\t d σ=some σ1/\((∃y g2,c σ1 g=.ok true g1/\e σ1 g1=.ok y g2/\I (i+1) σ1 g2 (acc++[y]))\/(c σ1 g=.ok false g1/\I (i+1) σ1 g1 acc)))(stop:∀σ g acc,I n σ g acc->src.at' g n=some none):∀(f i:Nat)(σ:S3)(g:G)(acc:List D),n-i<f->i<=n->I i σ g acc->∃ds σ' g',YB src t c e f i σ g acc=.ok ds g'/\I n σ' g' ds
 |0,_,_,_,_,h,_,_=>by omega
 |f+1,i,σ,g,acc,hf,hi,h=>by
  unfold YB;by_cases q:i=n
  ·subst q;rw[stop σ g acc h];exact⟨acc,σ,g,rfl,h⟩
  ·obtain⟨d,σ1,g1,h1,h2,h3⟩:=step i σ g acc (by omega) h;rw[h1];dsimp only;rw[h2];dsimp only;rcases h3 with⟨y,g2,h3,h4,h5⟩|⟨h3,h5⟩
   ·rw[h3];dsimp only;rw[Uf rfl,h4];exact Jm I step stop f (i+1) σ1 g2 _ (by omega) (by omega) h5
   ·rw[h3];dsimp only;rw[Uh Uj];exact Jm I step stop f (i+1) σ1 g1 _ (by omega) (by omega) h5
theorem Lg{ds:List D}{e:ME}{no:Nat}{σ:S3}{g:G}{f:D->D}(hz:ds.length<=SZ)(he:∀d∈ds,∀g1,Keeps [] g g1->∃g2,e ((List.replicate (no+1) none++σ).set 0 (some d)) g1=.ok (f d) g2/\Keeps [] g1 g2):
  ∃g',YB ⟨λ_ i=>some ds[i]?,ds.length⟩ (Ql 0) Zz e (ds.length+1) 0 (List.replicate (no+1) none++σ) g []=.ok (ds.map f) g'/\Keeps [] g g':=by
 obtain⟨xs,σ',g',h1,h2,h3,h4⟩:=Jm (src:=⟨λ_ i=>some ds[i]?,ds.length⟩) (t:=Ql 0) (c:=Zz) (e:=e) (n:=ds.length)
  (λi σ' g1 acc=>acc=(ds.take i).map f/\Keeps [] g g1/\∃u,σ'=(List.replicate (no+1) none++σ).set 0 u) (λi σ' g1 acc hi h=>by
   obtain⟨h1,h2,u,h3⟩:=h;obtain⟨g2,k1,k2⟩:=he ds[i] (Tk hi) g1 h2;refine⟨ds[i],_,g1,by simp[hi],rfl,.inl ⟨f ds[i],g2,rfl,?_,?_,h2.trans k2,some ds[i],?_⟩⟩
   ·subst h3;rw[Wp];exact k1
   ·rw[h1,UZ hi,UO];rfl
   ·subst h3;rw[Wp]) (λσ g acc _=>by simp) (ds.length+1) 0 (List.replicate (no+1) none++σ) g [] (by omega) (by omega) ⟨by simp,.refl,none,by simp[RO]⟩
 refine⟨g',?_,h3⟩;rw[h1,h2,T8]
def Yf(d:D)(n:Int):Bool:=match d with
 |.int i=>decide (0<=i/\i<n)|_=>false
def KF:D->Bool
 |.int _=>true|.bl _=>true|_=>false
theorem Hz(g:G)(h:KF d=true):∃t,X8 g d=some t:=by
 cases d with
 |int n=>exact⟨_,rfl⟩|bl n=>exact⟨_,rfl⟩|_=>cases h
theorem JE(d:D)(n:Int)(g:G)(t:Ty)(_:X8 g d=some t)(hp:KF d=true:=by rfl):QV [d,.int n] g=.ok (.bl (Yf d n)) g:=by
 cases d with
 |int i=>
  have c:Kk Ar FZ (mI 0) (Qa 0) (Qa 1) [some (.int i),some (.int n)] g=.ok (.bl (decide (0<=i/\i<n))) g:=by
   unfold Kk;rw[show(mI 0) [some (D.int i),some (D.int n)] g=.ok (.int 0) g from rfl,Res.bind_ok,show Qa 0 [some (D.int i),some (D.int n)] g=.ok (.int i) g from rfl,Res.bind_ok,show Ar (.int 0) (.int i) g=.ok (.bl (decide (0<=i))) g from rfl,Res.bind_ok];by_cases h0:0<=i
   ·rw[Us h0];show Res.ok (D.bl (decide (i<n))) g=_;by_cases h1:i<n
    ·rw[Us h1,Us ⟨h0,h1⟩]
    ·rw[Uv h1,Uv λz=>h1 z.2]
   ·rw[Uv h0,Uv λz=>h0 z.1]
  have a1:Qg Jq (Qb (Qa 0) Qd) [some (.int i),some (.int n)] g=.ok (.bl true) g:=rfl;show(match Qz (YN (Qg Jq (Qb (Qa 0) Qd)) (Kk Ar FZ (mI 0) (Qa 0) (Qa 1))) [some (.int i),some (.int n)] g with
   |.nx _ g'=>Res.ok D.non g'|.rt d g'=>.ok d g'|_=>.stuck)=_
  unfold Qz YN;rw[a1,Res.bind_ok];dsimp only;rw[Uf rfl,c];rfl
 |bl b=>rfl|_=>cases hp
theorem rM:Str.ofString "l"=⟨#[108]⟩:=by decide +kernel
theorem bM:Str.ofString "r"=⟨#[114]⟩:=by decide +kernel
def NU:D->Bool
 |.str s=>s==⟨#[108]⟩||s==⟨#[114]⟩|_=>false
def E4(d:D)(states signs:Int):Bool:=match d with
 |.non=>true|.tup [a,b,c]=>Yf a signs&&NU b&&Yf c states|_=>false
def thingD(_:G)(d:D):Prop:=d=.non\/∃(i j:Int)(w:Str),d=.tup [.int i,.str w,.int j]
theorem D0(s:Str)(g:G):eM false (.str s) (.tup [.str ⟨#[108]⟩,.str ⟨#[114]⟩]) g=.ok (.bl (NU (.str s))) g:=by show Res.ok (D.bl ((⟨#[108]⟩==s)||((⟨#[114]⟩==s)||false))) g=.ok (.bl ((s==⟨#[108]⟩)||(s==⟨#[114]⟩))) g;rw[show((⟨#[108]⟩:Str)==s)=(s==⟨#[108]⟩) from BEq.comm,show((⟨#[114]⟩:Str)==s)=(s==⟨#[114]⟩) from BEq.comm,pL]
theorem HA(d:D)(states signs:Int)(g:G)(h:thingD g d):YU [d,.int states,.int signs] g=.ok (.bl (E4 d states signs)) g:=by
 rcases h with rfl|⟨i,j,w,rfl⟩
 ·rfl
 ·have a1:Qg QV (Qb (Qc QG (Qa 0) (mI 0)) (Qb (Qa 2) Qd)) [some (.tup [.int i,.str w,.int j]),some (.int states),some (.int signs)] g=.ok (.bl (Yf (.int i) signs)) g:=JE (.int i) signs g .int rfl;have a3:Qg QV (Qb (Qc QG (Qa 0) (mI 2)) (Qb (Qa 1) Qd)) [some (.tup [.int i,.str w,.int j]),some (.int states),some (.int signs)] g=.ok (.bl (Yf (.int j) states)) g:=JE (.int j) states g .int rfl;have a2:Qc (eM false) (Qc QG (Qa 0) (mI 1)) (QQ Yy (Qb (Qp (.str "l")) (Qb (Qp (.str "r")) Qd))) [some (.tup [.int i,.str w,.int j]),some (.int states),some (.int signs)] g=.ok (.bl (NU (.str w))) g:=by rw[rM,bM];exact D0 w g
  show(match (Qz (YN (Qg QV (Qb (Qc QG (Qa 0) (mI 0)) (Qb (Qa 2) Qd))) (YN (Qc (eM false) (Qc QG (Qa 0) (mI 1)) (QQ Yy (Qb (Qp (.str "l")) (Qb (Qp (.str "r")) Qd)))) (Qg QV (Qb (Qc QG (Qa 0) (mI 2)) (Qb (Qa 1) Qd)))))) [some (.tup [.int i,.str w,.int j]),some (.int states),some (.int signs)] g with
   |.nx _ g'=>Res.ok D.non g'|.rt d g'=>.ok d g'|_=>.stuck)=.ok (.bl (Yf (.int i) signs&&NU (.str w)&&Yf (.int j) states)) g
  unfold Qz YN;rw[a1,Res.bind_ok];dsimp only;cases Yf (.int i) signs
  ·rfl
  ·rw[Uf rfl,a2,Res.bind_ok];dsimp only;cases NU (.str w)
   ·rfl
   ·rw[Uf rfl,a3];rfl
theorem thingD.mono(_:Keeps [] g g1)(h:thingD g d):thingD g1 d:=h
theorem V7(f:α->Bool):∀ts:List α,EV (ts.map λd=>D.bl (f d))=some (ts.all f)
 |[]=>rfl|t::ts=>by simp[EV,V7 f ts]
def YK(n m:Nat)(r:List D):Bool:=r.length==m&&r.all λd=>E4 d n m
def JF(rows:List (List D)):Bool:=match rows with
 |[]=>false|r::_=>r.length != 0&&rows.all (YK rows.length r.length)
theorem Lh(σ:S3)(g:G):Zy σ g=.stuck:=rfl
theorem eq_int(i j:Int)(g:G):VD (.int i) (.int j) g=.ok (.bl (i==j)) g:=rfl
theorem ne_int(i j:Int)(g:G):Ik (.int i) (.int j) g=.ok (.bl (!(i==j))) g:=rfl
theorem D2(n m:Nat)(ts:List D)(x:D)(g:G)(hz:ts.length<=SZ)(h:∀d∈ts,thingD g d):
  ∃g',Keeps [] g g'/\Qi XE (Zq (QL (Qa 3)) 1 [1,2] (Ql 0) Zz (Qg YU (Qb (Qa 0) (Qb (Qa 1) (Qb (Qa 2) Qd))))) [some x,some (.int n),some (.int m),some (.tup ts)] g=.ok (.bl (ts.all λd=>E4 d n m)) g':=by
 obtain⟨g1,h1,k1⟩:=Lg (ds:=ts) (e:=Qg YU (Qb (Qa 0) (Qb (Qa 1) (Qb (Qa 2) Qd)))) (no:=0) (σ:=[some (.int n),some (.int m)]) (g:=g) (f:=λd=>.bl (E4 d n m)) hz
  (λd hd g1 k=>⟨g1,by simp[Qg,Qb,Qd,Qa,Res.bind,HA d n m g1 ((h d hd).mono k)],.refl⟩)
 refine⟨g1++[.lst (ts.map λd=>.bl (E4 d n m))],k1.trans (.push _),?_⟩;have h1:YB ⟨λ_ i=>some ts[i]?,ts.length⟩ (Ql 0) Zz (Qg YU (Qb (Qa 0) (Qb (Qa 1) (Qb (Qa 2) Qd)))) (ts.length+1) 0 [none,some (.int n),some (.int m)] g []=.ok (ts.map λd=>.bl (E4 d n m)) g1:=h1;simp[Qi,Zq,QL,Qa,Res.bind,JO,hz,X7,h1,XE,V7]
theorem Sg(n m:Nat)(ts:List D)(x:D)(g:G)(hz:ts.length<=SZ)(h:∀d∈ts,thingD g d):
  ∃g',Keeps [] g g'/\Zr [some x,some (.int n),some (.int m),some (.tup ts)] g=if YK n m ts=true then .nx [some x,some (.int n),some (.int m),some (.tup ts)] g' else .stuck:=by
 by_cases hl:ts.length=m
 ·obtain⟨g2,k2,e2⟩:=D2 n m ts x g hz h;refine⟨g2,k2,?_⟩;have hl':((ts.length:Int)==(m:Int))=true:=by simp[hl]
  have gr:YK n m ts=ts.all λd=>E4 d n m:=by simp[YK,hl]
  rw[gr];simp only[Zr,Qm,ZT,Qf,Qc,Qi,Qa,Res.bind,Wz,WA,Zj,ne_int,hl',RK,UU,Rn,Qv,QR];simp only[Qi,Res.bind]at e2;rw[e2];cases (ts.all λd=>E4 d n m)<;>simp[Zy]
 ·refine⟨g,.refl,?_⟩;have hl':((ts.length:Int)==(m:Int))=false:=by simp;omega
  have gr:YK n m ts=false:=by
   have:(ts.length==m)=false:=by simp[hl]
   simp only[YK,this,Bool.false_and]
  rw[gr];simp only[Zr,Qm,ZT,Qf,Qc,Qi,Qa,Res.bind,Wz,WA,Zj,ne_int,hl',Bz,W6,Lh,UU,Rn]
theorem E5(rows:List (List D))(g:G)(hz:∀r∈rows,r.length<=SZ)(h:∀r∈rows,∀d∈r,thingD g d):
  ∃g',Keeps [] g g'/\Z8 [.tup (rows.map .tup)] g=if JF rows=true then .ok .non g' else .stuck:=by
 cases rows with
 |nil=>exact⟨g,.refl,by simp[Z8,QI,Z7,Qm,ZT,Qf,Qc,Qi,Qa,Qp,Res.bind,Zj,eq_int,Lh,JF]⟩|cons r rest=>
  have e0:¬((rest.length:Int)+1=0):=by omega
  have e1:(0:Int)<(rest.length:Int)+1:=by omega
  by_cases hr:r.length=0
  ·refine⟨g,.refl,?_⟩;simp[Z8,QI,Z7,Qm,ZT,Qf,Qc,Qi,Qa,Qp,Res.bind,Zj,eq_int,Lh,JF,hr,e0,e1,Qv,QF,Ql,QG,EU,Nk]
  ·have hr':¬((r.length:Int)=0):=by omega
   have hrn:¬r=[]:=λz=>hr (by rw[z];rfl);have hd0:JF (r::rest)=(r::rest).all (YK (r::rest).length r.length):=by simp[JF,hr]
   have loop:=Gn (t:=Ql 3) (ds:=(r::rest).map D.tup) (σ:=[some (.tup ((r::rest).map .tup)),some (.int (r::rest).length),some (.int r.length),none]) (g:=g) (body:=Zr)
    (λi σ g1=>Keeps [] g g1/\(∃u,σ=[some (.tup ((r::rest).map .tup)),some (.int (r::rest).length),some (.int r.length),u])/\∀x∈(r::rest).take i,YK (r::rest).length r.length x=true)
    (λo=>o=.stuck/\∃x∈r::rest,YK (r::rest).length r.length x=false) ⟨.refl,⟨none,rfl⟩,by simp⟩ (λi d σ g1 hd ⟨k,⟨u,hσ⟩,hg⟩=>by
     rw[UL]at hd;cases hx:(r::rest)[i]? with
     |none=>rw[hx]at hd;cases hd|some ts=>
      rw[hx]at hd;cases hd;have hm:ts∈r::rest:=TN hx;subst hσ;refine⟨_,rfl,?_⟩;obtain⟨g2,k2,e2⟩:=Sg (r::rest).length r.length ts (.tup ((r::rest).map .tup)) g1 (hz ts hm) λd hd=>(h ts hm d hd).mono k;simp only[List.set];rw[e2];cases ha:YK (r::rest).length r.length ts with
      |true=>
       left;refine⟨_,g2,by rw[Uf rfl],k.trans k2,⟨_,rfl⟩,λx hx'=>?_⟩;rw[List.take_succ,hx]at hx';rcases Ut.mp hx' with z|z
       ·exact hg x z
       ·have:x=ts:=by simpa using z
        rw[this];exact ha
      |false =>right;rw[Uh Uj];exact⟨trivial,rfl,ts,hm,ha⟩)
   have fin:Z7 [some (.tup ((r::rest).map .tup)),none,none,none] g=YS ⟨λ_ i=>some ((r::rest).map D.tup)[i]?,((r::rest).map D.tup).length⟩ (Ql 3) Zr (((r::rest).map D.tup).length+1) 0 [some (.tup ((r::rest).map .tup)),some (.int (r::rest).length),some (.int r.length),none] g:=by simp[Z7,Qm,ZT,Qf,Qc,Qi,Qa,Qp,Res.bind,Zj,eq_int,e0,Qv,QF,Ql,QG,EU,Nk,e1,hr',hrn,YT,QL,JO]
   have ap:Z8 [.tup ((r::rest).map .tup)] g=match Z7 [some (.tup ((r::rest).map .tup)),none,none,none] g with
    |.nx _ g'=>.ok .non g'|.rt d g'=>.ok d g'|_=>.stuck:=rfl
   rw[ap,fin];rcases loop with⟨σ',g',h1,k1,_,h2⟩|⟨_,h1,x,hx,hg⟩
   ·refine⟨g',k1,?_⟩;have:JF (r::rest)=true:=by rw[hd0,US];intro x hx;exact h2 x (by rw[Ue,T8];exact hx)
    rw[Uf this,h1]
   ·refine⟨g,.refl,?_⟩;have:¬JF (r::rest)=true:=by rw[hd0,US];intro z;rw[z x hx]at hg;cases hg
    rw[Uh this,h1]
theorem Keeps.seq(k:Keeps [] g g1)(h:QK g d=some p):QK g1 d=some p:=by
 cases d with
 |ref n=>
  unfold QK at h ⊢;dsimp only at h ⊢;cases hg:g[n]? with
  |none=>rw[hg]at h;cases h|some o=>rw[hg]at h;rw[k.at' n o (by simp) hg];exact h
 |_=>exact h
theorem hZ(h:QK g d=some (b,ds)):∃src,JO d g=.ok src g/\src.top=ds.length/\∀g1 i,QK g1 d=some (b,ds)->src.at' g1 i=some ds[i]?:=by
 cases d with
 |tup es=>cases h;exact⟨_,rfl,rfl,λ_ _ _=>rfl⟩|fl es=>cases h;exact⟨_,rfl,rfl,λ_ _ _=>rfl⟩|ref n=>
  unfold QK at h;dsimp only at h;cases hg:g[n]? with
  |none=>rw[hg]at h;cases h|some o=>
   rw[hg]at h;cases o with
   |lst es=>
    cases h;refine⟨_,by unfold JO;dsimp only;rw[hg],rfl,λg1 i h1=>?_⟩;unfold QK at h1;dsimp only at h1 ⊢;cases hg1:g1[n]? with
    |none=>rw[hg1]at h1;cases h1|some o1=>
     rw[hg1]at h1;cases o1 with
     |lst es1=>cases h1;rfl|_=>cases h1
   |_=>cases h
 |_=>cases h
theorem HC{src:Src}{ds:List D}{e:ME}{no:Nat}{σ:S3}{g:G}{f:D->D}(ht:src.top=ds.length)(hs:∀g1 i,Keeps [] g g1->src.at' g1 i=some ds[i]?)(he:∀d∈ds,∀g1,Keeps [] g g1->∃g2,e ((List.replicate (no+1) none++σ).set 0 (some d)) g1=.ok (f d) g2/\Keeps [] g1 g2):
  ∃g',YB src (Ql 0) Zz e (src.top+1) 0 (List.replicate (no+1) none++σ) g []=.ok (ds.map f) g'/\Keeps [] g g':=by
 obtain⟨xs,σ',g',h1,h2,h3,h4⟩:=Jm (src:=src) (t:=Ql 0) (c:=Zz) (e:=e) (n:=ds.length)
  (λi σ' g1 acc=>acc=(ds.take i).map f/\Keeps [] g g1/\∃u,σ'=(List.replicate (no+1) none++σ).set 0 u) (λi σ' g1 acc hi h=>by
   obtain⟨h1,h2,u,h3⟩:=h;obtain⟨g2,k1,k2⟩:=he ds[i] (Tk hi) g1 h2;refine⟨ds[i],_,g1,by rw[hs g1 i h2];simp[hi],rfl,.inl ⟨f ds[i],g2,rfl,?_,?_,h2.trans k2,some ds[i],?_⟩⟩
   ·subst h3;rw[Wp];exact k1
   ·rw[h1,UZ hi,UO];rfl
   ·subst h3;rw[Wp]) (λσ g1 acc h=>by rw[hs g1 _ h.2.1];simp) (src.top+1) 0 (List.replicate (no+1) none++σ) g [] (by omega) (by omega) ⟨by simp,.refl,none,by simp[RO]⟩
 refine⟨g',?_,h3⟩;rw[h1,h2,T8]
def rowsOf(g:G)(d:D)(rows:List (List D)):Prop:=∃b ds,QK g d=some (b,ds)/\ds.length=rows.length/\∀(i:Nat) x r,ds[i]?=some x->rows[i]?=some r->∃c,QK g x=some (c,r)
theorem rowsOf.mono(k:Keeps [] g g1)(h:rowsOf g d rows):rowsOf g1 d rows:=by obtain⟨b,ds,h1,h2,h3⟩:=h;exact⟨b,ds,k.seq h1,h2,λi x r hx hr=>let ⟨c,q⟩:=h3 i x r hx hr;⟨c,k.seq q⟩⟩
theorem NV(h:QK g d=some (b,ds)):YD d g=.ok (.tup ds) g:=by
 cases d with
 |tup es=>cases h;rfl|fl es=>cases h;rfl|ref n=>
  unfold QK at h;dsimp only at h;cases hg:g[n]? with
  |none=>rw[hg]at h;cases h|some o=>
   rw[hg]at h;cases o with
   |lst es=>cases h;simp[YD,hg]|_=>cases h
 |_=>cases h
def ZR(rows:List (List D)):GO:=.ins 11 [("table",.tup (rows.map .tup))]
theorem D3(m:Nat)(d:D)(rows:List (List D))(g:G)(hm:g[m]?=some (.ins 11 []))(hr:rowsOf g d rows)(hz:∀r∈rows,r.length<=SZ)(hl:rows.length<=SZ)(h:∀r∈rows,∀d∈r,thingD g d):
  ∃g',Keeps [] g g'/\ZX [.ref m,d] g=if JF rows=true then .ok .non (g'.set m (ZR rows)) else .stuck:=by
 obtain⟨b,ds,h1,h2,h3⟩:=hr;obtain⟨src,s1,s2,s3⟩:=hZ h1;have mp:∀x∈ds,∃c r,QK g x=some (c,r):=λx hx=>by obtain⟨i,hi,rfl⟩:=RN hx;obtain⟨c,q⟩:=h3 i ds[i] (rows[i]'(by omega)) (by simp[hi]) (by simp[show i<rows.length by omega]);exact⟨c,_,q⟩
 obtain⟨g1,c1,k1⟩:=HC (src:=src) (ds:=ds) (e:=Qi YD (Qa 0)) (no:=0) (σ:=[]) (g:=g) (f:=λx=>.tup (((QK g x).map (·.2)).getD [])) s2 (λg1 i k=>s3 g1 i (k.seq h1)) (λx hx g1 k=>by obtain⟨c,r,q⟩:=mp x hx;refine⟨g1,?_,.refl⟩;simp[Qi,Qa,Res.bind,NV (k.seq q),q]);have em:(ds.map λx=>D.tup (((QK g x).map (·.2)).getD []))=rows.map .tup:=by
  apply List.ext_getElem
  ·simp[h2]
  ·intro i hi hi';simp only[Ue]at hi hi';obtain⟨c,q⟩:=h3 i ds[i] rows[i] (by simp[hi]) (by simp[hi']);simp[q]
 rw[em]at c1;have c1:YB src (Ql 0) Zz (Qi YD (Qa 0)) (src.top+1) 0 [none] g []=.ok (rows.map .tup) g1:=c1;have k2:Keeps [] g (g1++[.lst (rows.map .tup)]):=k1.trans (.push _);obtain⟨g3,k3,c3⟩:=E5 rows (g1++[.lst (rows.map .tup)]) hz λr hr d hd=>(h r hr d hd).mono k2;refine⟨g3,k2.trans k3,?_⟩;have hz2:src.top<=SZ:=by omega
 have hm3:=(k2.trans k3).at' m _ (by simp) hm;simp[ZX,QI,XN,Qm,QF,Qi,Zq,QL,Qa,Res.bind,s1,hz2,X7,c1,YD,Ql,Q6,Qg,Qb,Qd,c3];by_cases hg:JF rows=true
 ·simp[hg,Qw,Qa,hm3,BQ,ZR]
 ·simp[hg]
theorem D4(d:D)(rows:List (List D))(g:G)(hr:rowsOf g d rows)(hz:∀r∈rows,r.length<=SZ)(hl:rows.length<=SZ)(h:∀r∈rows,∀d∈r,thingD g d)(a:MA)(σ:S3)(g0:G)(ha:a σ g0=.ok [d] g):
  ∃g',Keeps [] g g'/\YC 11 ZX a σ g0=(if JF rows=true then .ok (.ref g.length) g' else .stuck)/\(JF rows=true->g'[g.length]?=some (ZR rows)):=by
 have kp:Keeps [] g (g++[.ins 11 []]):=.push _;obtain⟨g',k',e'⟩:=D3 g.length d rows (g++[.ins 11 []]) (QM _) (hr.mono kp) hz hl λr hr d hd=>(h r hr d hd).mono kp;by_cases hg:JF rows=true
 ·rw[Uf hg]at e';refine⟨g'.set g.length (ZR rows),?_,?_,λ_=>?_⟩
  ·refine⟨by rw[UQ];exact Uk kp.len k'.len,λn o _ e=>?_⟩;have hn:n<g.length:=QB e;rw[Ud (by omega)];exact(kp.trans k').at' n o (by simp) e
  ·simp[YC,ha,Res.bind,e',hg]
  ·rw[UT];have:=k'.len;simp at this;omega
 ·rw[Uh hg]at e';exact⟨g',kp.trans k',by simp[YC,ha,Res.bind,e',hg],λz=>absurd z hg⟩
theorem Yo(h:a σ g=.nx σ' g'):Qm a b σ g=b σ' g':=by unfold Qm;rw[h]
theorem ZC(h:a σ g=.rt d g'):Qm a b σ g=.rt d g':=by unfold Qm;rw[h]
theorem Qt(h:a σ g=.ok d g'):QF (Ql i) a σ g=.nx (σ.set i (some d)) g':=by unfold QF;rw[h];rfl
theorem Ex(h:c σ g=.ok true g'):ZT c a b σ g=a σ g':=by unfold ZT;rw[h];rfl
theorem Fy(h:c σ g=.ok false g'):ZT c a b σ g=b σ g':=by unfold ZT;rw[h];rfl
theorem Qo(h:a σ g=.ok ds g'):Qg f a σ g=f ds g':=by unfold Qg;rw[h];rfl
theorem Zc(h:a σ g=.ok d g'):Q6 a σ g=.nx σ g':=by unfold Q6;rw[h]
theorem QP(h:a σ g=.ok d g'):Qz a σ g=.rt d g':=by unfold Qz;rw[h]
theorem Qq(hl:ds.length=k)(h:b (ds.map some++List.replicate n none) g=.rt d g'):QI k n b ds g=.ok d g':=by unfold QI;rw[Uf hl,h]
theorem iA(ns:List Int)(i:Int)(h:0<ns.length):∃x,EU (ns.map D.int) (i%ns.length)=some (.int x):=by
 have h1:0<=i % (ns.length:Int):=RF _ (by omega);have h2:i % (ns.length:Int)<ns.length:=T5 _ (by omega);have h3:(i % (ns.length:Int)).toNat<ns.length:=by omega
 refine⟨ns[(i % (ns.length:Int)).toNat],?_⟩;unfold EU Nk;rw[Ue,Uf h1,Uf h2];simp[h3]
theorem rO(h:g[a]?=some (.lst [d])):QG (.ref a) (.int 0) g=.ok d g:=by unfold QG;dsimp only;rw[h];rfl
theorem rP(h:EU ds i=some d):QG (.fl ds) (.int i) g=.ok d g:=by unfold QG;dsimp only;rw[h]
theorem NW(c:Int)(x:D)(a:Nat)(k:Int)(g:G)(ga:g[a]?=some (.lst [.int k]))(hk:0<=k)(hk2:k<1000000001):∃m,0<=m/\m<1999999973/\(Qm (QF (Ql 3) (Qc Yz (Qc XD (Qc ZE (Qc ZE (Qc Yz (Qa 2) (mI 2147483647)) (Qc XD (Qc XD (Qc QG (Qa 1) (mI 0)) (Qc QG (Qa 1) (mI 0))) (mI 7919))) (mI 11)) (mI 48271)) (mI 2147483647)))
      (Qz (Qc Yz (Qc XD (Qa 3) (Qa 3)) (mI 1999999973)))) [some x,some (.ref a),some (.int c),none] g=.rt (.int m) g:=by
  have c1:cM k:=⟨by omega,by omega⟩;have c2:cM 7919:=⟨by decide,by decide⟩;have c3:cM 48271:=⟨by decide,by decide⟩;have hr:=T5 ((c%2147483647+k*k*7919+11)*48271) (show(0:Int)<2147483647 by decide);have hr0:=RF ((c%2147483647+k*k*7919+11)*48271) (show(2147483647:Int)≠0 by decide);have c4:cM (((c%2147483647+k*k*7919+11)*48271) % 2147483647):=⟨by omega,by omega⟩;refine⟨((c%2147483647+k*k*7919+11)*48271) % 2147483647*(((c%2147483647+k*k*7919+11)*48271) % 2147483647) % 1999999973,RF _ (by decide),T5 _ (by decide),?_⟩;have e1:(Qc Yz (Qc XD (Qc ZE (Qc ZE (Qc Yz (Qa 2) (mI 2147483647)) (Qc XD (Qc XD (Qc QG (Qa 1) (mI 0)) (Qc QG (Qa 1) (mI 0))) (mI 7919))) (mI 11)) (mI 48271)) (mI 2147483647)) [some x,some (.ref a),some (.int c),none] g=.ok (.int (((c%2147483647+k*k*7919+11)*48271) % 2147483647)) g:=by simp[Qc,Qa,Qp,Res.bind,rO ga,Yz,XD,ZE,c1,c2,c3]
  rw[Yo (Qt e1)];generalize ((c%2147483647+k*k*7919+11)*48271) % 2147483647=r at c4 ⊢;refine QP ?_;simp[Qc,Qa,Qp,Res.bind,Yz,XD,c4]
theorem Mj(ns:List Int)(a:Nat)(k:Int)(g:G)(hg:g[a]?=some (.lst [.int k]))(hk:0<=k)(hk2:k<1000000000):
  ∃m,0<=m/\m<1999999973/\XO [.fl (ns.map .int),.ref a] g=.ok (.int m) (g.set a (.lst [.int (k+1)])):=by
 have s1:Ec (Qa 1) (mI 0) (Qc ZE (Qc QG (Qa 1) (mI 0)) (mI 1)) [some (.fl (ns.map .int)),some (.ref a),none,none] g=.nx [some (.fl (ns.map .int)),some (.ref a),none,none] (g.set a (.lst [.int (k+1)])):=by simp[Ec,Qc,Qa,Qp,Res.bind,rO hg,ZE,hg,Nk]
 have ga:(g.set a (.lst [.int (k+1)]))[a]?=some (.lst [.int (k+1)]):=Zb hg;generalize g.set a (.lst [.int (k+1)])=g1 at s1 ga ⊢;have s2:QF (Ql 2) (mI 0) [some (.fl (ns.map .int)),some (.ref a),none,none] g1=.nx [some (.fl (ns.map .int)),some (.ref a),some (.int 0),none] g1:=rfl;have s3:∃c,ZT (Qf (Qc GJ (Qi Zj (Qa 0)) (mI 0))) (QF (Ql 2) (Qc QG (Qa 0) (Qc Yz (Qc QG (Qa 1) (mI 0)) (Qi Zj (Qa 0))))) Qv [some (.fl (ns.map .int)),some (.ref a),some (.int 0),none] g1=.nx [some (.fl (ns.map .int)),some (.ref a),some (.int c),none] g1:=by
  by_cases hl:0<ns.length
  ·obtain⟨x,hx⟩:=iA ns (k+1) hl;have hl':(0:Int)<(ns.length:Int):=by omega
   refine⟨x,?_⟩;rw[Ex (g':=g1) (by simp[Qf,Qc,Qi,Qa,Qp,Res.bind,Zj,GJ,Nl,hl])];refine Qt ?_;simp only[Qc,Qi,Qa,Qp,Res.bind,Wz,WA,rO ga,Zj,Yz,Ue,hl',W6,rP hx]
  ·cases ns with
   |nil=>exact⟨0,rfl⟩|cons x r=>simp at hl
 obtain⟨c,s3⟩:=s3;obtain⟨m,m1,m2,m3⟩:=NW c (.fl (ns.map .int)) a (k+1) g1 ga (by omega) (by omega);refine⟨m,m1,m2,Qq rfl ?_⟩;show Ew [some (.fl (ns.map .int)),some (.ref a),none,none] g=_;unfold Ew;rw[Yo s1,Yo s2,Yo s3,m3]
def entOk(d:D)(n m:Nat):Prop:=d=.non\/∃(i j:Int)(w:Str),d=.tup [.int i,.str w,.int j]/\0<=i/\i<m/\0<=j/\j<n/\(w=⟨#[108]⟩\/w=⟨#[114]⟩)
theorem entOk.ent(h:entOk d n m):E4 d n m=true:=by
 rcases h with rfl|⟨i,j,w,rfl,h1,h2,h3,h4,h5⟩
 ·rfl
 ·rcases h5 with rfl|rfl<;>simp[E4,Yf,NU,h1,h2,h3,h4]
theorem entOk.thing(h:entOk d n m):thingD g d:=by
 rcases h with h|⟨i,j,w,h,_⟩
 ·exact .inl h
 ·exact .inr ⟨i,j,w,h⟩
theorem rQ:Str.ofString "lr"=⟨#[108,114]⟩:=by decide +kernel
theorem nP(i:Int)(g:G):∃w,QG (.str "lr") (.int (i%2)) g=.ok (.str w) g/\(w=⟨#[108]⟩\/w=⟨#[114]⟩):=by
 rw[rQ];rcases(by omega:i%2=0\/i%2=1) with e|e
 ·rw[e];exact⟨_,rfl,.inl rfl⟩
 ·rw[e];exact⟨_,rfl,.inr rfl⟩
theorem KG(hi:σ[i]?=some (some (.ref n)))(hj:σ[j]?=some (some y))(h:g[n]?=some (.lst ds))(hz:ds.length<SZ):
  Q6 (Zp (Qa i) (Qa j)) σ g=.nx σ (g.set n (.lst (ds++[y]))):=by
 refine Zc (d:=.non) ?_;simp[Zp,Qa,hi,hj,Res.bind,h,hz]
theorem NX(ns:List Int)(a l t:Nat)(k:Int)(n m:Nat)(x5 x7 x8 x9:Option D)(row:List D)(g:G)(hn:0<n)(hm:0<m)(ga:g[a]?=some (.lst [.int k]))(gl:g[l]?=some (.lst row))(hal:a≠l)(hk:0<=k)(hk2:k<1000000000)(hz:row.length<SZ):
  ∃d x8',entOk d n m/\ZI [some (.fl (ns.map .int)),some (.ref a),some (.int n),some (.int m),some (.ref t),x5,some (.ref l),x7,x8,x9] g=.nx [some (.fl (ns.map .int)),some (.ref a),some (.int n),some (.int m),some (.ref t),x5,some (.ref l),x7,x8',some d] ((g.set a (.lst [.int (k+1)])).set l (.lst (row++[d]))):=by
 obtain⟨mm,m1,m2,e⟩:=Mj ns a k g ga hk hk2;have gl1:(g.set a (.lst [.int (k+1)]))[l]?=some (.lst row):=by rw[Ud hal];exact gl
 generalize g.set a (.lst [.int (k+1)])=g1 at e gl1 ⊢;obtain⟨w,hw,ww⟩:=nP (mm/100) g1;have hm':(0:Int)<m:=by omega
 have hn':(0:Int)<n:=by omega
 have s1:QF (Ql 8) (Qg XO (Qb (Qa 0) (Qb (Qa 1) Qd))) [some (.fl (ns.map .int)),some (.ref a),some (.int n),some (.int m),some (.ref t),x5,some (.ref l),x7,x8,x9] g=.nx [some (.fl (ns.map .int)),some (.ref a),some (.int n),some (.int m),some (.ref t),x5,some (.ref l),x7,some (.int mm),x9] g1:=Qt (by rw[Qo (ds:=[.fl (ns.map .int),.ref a]) (g':=g) rfl];exact e)
 have v2:(QQ Yy (Qb (Qc Yz (Qc JA (Qa 8) (mI 9)) (Qa 3)) (Qb (Qc QG (Qp (.str "lr")) (Qc Yz (Qc JA (Qa 8) (mI 100)) (mI 2))) (Qb (Qc Yz (Qc JA (Qa 8) (mI 300)) (Qa 2)) Qd)))) [some (.fl (ns.map .int)),some (.ref a),some (.int n),some (.int m),some (.ref t),x5,some (.ref l),x7,some (.int mm),x9] g1=.ok (.tup [.int (mm/9%m),.str w,.int (mm/300%n)]) g1:=by simp[QQ,Qb,Qd,Qc,Qa,Qp,Res.bind,JA,Yz,hm',hn',hw,Yy,SZ,hm,hn]
 have s2:QF (Ql 9) (QQ Yy (Qb (Qc Yz (Qc JA (Qa 8) (mI 9)) (Qa 3)) (Qb (Qc QG (Qp (.str "lr")) (Qc Yz (Qc JA (Qa 8) (mI 100)) (mI 2))) (Qb (Qc Yz (Qc JA (Qa 8) (mI 300)) (Qa 2)) Qd)))) [some (.fl (ns.map .int)),some (.ref a),some (.int n),some (.int m),some (.ref t),x5,some (.ref l),x7,some (.int mm),x9] g1=.nx [some (.fl (ns.map .int)),some (.ref a),some (.int n),some (.int m),some (.ref t),x5,some (.ref l),x7,some (.int mm),some (.tup [.int (mm/9%m),.str w,.int (mm/300%n)])] g1:=Qt v2;have t3:Qf (Qc VD (Qc Yz (Qa 8) (mI 9)) (mI 0)) [some (.fl (ns.map .int)),some (.ref a),some (.int n),some (.int m),some (.ref t),x5,some (.ref l),x7,some (.int mm),some (.tup [.int (mm/9%m),.str w,.int (mm/300%n)])] g1=.ok (mm%9==0) g1:=by simp[Qf,Qc,Qa,Qp,Res.bind,Yz,eq_int]
 unfold ZI;by_cases h9:mm%9=0
 ·refine⟨.non,some (.int mm),.inl rfl,?_⟩;rw[Yo s1,Yo s2,Yo (σ':=[some (.fl (ns.map .int)),some (.ref a),some (.int n),some (.int m),some (.ref t),x5,some (.ref l),x7,some (.int mm),some .non]) (g':=g1) ?_]
  ·exact KG rfl rfl gl1 hz
  ·rw[Ex (g':=g1) (t3.trans (by simp[h9]))];rfl
 ·refine⟨.tup [.int (mm/9%m),.str w,.int (mm/300%n)],some (.int mm),.inr ⟨_,_,w,rfl,RF _ (by omega),T5 _ hm',RF _ (by omega),T5 _ hn',ww⟩,?_⟩;rw[Yo s1,Yo s2,Yo (σ':=[some (.fl (ns.map .int)),some (.ref a),some (.int n),some (.int m),some (.ref t),x5,some (.ref l),x7,some (.int mm),some (.tup [.int (mm/9%m),.str w,.int (mm/300%n)])]) (g':=g1) ?_]
  ·exact KG rfl rfl gl1 hz
  ·rw[Fy (g':=g1) (t3.trans (by simp[h9]))];rfl
theorem Vk(h:n<=1000):n<SZ:=Nat.lt_of_le_of_lt h (by decide)
theorem KH{n:Nat}(h:n<=1000):On (n:Int):=by
 have:(n:Int)<=1000:=by exact_mod_cast h
 constructor<;>omega
theorem Jn{a:ME}{n:Nat}{σ:S3}{g g':G}(h:a σ g=.ok (.int n) g')(hr:On (n:Int)):Zh a σ g=.ok (Zs 0 n) g':=by unfold Zh;rw[h,Res.bind_ok];dsimp only;rw[Uf hr,TH]
theorem JT(h:it σ g=.ok src g'):YT it t body σ g=YS src t body (src.top+1) 0 σ g':=by unfold YT;rw[h]
theorem Sh(ns:List Int)(a l t:Nat)(k:Int)(n m:Nat)(x5 x7 x8 x9:Option D)(g:G)(hn:0<n)(hm:0<m)(hm8:m<=8)(ga:g[a]?=some (.lst [.int k]))(gl:g[l]?=some (.lst []))(hal:a≠l)(hk:0<=k)(hk2:k+m<1000000000):
  ∃row y7 y8 y9 g',YT (Zh (Qa 3)) (Ql 7) ZI [some (.fl (ns.map .int)),some (.ref a),some (.int n),some (.int m),some (.ref t),x5,some (.ref l),x7,x8,x9] g=.nx [some (.fl (ns.map .int)),some (.ref a),some (.int n),some (.int m),some (.ref t),x5,some (.ref l),y7,y8,y9] g'/\row.length=m/\(∀d∈row,entOk d n m)/\Keeps [a,l] g g'/\g'[a]?=some (.lst [.int (k+m)])/\g'[l]?=some (.lst row):=by
 have hr:On (m:Int):=KH (by omega);have hf:YT (Zh (Qa 3)) (Ql 7) ZI [some (.fl (ns.map .int)),some (.ref a),some (.int n),some (.int m),some (.ref t),x5,some (.ref l),x7,x8,x9] g=YS (Zs 0 m) (Ql 7) ZI (m+1) 0 [some (.fl (ns.map .int)),some (.ref a),some (.int n),some (.int m),some (.ref t),x5,some (.ref l),x7,x8,x9] g:=JT (Jn rfl hr);rw[hf];obtain⟨σ',g',e,row,y7,y8,y9,h1,h2,h3,h4,h5,h6⟩:=J4 (t:=Ql 7) (body:=ZI) (lo:=0) (n:=m) (σ:=[some (.fl (ns.map .int)),some (.ref a),some (.int n),some (.int m),some (.ref t),x5,some (.ref l),x7,x8,x9]) (g:=g)
  (λi σ g1=>∃row y7 y8 y9,σ=[some (.fl (ns.map .int)),some (.ref a),some (.int n),some (.int m),some (.ref t),x5,some (.ref l),y7,y8,y9]/\row.length=i/\(∀d∈row,entOk d n m)/\Keeps [a,l] g g1/\g1[a]?=some (.lst [.int (k+i)])/\g1[l]?=some (.lst row))
  ⟨[],x7,x8,x9,rfl,rfl,by simp,.refl,by simpa using ga,gl⟩ (λi σ g1 hi hI=>by
   obtain⟨row,y7,y8,y9,rfl,h2,h3,h4,h5,h6⟩:=hI;obtain⟨d,x8',hd,e⟩:=NX ns a l t (k+i) n m x5 (some (.int (0+i))) y8 y9 row g1 hn hm h5 h6 hal (by omega) (by omega) (Vk (by omega));refine⟨_,_,_,rfl,e,row++[d],_,x8',_,rfl,by simp[h2],?_,?_,?_,?_⟩
   ·intro x hx;rcases Ut.mp hx with z|z
    ·exact h3 x z
    ·rw[Ui.mp z];exact hd
   ·exact h4.trans (((Keeps.set a _).mono (by simp)).trans ((Keeps.set l _).mono (by simp)))
   ·rw[Ud (Ne.symm hal),Zb h5];simp;omega
   ·refine Zb (o:=.lst row) ?_;rw[Ud hal];exact h6)
 exact⟨row,y7,y8,y9,g',by rw[e,h1],h2,h3,h4,h5,h6⟩
theorem tM{a b c:Nat}(h1:a<b)(h2:b<c):a≠c:=by omega
theorem tN{k x:Int}(h1:0<=k)(h2:0<=x):0<=k+x:=by omega
theorem tO{k x:Int}{m:Nat}(h1:k<900000000)(h2:x<=96)(h3:m<=8):k+x+m<1000000000:=by omega
theorem tP{a b c:Nat}{ds:List D}(h2:ds.length=a)(hi:a<b)(h3:b<=12):ds.length<=1000:=by omega
def tabOf(N:Nat)(g:G)(t:Nat)(rows:List (List D)):Prop:=N<=t/\∃ds,g[t]?=some (.lst ds)/\ds.length=rows.length/\∀(i:Nat) x r,ds[i]?=some x->rows[i]?=some r->∃n,x=.ref n/\N<=n/\n≠t/\g[n]?=some (.lst r)
theorem tabOf.rows{N:Nat}{g:G}{t:Nat}{rows:List (List D)}(h:tabOf N g t rows):rowsOf g (.ref t) rows:=by obtain⟨_,ds,h1,h2,h3⟩:=h;refine⟨true,ds,by simp[QK,h1],h2,λi x r hx hr=>?_⟩;obtain⟨n,rfl,_,_,h4⟩:=h3 i x r hx hr;exact⟨true,by simp[QK,h4]⟩
theorem tabOf.mono{N:Nat}{S:List Nat}{g g1:G}{t:Nat}{rows:List (List D)}(h:tabOf N g t rows)(k:Keeps S g g1)(hS:∀n∈S,n<N):tabOf N g1 t rows:=by obtain⟨h0,ds,h1,h2,h3⟩:=h;refine⟨h0,ds,k.at' t _ (λz=>by have:=hS t z;omega) h1,h2,λi x r hx hr=>?_⟩;obtain⟨n,h4,h5,h6,h7⟩:=h3 i x r hx hr;exact⟨n,h4,h5,h6,k.at' n _ (λz=>by have:=hS n z;omega) h7⟩
structure TI(g g1:G)(a:Nat)(k:Int)(n m i:Nat)(g2:G)(ds:List D)(rows:List (List D)):Prop where
 h2:ds.length=i
 h3:rows.length=i
 h4:Keeps [a,g.length] g1 g2
 h5:g2[a]?=some (.lst [.int (k+i*m)])
 h6:g2[g.length]?=some (.lst ds)
 h7:∀(i:Nat) x r,ds[i]?=some x->rows[i]?=some r->∃n,x=.ref n/\g.length<n/\g2[n]?=some (.lst r)
 h8:∀r∈rows,r.length=m
 h9:∀r∈rows,∀d∈r,entOk d n m
theorem Si(ns:List Int)(a:Nat)(k:Int)(n m:Nat)(g:G)(hn:0<n)(hm:0<m)(hn12:n<=12)(hm8:m<=8)(ga:g[a]?=some (.lst [.int k]))(hk:0<=k)(hk2:k<900000000):
  ∃rows g',KC [.fl (ns.map .int),.ref a,.int n,.int m] g=.ok (.ref g.length) g'/\Keeps [a] g g'/\g'[a]?=some (.lst [.int (k+n*m)])/\tabOf g.length g' g.length rows/\rows.length=n/\(∀r∈rows,r.length=m)/\∀r∈rows,∀d∈r,entOk d n m:=by
 have hr:On (n:Int):=KH (by omega);have hal:a<g.length:=QB ga;have hz0:([]:List D).length<=SZ:=by simp
 have s1:QF (Ql 4) (QQ ZD Qd) [some (.fl (ns.map .int)),some (.ref a),some (.int n),some (.int m),none,none,none,none,none,none] g=.nx [some (.fl (ns.map .int)),some (.ref a),some (.int n),some (.int m),some (.ref g.length),none,none,none,none,none] (g++[.lst []]):=Qt (by simp[QQ,Qd,Res.bind,ZD])
 have kp:Keeps [a] g (g++[.lst []]):=.push _;have ga1:(g++[.lst []])[a]?=some (.lst [.int k]):=(Keeps.push (S:=[]) (.lst [])).at' a _ (by simp) ga;have gt1:(g++[.lst []])[g.length]?=some (.lst []):=QM _;have hl1:g.length<(g++[GO.lst []]).length:=by simp
 generalize g++[.lst []]=g1 at s1 kp ga1 gt1 hl1;obtain⟨σ',g',e,ds,rows,y5,y6,y7,y8,y9,h1,I⟩:=J4 (t:=Ql 5) (body:=Jh) (lo:=0) (n:=n) (σ:=[some (.fl (ns.map .int)),some (.ref a),some (.int n),some (.int m),some (.ref g.length),none,none,none,none,none]) (g:=g1)
  (λi σ g2=>∃ds rows y5 y6 y7 y8 y9,σ=[some (.fl (ns.map .int)),some (.ref a),some (.int n),some (.int m),some (.ref g.length),y5,y6,y7,y8,y9]/\TI g g1 a k n m i g2 ds rows)
  ⟨[],[],none,none,none,none,none,rfl,rfl,rfl,.refl,by simpa using ga1,gt1,by simp,by simp,by simp⟩ (λi σ g2 hi hI=>by
   obtain⟨ds,rows,y5,y6,y7,y8,y9,rfl,I⟩:=hI;have h2:=I.h2;have h3:=I.h3;have hl2:g.length<g2.length:=QB I.h6;have q1:QF (Ql 6) (QQ ZD Qd) [some (.fl (ns.map .int)),some (.ref a),some (.int n),some (.int m),some (.ref g.length),some (.int (0+i)),y6,y7,y8,y9] g2=.nx [some (.fl (ns.map .int)),some (.ref a),some (.int n),some (.int m),some (.ref g.length),some (.int (0+i)),some (.ref g2.length),y7,y8,y9] (g2++[.lst []]):=Qt (by simp[QQ,Qd,Res.bind,ZD])
   have k3:Keeps [] g2 (g2++[.lst []]):=.push _;have gl3:(g2++[.lst []])[g2.length]?=some (.lst []):=QM _;generalize g2++[.lst []]=g3 at q1 k3 gl3;have him:(i:Int)*m<=96:=by
    have:i*m<=12*8:=Nat.mul_le_mul (by omega) hm8
    exact_mod_cast this
   have him0:(0:Int)<=(i:Int)*m:=Int.mul_nonneg (by omega) (by omega);obtain⟨row,z7,z8,z9,g4,e4,r1,r2,r3,r4,r5⟩:=Sh ns a g2.length g.length (k+i*m) n m (some (.int (0+i))) y7 y8 y9 g3 hn hm hm8 (k3.at' a _ (by simp) I.h5) gl3 (tM hal hl2) (tN hk him0) (tO hk2 him hm8);have gt4:g4[g.length]?=some (.lst ds):=r3.at' _ _ (by simp;omega) (k3.at' _ _ (by simp) I.h6);refine⟨_,[some (.fl (ns.map .int)),some (.ref a),some (.int n),some (.int m),some (.ref g.length),some (.int (0+i)),some (.ref g2.length),z7,z8,z9],g4.set g.length (.lst (ds++[.ref g2.length])),rfl,?_,ds++[.ref g2.length],rows++[row],_,_,z7,z8,z9,rfl,by simp[h2],by simp[h3],?_,?_,?_,?_,?_,?_⟩
   ·show Jh [some (.fl (ns.map .int)),some (.ref a),some (.int n),some (.int m),some (.ref g.length),some (.int (0+i)),y6,y7,y8,y9] g2=_;unfold Jh;rw[Yo q1,Yo e4];exact KG rfl rfl gt4 (Vk (tP (c:=0) h2 hi hn12))
   ·refine⟨by rw[UQ];exact Uk I.h4.len (Uk k3.len r3.len),λb o hb eb=>?_⟩;have hb':b≠a/\b≠g.length:=by simpa using hb
    have e2:=I.h4.at' b o hb eb;have:b<g2.length:=QB e2;rw[Ud (Ne.symm hb'.2)];exact r3.at' b o (by simp;omega) (k3.at' b o (by simp) e2)
   ·rw[Ud (by omega),r4];have:k+(i:Int)*m+m=k+((i+1:Nat):Int)*m:=by rw[RX,Int.add_mul];simp;omega
    rw[this]
   ·exact Zb gt4
   ·intro j x r hx hr';have key:∀b o,g.length<b->g2[b]?=some o->(g4.set g.length (.lst (ds++[.ref g2.length])))[b]?=some o:=λb o hb eb=>by have:b<g2.length:=QB eb;rw[Ud (by omega)];exact r3.at' b o (by simp;omega) (k3.at' b o (by simp) eb)
    by_cases hj:j<i
    ·rw[Ul (by omega)]at hx hr';obtain⟨b,hb1,hb2,hb3⟩:=I.h7 j x r hx hr';exact⟨b,hb1,hb2,key b _ hb2 hb3⟩
    ·have hji:j=i:=by have:=(Um.mp hx).1;simp at this;omega
     subst hji;rw[UD (by omega),h2]at hx;rw[UD (by omega),h3]at hr';simp at hx hr';subst hx hr';exact⟨g2.length,rfl,hl2,by rw[Ud (by omega)];exact r5⟩
   ·intro r hr';rcases Ut.mp hr' with z|z
    ·exact I.h8 r z
    ·rw[Ui.mp z];exact r1
   ·intro r hr';rcases Ut.mp hr' with z|z
    ·exact I.h9 r z
    ·rw[Ui.mp z];exact r2)
 refine⟨rows,g',?_,?_,I.h5,⟨Ug _,ds,I.h6,by rw[I.h2,I.h3],λi x r hx hr'=>?_⟩,I.h3,I.h8,I.h9⟩
 ·refine Qq rfl ?_;show KA [some (.fl (ns.map .int)),some (.ref a),some (.int n),some (.int m),none,none,none,none,none,none] g=_;unfold KA;rw[Yo s1,Yo (σ':=σ') (g':=g') ?_]
  ·subst h1;rfl
  ·rw[<-e];exact JT (Jn rfl hr)
 ·refine⟨Uk kp.len I.h4.len,λb o hb eb=>?_⟩;have:b<g.length:=QB eb;exact I.h4.at' b o (by simp at hb ⊢;omega) (kp.at' b o hb eb)
 ·obtain⟨b,hb1,hb2,hb3⟩:=I.h7 i x r hx hr';exact⟨b,hb1,by omega,by omega,hb3⟩
theorem Qe(σ':S3)(g':G)(h:a σ g=.nx σ' g')(h2:b σ' g'=R):Qm a b σ g=R:=(Yo h).trans h2
theorem Vl(g':G)(h:c σ g=.ok true g')(h2:a σ g'=R):ZT c a b σ g=R:=(Ex h).trans h2
theorem ZF(g':G)(h:c σ g=.ok false g')(h2:b σ g'=R):ZT c a b σ g=R:=(Fy h).trans h2
theorem eq_str(s t:Str)(g:G):VD (.str s) (.str t) g=.ok (.bl (s==t)) g:=rfl
theorem Yp(hl:ds.length=k)(h:b (ds.map some++List.replicate n none) g=.nx σ g'):QI k n b ds g=.ok .non g':=by unfold QI;rw[Uf hl,h]
theorem Qn(ha:a σ g=.ok x g1)(hb:b σ g1=.ok y g2)(h:f x y g2=R):Qc f a b σ g=R:=by unfold Qc;rw[ha,Res.bind_ok,hb,Res.bind_ok,h]
theorem Q5(ha:a σ g=.ok x g1)(h:f x g1=R):Qi f a σ g=R:=by unfold Qi;rw[ha,Res.bind_ok,h]
theorem Qy(ha:a σ g=.ok (.bl b) g1):Qf a σ g=.ok b g1:=by unfold Qf;rw[ha,Res.bind_ok]
theorem Qh(h:a σ g=.ok x g1)(h2:r σ g1=.ok xs g2):Qb a r σ g=.ok (x::xs) g2:=by unfold Qb;rw[h,Res.bind_ok,h2];rfl
theorem NY(ho:o σ g=.ok (.ref n) g)(h:g[n]?=some (.lst ds))(he:e σ g=.ok y g)(hz:ds.length<SZ):
  Q6 (Zp o e) σ g=.nx σ (g.set n (.lst (ds++[y]))):=by
 refine Zc (d:=.non) ?_;simp[Zp,ho,he,Res.bind,h,hz]
theorem entOk.good(hn:0<n)(hm:0<m)(h1:rows.length=n)(h2:∀r∈rows,r.length=m)(h3:∀r∈rows,∀d∈r,entOk d n m):JF rows=true:=by
 cases rows with
 |nil=>simp at h1;omega|cons q rest =>have hq:=h2 q (Uy ..);unfold JF;rw[UN,US];refine⟨by simp;intro z;rw[z]at hq;simp at hq;omega,λx hx=>?_⟩;unfold YK;rw[UN,US];exact⟨by simp[h2 x hx,hq],λd hd=>by rw[h1,hq];exact(h3 x hx d hd).ent⟩
theorem CF(h1:it σ g=.ok src g1)(hz:src.top<=SZ)(hc:X7 n cap σ=σ0)(h2:YB src t c e (src.top+1) 0 σ0 g1 []=.ok ds g2):Zq it n cap t c e σ g=.ok (.ref g2.length) (g2++[.lst ds]):=by simp only[Zq,h1,hz,hc,h2,W6]
theorem Li(hv:σ[i]?=some (some (.ref M)))(h:g[M]?=some (ZR rows)):Qj [11,12] "table" (Qa i) σ g=.ok (.tup (rows.map .tup)) g:=by simp[Qj,Qi,Qa,hv,Res.bind,h,ZR]
theorem Lj(h1:a σ g=.ok true g1)(h2:b σ g1=.ok true g2):ZV (QR a) (QR b) σ g=.ok false g2:=by unfold ZV QR;rw[h1,Res.bind_ok,Res.bind_ok];show(if (!true)=true then Res.ok true g1 else _)=_;rw[Uh (by decide),h2];rfl
def nR(a:Nat)(n:Nat):Src:=⟨λg i=>(match g[a]? with|some (.lst es)=>some es[i]? | _=>none),n⟩
def rS:Str:=⟨#[114]⟩
theorem bN(h1:a σ g=.ok false g1)(h2:b σ g1=.ok false g2):ZV a b σ g=.ok false g2:=by unfold ZV;rw[h1,Res.bind_ok,Uh Uj,h2]
theorem HD{α:Type}{xs:List α}{i:Nat}{z:α}(h:i<xs.length):xs.getD i z=xs[i]:=by rw[List.getD_eq_getElem?_getD,UK h];rfl
theorem XS{t p:Nat}{ds:List D}{d:D}{g:G}(h:g[t]?=some (.lst ds))(hp:ds[p]?=some d):QG (.ref t) (.int p) g=.ok d g:=by have hl:p<ds.length:=(Um.mp hp).1;unfold QG;dsimp only;rw[h];dsimp only;unfold EU Nk;rw[Uf (by omega),Uf (by omega)];simp[hp]
theorem Sj{t:Nat}{i:Int}{ds:List D}{d:D}{g:G}(h:g[t]?=some (.lst ds))(h0:0<=i)(hp:ds[i.toNat]?=some d):QG (.ref t) (.int i) g=.ok d g:=by
 have e:((i.toNat:Nat):Int)=i:=by omega
 rw[<-e];exact XS h hp
theorem JG(h:g[l]?=some (.lst ds)):QK g (.ref l)=some (true,ds):=by unfold QK;dsimp only;rw[h]
@[simp] theorem rR:Qm a b σ g=(match a σ g with | .nx σ' g'=>b σ' g'|o=>o):=rfl
@[simp] theorem rT  : QF (Ql i) a σ g=(match a σ g with | .ok d g'=>.nx (σ.set i (some d)) g' | .stuck=>.stuck):=rfl
@[simp] theorem sU  : ZT c a b σ g=(match c σ g with | .ok t g'=>if t=true then a σ g' else b σ g' | .stuck=>.stuck):=rfl
@[simp] theorem rV:Qz a σ g=(match a σ g with | .ok d g'=>.rt d g' | .stuck=>.stuck):=rfl
@[simp] theorem oZ:Q6 a σ g=(match a σ g with | .ok _ g'=>.nx σ g' | .stuck=>.stuck):=rfl
@[simp] theorem pA:Pb σ g=.rt .non g:=rfl
@[simp] theorem pB:Qv σ g=.nx σ g:=rfl
@[simp] theorem iB:Qa i σ g=(match σ[i]? with|some (some d)=>.ok d g|_=>.stuck):=rfl
@[simp] theorem Sk:Qp d σ g=.ok d g:=rfl
@[simp] theorem rW  : Qi f a σ g=(match a σ g with | .ok x g1=>f x g1 | .stuck=>.stuck):=by unfold Qi Res.bind;cases a σ g<;>rfl
@[simp] theorem rX  : Qc f a b σ g=(match a σ g with | .ok x g1=>(match b σ g1 with | .ok y g2=>f x y g2 | .stuck=>.stuck) | .stuck=>.stuck):=by unfold Qc Res.bind;cases a σ g with|ok x g1=>dsimp only;cases b σ g1<;>rfl|_=>rfl
@[simp] theorem Ey:Qd σ g=.ok [] g:=rfl
@[simp] theorem CG  : Qb a r σ g=(match a σ g with | .ok x g1=>(match r σ g1 with | .ok xs g2=>.ok (x::xs) g2 | .stuck=>.stuck) | .stuck=>.stuck):=by unfold Qb Res.bind;cases a σ g with|ok x g1=>dsimp only;cases r σ g1<;>rfl|_=>rfl
@[simp] theorem Xv  : QQ f a σ g=(match a σ g with | .ok x g1=>f x g1 | .stuck=>.stuck):=by unfold QQ Res.bind;cases a σ g<;>rfl
@[simp] theorem pD  : Qg f a σ g=(match a σ g with | .ok x g1=>f x g1 | .stuck=>.stuck):=by unfold Qg Res.bind;cases a σ g<;>rfl
@[simp] theorem D5:Qf a σ g=(match a σ g with | .ok (.bl b) g1=>.ok b g1|_=>.stuck):=by unfold Qf Res.bind;cases a σ g with|ok d g1=>cases d<;>rfl|_=>rfl
@[simp] theorem pE:Vd a b σ g=(match a σ g with | .ok c g1=>if c=true then b σ g1 else .ok false g1 | .stuck=>.stuck):=by unfold Vd Res.bind;cases a σ g<;>rfl
@[simp] theorem Gq:ZV a b σ g=(match a σ g with | .ok c g1=>if c=true then .ok true g1 else b σ g1 | .stuck=>.stuck):=by unfold ZV Res.bind;cases a σ g<;>rfl
@[simp] theorem Ml:QR a σ g=(match a σ g with | .ok c g1=>.ok (!c) g1 | .stuck=>.stuck):=by unfold QR Res.bind;cases a σ g<;>rfl
@[simp] theorem Sl  : ET c a b σ g=(match c σ g with | .ok t g1=>if t=true then a σ g1 else b σ g1 | .stuck=>.stuck):=by unfold ET Res.bind;cases c σ g<;>rfl
@[simp] theorem Sm:YN a b σ g=(match a σ g with | .ok (.bl c) g1=>if c=true then b σ g1 else .ok (.bl false) g1|_=>.stuck):=by unfold YN Res.bind;cases a σ g with|ok d g1=>cases d<;>rfl|_=>rfl
@[simp] theorem iC:ZE (.int i) (.int j) g=.ok (.int (i+j)) g:=rfl
@[simp] theorem rY:FY (.int i) (.int j) g=.ok (.int (i-j)) g:=rfl
@[simp] theorem rZ:JP (.int i) g=.ok (.int (-i)) g:=rfl
@[simp] theorem bO:FZ (.int i) (.int j) g=.ok (.bl (decide (i<j))) g:=rfl
@[simp] theorem nS:Ar (.int i) (.int j) g=.ok (.bl (decide (i<=j))) g:=rfl
@[simp] theorem bP:GJ (.int i) (.int j) g=.ok (.bl (decide (j<i))) g:=rfl
@[simp] theorem sV:qV (.int i) (.int j) g=.ok (.bl (decide (j<=i))) g:=rfl
@[simp] theorem nT:VD (.int i) (.int j) g=.ok (.bl (i==j)) g:=rfl
@[simp] theorem nU:Ik (.int i) (.int j) g=.ok (.bl (!(i==j))) g:=rfl
theorem Lk(h:g[n]?=some (.lst ds)):Zj (.ref n) g=.ok (.int ds.length) g:=by simp[Zj,h]
theorem ix_tup{ds:List D}{n:Nat}{d:D}(h:ds[n]?=some d):QG (.tup ds) (.int n) g=.ok d g:=by obtain⟨this,e⟩:=Um.mp h;simp[QG,EU,Nk,this,e]
@[simp] theorem iD{d:D}{ds:List D}:QG (.tup (d::ds)) (.int 0) g=.ok d g:=ix_tup (n:=0) rfl
@[simp] theorem iE{c d:D}{ds:List D}:QG (.tup (c::d::ds)) (.int 1) g=.ok d g:=ix_tup (n:=1) rfl
@[simp] theorem sA{b c d:D}{ds:List D}:QG (.tup (b::c::d::ds)) (.int 2) g=.ok d g:=ix_tup (n:=2) rfl
@[simp] theorem sB{a b c d:D}{ds:List D}:QG (.tup (a::b::c::d::ds)) (.int 3) g=.ok d g:=ix_tup (n:=3) rfl
abbrev vR(n:Nat):Option D:=some (.ref n)
abbrev vI(i:Int):Option D:=some (.int i)
abbrev Ct:=List Int×Int×Int×List Int
def QN(u:List Int):D:=.tup (u.map .int)
abbrev vM(u:List Int):Option D:=some (QN u)
def Zg(c:Ct):D:=.tup [QN c.1,.int c.2.1,.int c.2.2.1,QN c.2.2.2]
theorem Ce(u:List Int):Yl false (QN u)=some (.inl u):=AY (k:=.inl u) rfl
theorem N1(c:Ct):Yl true (Zg c)=some (.inr c):=AY (k:=.inr c) rfl
theorem N2{ks:List Ja}(p:∀k∈ks,k.isRight=τ):Jd τ (ks.map kD)=some ks:=LP (λ_ _ e a b=>IL e (a.trans b.symm)) p
theorem CH(us:List (List Int)):Jd false (us.map QN)=some (us.map .inl):=by rw[show us.map QN=(us.map Sum.inl).map kD by rw[Te];rfl];exact N2 λk hk=>by obtain⟨_,_,rfl⟩:=UR.mp hk;rfl
theorem Sn(ds:List α):B1 ds none (some (-1))=ds.dropLast:=by unfold B1 F0;rw[WX];simp only[List.drop_zero,Nat.sub_zero];rw[Uf (by omega)];congr 1;omega
theorem So(ds:List α):B1 ds (some 1) none=ds.tail:=by
 cases ds with
 |nil=>rfl|cons d ds=>
  have e:F0 (d::ds).length 0 (some 1)=1:=by unfold F0;dsimp only;rw[Uh (by omega),UJ];omega
  unfold B1;rw[e];show List.take (ds.length+1-1) ds=ds;simp
def wS(b:Bool):Str:=if b=true then ⟨#[114]⟩ else ⟨#[108]⟩
def Jf(i:Int)(b:Bool)(j:Int):D:=.tup [.int i,.str (wS b),.int j]
def Sr:D->Option (Int×Bool×Int)
 |.tup [.int i,.str w,.int j]=>some (i,decide (w=⟨#[114]⟩),j)|_=>none
def Mm(rows:List (List D))(p q:Int):D:=(rows.getD p.toNat []).getD q.toNat .non
structure Tb(rows:List (List D))(n m:Nat):Prop where
 ln:rows.length=n
 lm:∀r∈rows,r.length=m
 ok:∀r∈rows,∀d∈r,entOk d n m
theorem Tb.at'{rows:List (List D)}{n m:Nat}(h:Tb rows n m){p q:Int}(h0:0<=p)(h1:p<n)(h2:0<=q)(h3:q<m):∃r,rows[p.toNat]?=some r/\r[q.toNat]?=some (Mm rows p q)/\entOk (Mm rows p q) n m:=by
 have l1:p.toNat<rows.length:=by rw[h.ln];omega
 have hr:rows[p.toNat]∈rows:=Tk l1;have l2:q.toNat<rows[p.toNat].length:=by rw[h.lm _ hr];omega
 have e:Mm rows p q=rows[p.toNat][q.toNat]:=by unfold Mm;rw[HD l1,HD l2]
 refine⟨rows[p.toNat],by simp[l1],by rw[e];simp[l2],?_⟩;rw[e];exact h.ok _ hr _ (Tk l2)
theorem entOk.cases(h:entOk d n m):(d=.non/\Sr d=none)\/∃i b j,d=Jf i b j/\Sr d=some (i,b,j)/\0<=i/\i<m/\0<=j/\j<n:=by
 rcases h with rfl|⟨i,j,w,rfl,h1,h2,h3,h4,rfl|rfl⟩
 ·exact .inl ⟨rfl,rfl⟩
 ·exact .inr ⟨i,false,j,rfl,by unfold Sr;rfl,h1,h2,h3,h4⟩
 ·exact .inr ⟨i,true,j,rfl,by unfold Sr;rfl,h1,h2,h3,h4⟩
def okG(w m:Nat)(u:List Int):Prop:=u.length=w/\∀x∈u,0<=x/\x<m
def okC(w n m:Nat)(c:Ct):Prop:=okG w m c.1/\(0<=c.2.1/\c.2.1<n)/\(0<=c.2.2.1/\c.2.2.1<m)/\okG w m c.2.2.2
def Vy(b:Bool)(c:Ct):List Int:=if b=true then c.1 else c.2.2.2
def J5(b:Bool)(c:Ct):List Int:=if b=true then c.2.2.2 else c.1
def Cf(i:Int)(b:Bool)(j:Int)(c:Ct)(u:List Int):Ct:=if b=true then (i::c.1.dropLast,j,c.2.2.2.headD 0,u) else (u,j,c.1.headD 0,i::c.2.2.2.dropLast)
theorem okC.b(h:okC w n m c)(b:Bool):okG w m (Vy b c):=by cases b;exact h.2.2.2;exact h.1
theorem okC.a(h:okC w n m c)(b:Bool):okG w m (J5 b c):=by cases b;exact h.1;exact h.2.2.2
theorem okG.cons{w m:Nat}{u:List Int}{i:Int}(hw:1<=w)(h:okG w m u)(h0:0<=i)(h1:i<m):okG w m (i::u.dropLast):=by
 refine⟨?_,λx hx=>?_⟩
 ·rw[UJ,Rb,h.1];omega
 ·rcases UG.mp hx with rfl|hx
  ·exact⟨h0,h1⟩
  ·exact h.2 x (Bc _ hx)
theorem okG.head(hw:1<=w)(h:okG w m u):0<=u.headD 0/\u.headD 0<m:=by
 cases u with
 |nil=>have:=h.1;simp at this;omega|cons x r=>exact h.2 x (Uy ..)
theorem okC.nx{w n m:Nat}{c:Ct}{i j:Int}{b:Bool}{u:List Int}(hw:1<=w)(h:okC w n m c)(hu:okG w m u)(h0:0<=i)(h1:i<m)(h2:0<=j)(h3:j<n):okC w n m (Cf i b j c u):=by
 cases b with
 |false=>exact⟨hu,⟨h2,h3⟩,h.1.head hw,h.2.2.2.cons hw h0 h1⟩|true=>exact⟨h.1.cons hw h0 h1,⟨h2,h3⟩,h.2.2.2.head hw,hu⟩
theorem sC(b:Bool):(wS b==(⟨#[114]⟩:Str))=b:=by cases b<;>decide
theorem Ss(b:Bool)(g:G):VD (.str (wS b)) (.str ⟨#[114]⟩) g=.ok (.bl b) g:=by rw[eq_str,sC]
theorem HE(b:Bool)(g:G):Yt [.str (wS b)] g=.ok (.str (wS !b)) g:=by cases b<;>simp[Yt,KZ,QI,Ss,rM,bM]<;>rfl
theorem KJ(i:Int)(b:Bool)(j:Int)(c:Ct)(g:G):Zu [Jf i b j,Zg c] g=.ok (QN (Vy b c)) g:=by cases b<;>simp[Zu,Vj,QI,Jf,Zg,Ss,bM,Vy]
theorem Ez(i:Int)(b:Bool)(j:Int)(c:Ct)(g:G):ZJ [Jf i b j,Zg c] g=.ok (QN (J5 b c)) g:=by cases b<;>simp[ZJ,V5,QI,Jf,Zg,Ss,bM,J5]
@[simp] theorem Yh    : ZW a lo hi σ g=(match a σ g with | .ok x g1=>(match lo σ g1 with | .ok l g2=>(match hi σ g2 with | .ok h g3=>Ko x l h g3 | .stuck=>.stuck) | .stuck=>.stuck) | .stuck=>.stuck):=by
 unfold ZW Res.bind;cases a σ g with
 |ok x g1=>
  dsimp only;cases lo σ g1 with
  |ok l g2 =>dsimp only;cases hi σ g2<;>rfl|_=>rfl
 |_=>rfl
@[simp] theorem ZM  : Zw σ g=.ok none g:=rfl
@[simp] theorem Y2   : YQ a σ g=(match a σ g with | .ok (.int i) g1=>.ok (some i) g1|_=>.stuck):=by
 unfold YQ Res.bind;cases a σ g with
 |ok d g1=>cases d<;>rfl|_=>rfl
@[simp] theorem sW   : Ko (.tup ds) lo hi g=.ok (.tup (B1 ds lo hi)) g:=rfl
theorem JI(u:List Int)(g:G):Ko (QN u) none (some (-1)) g=.ok (QN u.dropLast) g:=by show Res.ok (D.tup (B1 _ _ _)) g=_;rw[Sn,<-List.map_dropLast];rfl
theorem Mn(u:List Int)(g:G):Ko (QN u) (some 1) none g=.ok (QN u.tail) g:=by show Res.ok (D.tup (B1 _ _ _)) g=_;rw[So,<-List.map_tail];rfl
theorem D6(u:List Int)(g:G)(h:1<=u.length):QG (QN u) (.int 0) g=.ok (.int (u.headD 0)) g:=by
 cases u with
 |nil=>simp at h|cons x r=>exact iD
theorem nV(i:Int)(u:List Int)(g:G)(h:u.length<=1000):ZE (.tup [.int i]) (QN u) g=.ok (QN (i::u)) g:=by show(if _ then _ else _)=_;rw[Uf (by rw[Ue];exact Uk (TD h 1) (by decide))];rfl
@[simp] theorem EA(xs:List D)(g:G)(h:xs.length<=100:=by decide):Yy xs g=.ok (.tup xs) g:=Uf (Uk h (by decide))
theorem EB(i:Int)(b:Bool)(j:Int)(c:Ct)(u:List Int)(g:G)(hw:1<=w)(hw2:w<=100)(h:okC w n m c):Q9 [Jf i b j,Zg c,QN u] g=.ok (Zg (Cf i b j c u)) g:=by
 have ha:1<=(J5 b c).length:=by rw[(h.a b).1];exact hw
 have hb:(Vy b c).dropLast.length<=1000:=by rw[Rb,(h.b b).1];omega
 refine Qq rfl ?_;show Jt [some (Jf i b j),some (Zg c),some (QN u),none,none] g=_;unfold Jt;refine Qe [some (Jf i b j),some (Zg c),some (QN u),vI ((J5 b c).headD 0),none] g (Qt (Qn (g1:=g) (g2:=g) ((Qo (ds:=[Jf i b j,Zg c]) (g':=g) rfl).trans (Ez i b j c g)) rfl (D6 _ g ha))) ?_;refine Qe [some (Jf i b j),some (Zg c),some (QN u),vI ((J5 b c).headD 0),some (QN (i::(Vy b c).dropLast))] g (Qt (Qn (x:=.tup [.int i]) (y:=QN (Vy b c).dropLast) (g1:=g) (g2:=g) (by simp[Jf]) ?_ (nV i _ g hb))) ?_
 ·simp only[Yh,ZM,Y2];rw[(Qo (ds:=[Jf i b j,Zg c]) (g':=g) rfl).trans (KJ i b j c g)];exact JI _ g
 ·cases b<;>simp[Jf,Ss,bM,Zg,Cf,J5,Vy]
theorem JJ{M:Nat}{rows:List (List D)}{n m w:Nat}{g:G}{c:Ct}(hM:g[M]?=some (ZR rows))(ht:Tb rows n m)(h:okC w n m c):Yn [.ref M,Zg c] g=.ok (Mm rows c.2.1 c.2.2.1) g:=by
 obtain⟨r,h1,h2,_⟩:=ht.at' h.2.1.1 h.2.1.2 h.2.2.1.1 h.2.2.1.2;have e1:QG (.tup (rows.map .tup)) (.int c.2.1) g=.ok (.tup r) g:=by have:((c.2.1.toNat:Nat):Int)=c.2.1:=To h.2.1.1;rw[<-this];exact ix_tup (by rw[UL,h1];rfl)
 have e2:QG (.tup r) (.int c.2.2.1) g=.ok (Mm rows c.2.1 c.2.2.1) g:=by
  have:((c.2.2.1.toNat:Nat):Int)=c.2.2.1:=To h.2.2.1.1
  conv=>lhs;rw[<-this]
  exact ix_tup h2
 refine Qq rfl (QP (Qn (g1:=g) (g2:=g) (Qn (g1:=g) (g2:=g) (x:=.tup (rows.map .tup)) ?_ ?_ e1) ?_ e2))
 ·unfold Qj;refine Q5 (x:=.ref M) (g1:=g) rfl ?_;dsimp only;rw[hM];show(if 11∈[11,12] then _ else _)=_;rw[Uf (by decide)];simp[List.lookup]
 ·simp[Zg]
 ·simp[Zg]
inductive Ky where
 |W|S|A|C|P|G (y:Bool)|B (x y:Bool)|L (x y:Bool) (k:List Int)
structure PSt where
 gs:Bool->List (List Int)
 cs:List Ct
 pd:List Ct
 dn:List Ct
abbrev HF:=Int->Int->Option (Int×Bool×Int)
def YL(T:HF)(y:Bool)(k:List Int)(c:Ct):Bool:=match T c.2.1 c.2.2.1 with
 |some (_,b,_)=>decide (b=y/\(J5 b c).tail=k)|none=>false
def Y7(T:HF)(s:PSt):Bool->Bool->List Int->List D
 |false,y,k=>((s.gs y).filter λu=>decide (u.dropLast=k)).map QN|true,y,k=>(s.dn.filter (YL T y k)).map Zg
def wF(M S C P A:Nat):List (Str×D):=[("machine",.ref M),("sides",.ref S),("contexts",.ref C),("pending",.ref P),("asking",.ref A)]
def Vz(a b:Nat):List (DK×D):=[(.inr (wS false),.ref a),(.inr (wS true),.ref b)]
def Y9(b:Nat):List (Str×D):=[("by_seen",.ref b)]
abbrev GK:=Bool->Bool->List (List Int)
def Ll(T:HF)(M:Nat)(ad:Ky->Nat)(s:PSt)(gk:GK):Ky->GO
 |.W=>.ins 15 (wF M (ad .S) (ad .C) (ad .P) (ad .A))|.S=>.dct (Vz (ad (.G false)) (ad (.G true)))|.A=>.dct (Vz (ad (.B true false)) (ad (.B true true)))|.C=>.dcn true (s.cs.map λc=>(.inr c,.bl true))|.P=>.lst (s.pd.map Zg)|.G y=>.ins 14 (Y9 (ad (.B false y)))|.B x y=>.dcn false ((gk x y).map λk=>(.inl k,.ref (ad (.L x y k))))|.L x y k=>.lst (Y7 T s x y k)
def GL(gk:GK):Ky->Prop
 |.L x y k=>k∈gk x y|_=>True
structure Rp(T:HF)(g0:G)(M:Nat)(g:G)(ad:Ky->Nat)(s:PSt)(gk:GK):Prop where
 old:Keeps [] g0 g
 at':∀k,GL gk k->g[ad k]?=some (Ll T M ad s gk k)
 ge:∀k,GL gk k->g0.length<=ad k
 inj:∀k k',GL gk k->GL gk k'->ad k=ad k'->k=k'
 nd:∀x y,(gk x y).Nodup
 kg:∀y u,u∈s.gs y->u.dropLast∈gk false y
 ka:∀y c k,c∈s.dn->YL T y k c=true->k∈gk true y
theorem Rp.lt(h:Rp T g0 M g ad s gk)(ha:GL gk k):ad k<g.length:=QB (h.at' k ha)
theorem Rp.push(h:Rp T g0 M g ad s gk)(o:GO):Rp T g0 M (g++[o]) ad s gk:=⟨h.old.trans (.push o),λk ha=>by rw[Ul (h.lt ha)];exact h.at' k ha,h.ge,h.inj,h.nd,h.kg,h.ka⟩
theorem Rp.set(h:Rp T g0 M g ad s gk)(ha:GL gk k)(hne:∀k',GL gk k'->k'≠k->Ll T M ad s' gk k'=Ll T M ad s gk k')(kg:∀y u,u∈s'.gs y->u.dropLast∈gk false y)(ka:∀y c k,c∈s'.dn->YL T y k c=true->k∈gk true y):Rp T g0 M (g.set (ad k) (Ll T M ad s' gk k)) ad s' gk:=by
 refine⟨⟨by rw[UQ];exact h.old.len,λn o hn e=>?_⟩,λk' ha'=>?_,h.ge,h.inj,h.nd,kg,ka⟩
 ·have hl:n<g0.length:=QB e;have:=h.ge k ha;rw[Ud (by omega)];exact h.old.at' n o hn e
 ·by_cases e:k'=k
  ·subst e;exact Zb (h.at' k' ha)
  ·rw[Ud (λz=>e (h.inj _ _ ha' ha z.symm)),hne k' ha' e];exact h.at' k' ha'
theorem Fz(h:Rp T g0 M g ad s gk)(hk:k∉gk x y):Y7 T s x y k=[]:=by
 cases x with
 |false =>show List.map _ (List.filter _ _)=[];rw[WI.mpr λu hu z=>hk (by have:=h.kg y u hu;rw[UC z]at this;exact this)];rfl|true =>show List.map _ (List.filter _ _)=[];rw[WI.mpr λc hc z=>hk (h.ka y c k hc z)];rfl
theorem XT{f:List Int->D}:∀{ks:List (List Int)}{k:List Int},YF (ks.map λk=>(.inl k,f k)) (.inl k)=if k∈ks then some (f k) else none
 |[],k=>rfl|c::ks,k=>by
  have ih:=XT (f:=f) (ks:=ks) (k:=k);unfold YF at ih ⊢;rw[UH,Td];by_cases e:c=k
  ·subst e;rw[Us rfl];simp
  ·rw[Uv (λz=>e (Sum.inl.inj z))];dsimp only;rw[ih];simp[Ne.symm e]
def jB(ad:Ky->Nat)(x y:Bool)(k:List Int)(n:Nat):Ky->Nat
 |.L x' y' k'=>if x'=x/\y'=y/\k'=k then n else ad (.L x' y' k')
 |.W=>ad .W | .S=>ad .S | .A=>ad .A | .C=>ad .C | .P=>ad .P | .G y=>ad (.G y) | .B x y=>ad (.B x y)
def Su(gk:GK)(x y:Bool)(k:List Int):GK:=λx' y'=>if x'=x/\y'=y then gk x' y'++[k] else gk x' y'
theorem mem_gkN  : k'∈Su gk x y k x' y'↔k'∈gk x' y'\/(x'=x/\y'=y/\k'=k):=by
 unfold Su;split
 ·next h=>simp[h]
 ·next h=>exact⟨.inl,λz=>z.elim id λw=>absurd ⟨w.1,w.2.1⟩ h⟩
theorem Rp.new(h:Rp T g0 M g ad s gk)(hk:k∉gk x y):Rp T g0 M ((g++[GO.lst []]).set (ad (.B x y)) (GO.dcn false (((gk x y).map λk=>(Sum.inl k,D.ref (ad (.L x y k))))++[(Sum.inl k,D.ref g.length)]))) (jB ad x y k g.length) s (Su gk x y k):=by
 have hp:=h.push (.lst []);have hB:ad (.B x y)<g.length:=h.lt (k:=.B x y) trivial;have old:∀{k':Ky},GL gk k'->jB ad x y k g.length k'=ad k':=λ{k'} ha=>by
  cases k' with
  |L x' y' k' =>refine Uh ?_;rintro ⟨rfl,rfl,rfl⟩;exact hk ha
  |_=>rfl
 have cas:∀k',GL (Su gk x y k) k'->GL gk k'\/k'=.L x y k:=λk' ha=>by
  cases k' with
  |L x' y' k'=>
   rcases mem_gkN.mp ha with z|⟨rfl,rfl,rfl⟩
   ·exact .inl z
   ·exact .inr rfl
  |_=>exact .inl trivial
 have newA:jB ad x y k g.length (.L x y k)=g.length:=Uf ⟨rfl,rfl,rfl⟩;have cts:∀k',GL gk k'->k'≠.B x y->Ll T M (jB ad x y k g.length) s (Su gk x y k) k'=Ll T M ad s gk k':=λk' ha hne=>by
  cases k' with
  |B x' y' =>have hxy:¬(x'=x/\y'=y):=λz=>hne (by rw[z.1,z.2]);show GO.dcn false _=GO.dcn false _;unfold Su;rw[Uh hxy];congr 1;refine Tn λc hc=>?_;rw[old (k':=.L x' y' c) hc]
  |_=>rfl
 refine⟨⟨by rw[UQ];exact hp.old.len,λn o hn e=>?_⟩,λk' ha=>?_,λk' ha=>?_,λk1 k2 h1 h2 e=>?_,λx' y'=>?_,λy' u hu=>mem_gkN.mpr (.inl (h.kg y' u hu)),λy' c k' hc z=>mem_gkN.mpr (.inl (h.ka y' c k' hc z))⟩
 ·have:=h.ge (.B x y) trivial;have hl:n<g0.length:=QB e;rw[Ud (by omega)];exact hp.old.at' n o hn e
 ·rcases cas k' ha with z|rfl
  ·rw[old z];by_cases e:k'=.B x y
   ·subst e;rw[Zb (hp.at' (.B x y) trivial)];show some (GO.dcn false _)=some (GO.dcn false _);congr 2;unfold Su;rw[Uf ⟨rfl,rfl⟩,UO];congr 1
    ·refine Tn λc hc=>?_;rw[old (k':=.L x y c) hc]
    ·rw[UH,newA];rfl
   ·rw[Ud (λw=>e (h.inj k' (.B x y) z trivial w.symm)),cts k' z e];exact hp.at' k' z
  ·rw[newA,Ud (by omega),QM];show some (GO.lst [])=some (GO.lst (Y7 T s x y k));rw[Fz h hk]
 ·rcases cas k' ha with z|rfl
  ·rw[old z];exact h.ge k' z
  ·rw[newA];exact h.old.len
 ·rcases cas k1 h1 with z1|rfl<;>rcases cas k2 h2 with z2|rfl
  ·rw[old z1,old z2]at e;exact h.inj _ _ z1 z2 e
  ·rw[old z1,newA]at e;have:=h.lt z1;omega
  ·rw[old z2,newA]at e;have:=h.lt z2;omega
  ·rfl
 ·unfold Su;split
  ·next hh =>obtain⟨rfl,rfl⟩:=hh;exact RH.mpr ⟨h.nd _ _,by simp,λa ha b hb z=>hk (by rw[Ui.mp hb]at z;rw[<-z];exact ha)⟩
  ·exact h.nd _ _
theorem ZS(ho:o σ g=.ok (.ref n) g)(h:g[n]?=some (.ins c fs))(hc:c∈cs)(hf:fs.lookup f=some d):Qj cs f o σ g=.ok d g:=by unfold Qj;refine Q5 ho ?_;dsimp only;rw[h];dsimp only;rw[Uf hc,hf]
theorem QY(ho:o σ g=.ok (.ref n) g1)(h:g1[n]?=some (.ins cc fs))(hm:fs.lookup m=none)(ha:a σ g1=.ok xs g2):QD cc m f o a σ g=f (.ref n::xs) g2:=by unfold QD;rw[ho,Res.bind_ok];dsimp only;rw[h];dsimp only;rw[Uf ⟨rfl,hm⟩,ha,Res.bind_ok]
theorem XU:QQ ZD Qd σ g=.ok (.ref g.length) (g++[.lst []]):=by simp only[Xv,Ey];exact Uf (Tv _)
theorem J6(ho:o σ g=.ok (.ref n) g)(h:g[n]?=some (.dcn τ ks))(hk:k σ g=.ok y g)(hx:x σ g=.ok z g1)(h1:g1[n]?=some (.dcn τ ks))(hs:Yl τ y=some kk):Hi o k x f σ g=f n τ ks kk z g1:=by unfold Hi;rw[ho,Res.bind_ok];dsimp only;rw[h];dsimp only;rw[hk,Res.bind_ok,hx,Res.bind_ok,h1];dsimp only;rw[hs]
theorem Zv(h:σ[i]?=some (some d)):Qa i σ g=.ok d g:=by unfold Qa;rw[h]
theorem Jv(ho:o σ g=.ok (.ref n) g1)(h:g1[n]?=some (.lst ds))(he:e σ g1=.ok y g1)(hz:ds.length<=1000):Zp o e σ g=.ok .non (g1.set n (.lst (ds++[y]))):=by unfold Zp;rw[ho,Res.bind_ok];dsimp only;rw[h];dsimp only;rw[he,Res.bind_ok,h];dsimp only;rw[Uf (Vk hz)]
theorem Oq{a:Str}{v:D}{r:List (Str×D)}:List.lookup a ((a,v)::r)=some v:=by simp[List.lookup]
theorem Gs{a b:Str}{v:D}{r:List (Str×D)}(h:(a==b)=false):List.lookup a ((b,v)::r)=List.lookup a r:=by simp[List.lookup,h]
theorem Rp.atG(h:Rp T g0 M g ad s gk)(y:Bool):g[ad (.G y)]?=some (.ins 14 (Y9 (ad (.B false y)))):=h.at' (.G y) trivial
theorem Rp.atB(h:Rp T g0 M g ad s gk)(x y:Bool):g[ad (.B x y)]?=some (.dcn false ((gk x y).map λk=>(.inl k,.ref (ad (.L x y k))))):=h.at' (.B x y) trivial
theorem Mo(h:Rp T g0 M g ad s gk){y:Bool}{i:Nat}(hv:σ[i]?=some (vR (ad (.G y)))):Qj [14] "by_seen" (Qa i) σ g=.ok (.ref (ad (.B false y))) g:=ZS (Zv hv) (h.atG y) (by decide) Oq
theorem Sv(h:Rp T g0 M g ad s gk)(ho:o σ g=.ok (.ref (ad (.B x y))) g)(he:e σ g=.ok (QN k) g):∃a,F9 o e (QQ ZD Qd) σ g=.ok (.ref a) (g++[.lst []])/\(g++[GO.lst []])[a]?=some (.lst (Y7 T s x y k))/\((a=ad (.L x y k)/\k∈gk x y)\/a=g.length):=by
 have hp:=h.push (.lst []);have e1:=J6 (f:=λ_ _ ks k z g=>.ok ((YF ks k).getD z) g) ho (h.atB x y) he XU (hp.atB x y) (Ce k);rw[XT]at e1;by_cases hk:k∈gk x y
 ·rw[Uf hk]at e1;exact⟨_,e1,hp.at' (.L x y k) hk,.inl ⟨rfl,hk⟩⟩
 ·rw[Uh hk]at e1;refine⟨_,e1,?_,.inr rfl⟩;rw[QM,Fz h hk]
theorem FB(h:Rp T g0 M g ad s gk)(hz:(gk x y).length<=1000)(ho:o σ g=.ok (.ref (ad (.B x y))) g)(he:e σ g=.ok (QN k) g):∃g' ad' gk',Y4 o e (QQ ZD Qd) σ g=.ok (.ref (ad' (.L x y k))) g'/\Rp T g0 M g' ad' s gk'/\k∈gk' x y/\(∀k0,GL gk k0->ad' k0=ad k0)/\(gk'=gk\/gk'=Su gk x y k):=by
 have hp:=h.push (.lst []);have e1:=J6 (f:=λn τ ks k z g=>if ks.length<SZ then (match YF ks k with|some v=>.ok v g|none=>.ok z (g.set n (.dcn τ (ks++[(k,z)])))) else .stuck) ho (h.atB x y) he XU (hp.atB x y) (Ce k);have e1:Y4 o e (QQ ZD Qd) σ g=_:=e1;rw[Uf (by rw[Ue];exact Vk hz),XT]at e1;by_cases hk:k∈gk x y
 ·rw[Uf hk]at e1;exact⟨_,ad,gk,e1,hp,hk,λ_ _=>rfl,.inl rfl⟩
 ·rw[Uh hk]at e1;refine⟨_,jB ad x y k g.length,Su gk x y k,?_,h.new hk,mem_gkN.mpr (.inr ⟨rfl,rfl,rfl⟩),λk0 ha=>?_,.inr rfl⟩
  ·rw[e1,show jB ad x y k g.length (.L x y k)=g.length from Uf ⟨rfl,rfl,rfl⟩]
  ·cases k0 with
   |L x' y' k' =>refine Uh ?_;rintro ⟨rfl,rfl,rfl⟩;exact hk ha
   |_=>rfl
theorem V8(h:Rp T g0 M g ad s gk)(y:Bool)(k:List Int):∃a,QJ [.ref (ad (.G y)),QN k] g=.ok (.ref a) (g++[.lst []])/\(g++[GO.lst []])[a]?=some (.lst (Y7 T s false y k))/\((a=ad (.L false y k)/\k∈gk false y)\/a=g.length):=by obtain⟨a,h1,h2,h3⟩:=Sv (σ:=[vR (ad (.G y)),vM k]) h (x:=false) (y:=y) (k:=k) (Mo h (i:=0) rfl) (e:=Qa 1) rfl;exact⟨a,Qq rfl (QP h1),h2,h3⟩
theorem EC(b:Nat):(Y9 b).lookup (Str.ofString "beginning")=none:=by unfold Y9;rw[Gs (by decide +kernel)];rfl
theorem ED(b:Nat):(Y9 b).lookup (Str.ofString "has")=none:=by unfold Y9;rw[Gs (by decide +kernel)];rfl
theorem Lm(b:Nat):(Y9 b).lookup (Str.ofString "put_in")=none:=by unfold Y9;rw[Gs (by decide +kernel)];rfl
theorem Sw(b:Nat):(Y9 b).lookup (Str.ofString "in_order")=none:=by unfold Y9;rw[Gs (by decide +kernel)];rfl
theorem Gu(u:List Int):∀us:List (List Int),((us.map (Sum.inl:List Int->Ja)).any λc=>decide (c=.inl u))=decide (u∈us)
 |[]=>rfl|v::us=>by
  rw[UH,Tu,Gu u us];by_cases e:v=u
  ·subst e;simp
  ·rw[Uv (λz=>e (Sum.inl.inj z))];simp[Ne.symm e]
theorem Sx(h:Rp T g0 M g ad s gk)(y:Bool)(u:List Int):QX [.ref (ad (.G y)),QN u] g=.ok (.bl (decide (u∈s.gs y))) (g++[.lst []]):=by
 obtain⟨a,h1,h2,_⟩:=V8 h y u.dropLast;refine Qq rfl (QP (Qn (x:=QN u) (y:=.ref a) (g1:=g) rfl ((QY (n:=ad (.G y)) (g1:=g) (xs:=[QN u.dropLast]) (g2:=g) rfl (h.atG y) (EC _) ?_).trans h1) ?_))
 ·simp only[CG,Yh,ZM,Y2,Ey];exact TY (λr=>match r with|Res.ok x g1=>Res.ok [x] g1 | .stuck=>.stuck) (JI u g)
 ·unfold IX;rw[Ce];dsimp only;rw[h2];dsimp only;show(match Jd false (((s.gs y).filter λv=>decide (v.dropLast=u.dropLast)).map QN) with|some ks=>_|none=>_)=_;rw[CH];dsimp only;rw[Gu];congr 2;exact Tj.mpr (by simp)
theorem XW:∀{l m:List α},l.Nodup->(∀x∈l,x∈m)->l.length<=m.length
 |[],_,_,_=>Tv _|a::l,m,h,hs=>by
  have h':=RB.mp h;obtain⟨p,q,e⟩:=List.append_of_mem (hs a (Uy ..));subst e;have:l.length<=(p++q).length:=XW h'.2 λx hx=>by
   have hx':=hs x (Uz _ hx);rcases Ut.mp hx' with z|z
   ·exact Ut.mpr (.inl z)
   ·rcases UG.mp z with rfl|z
    ·exact absurd hx h'.1
    ·exact Ut.mpr (.inr z)
  simp only[Uq,UJ]at this ⊢;omega
def D7(m:Nat):List Int:=(List.range m).map Int.ofNat
theorem EE{m:Nat}{x:Int}(h0:0<=x)(h1:x<m):x∈D7 m:=UR.mpr ⟨x.toNat,Wi.mpr (by omega),To h0⟩
def N3(m:Nat):Nat->List (List Int)
 |0=>[[]]|w+1=>(D7 m).flatMap λx=>(N3 m w).map (x :: ·)
theorem J7{m:Nat}:∀{w:Nat}{u:List Int},okG w m u->u∈N3 m w
 |0,u,h=>by rw[BV.mp h.1];exact Uy ..
 |w+1,[],h=>by have:=h.1;simp at this
 |w+1,x::u,h=>RQ.mpr ⟨x,EE (h.2 x (Uy ..)).1 (h.2 x (Uy ..)).2,UR.mpr ⟨u,J7 ⟨by have:=h.1;rw[UJ]at this;omega,λy hy=>h.2 y (Uz _ hy)⟩,rfl⟩⟩
def nW(w n m:Nat):List Ct:=(N3 m w).flatMap λl=>(D7 n).flatMap λp=>(D7 m).flatMap λq=>(N3 m w).map λr=>(l,p,q,r)
theorem Sy{w n m:Nat}{c:Ct}(h:okC w n m c):c∈nW w n m:=by obtain⟨l,p,q,r⟩:=c;exact RQ.mpr ⟨l,J7 h.1,RQ.mpr ⟨p,EE h.2.1.1 h.2.1.2,RQ.mpr ⟨q,EE h.2.2.1.1 h.2.2.1.2,UR.mpr ⟨r,J7 h.2.2.2,rfl⟩⟩⟩⟩
structure Few(w n m:Nat):Prop where
 w1:1<=w
 w3:w<=3
 n1:1<=n
 n3:n<=3
 m2:2<=m
 m3:m<=3
 g:(N3 m w).length<=60
 k:(N3 m (w-1)).length<=900
 c:(nW w n m).length<=900
structure okS(w n m:Nat)(T:HF)(s:PSt):Prop where
 g:∀y u,u∈s.gs y->okG w m u
 gn:∀y,(s.gs y).Nodup
 c:∀c∈s.cs,okC w n m c
 cn:s.cs.Nodup
 p:∀c∈s.pd,c∈s.cs
 d:∀c∈s.dn,c∈s.cs/\T c.2.1 c.2.2.1≠none
 l:s.dn.length+s.pd.length<=s.cs.length
def KB(w m:Nat)(gk:GK):Prop:=∀x y k,k∈gk x y->okG (w-1) m k
theorem okS.gl(h:okS w n m T s)(f:Few w n m)(y:Bool):(s.gs y).length<=900:=Uk (Uk (XW (h.gn y) λu hu=>J7 (h.g y u hu)) f.g) (by decide)
theorem okS.cl(h:okS w n m T s)(f:Few w n m):s.cs.length<=900:=Uk (XW h.cn λc hc=>Sy (h.c c hc)) f.c
theorem okS.contl(h:okS w n m T s)(f:Few w n m)(x y:Bool)(k:List Int):(Y7 T s x y k).length<=900:=by
 cases x with
 |false=>exact Uk (by show(List.map _ (List.filter _ _)).length<=_;rw[Ue];exact Wa ..) (h.gl f y)|true=>exact Uk (by show(List.map _ (List.filter _ _)).length<=_;rw[Ue];exact Wa ..) (Uk (Uk (U5 _ _) h.l) (h.cl f))
theorem KB.len(h:KB w m gk)(nd:∀x y,(gk x y).Nodup)(f:Few w n m)(x y:Bool):(gk x y).length<=900:=Uk (XW (nd x y) λk hk=>J7 (h x y k hk)) f.k
theorem KB.new(h:KB w m gk)(hk:okG (w-1) m k):KB w m (Su gk x y k):=λx' y' k' hh=>by
 rcases mem_gkN.mp hh with z|⟨_,_,rfl⟩
 ·exact h x' y' k' z
 ·exact hk
theorem okG.init(h:okG w m u):okG (w-1) m u.dropLast:=⟨by rw[Rb,h.1],λx hx=>h.2 x (Bc _ hx)⟩
theorem okG.tail(h:okG w m u):okG (w-1) m u.tail:=⟨by rw[List.length_tail,h.1],λx hx=>h.2 x (List.mem_of_mem_tail hx)⟩
def addG(s:PSt)(y:Bool)(u:List Int):PSt:={s with gs:=λy'=>if y'=y then s.gs y'++[u] else s.gs y'}
def ask(s:PSt)(c:Ct):PSt:=if c∈s.cs then s else {s with cs:=s.cs++[c],pd:=s.pd++[c]}
def YO(s:PSt)(cs:List Ct):PSt:=cs.foldl ask s
def Sz(T:HF)(c:Ct)(u:List Int):Ct:=match T c.2.1 c.2.2.1 with
 |some (i,b,j)=>Cf i b j c u|none=>c
def Zo(T:HF)(s:PSt)(y:Bool)(u:List Int):PSt:=if u∈s.gs y then s else YO (addG s y u) ((s.dn.filter (YL T y u.dropLast)).map λc=>Sz T c u)
def EF(s:PSt)(c:Ct):PSt:={s with dn:=s.dn++[c]}
def Jw(s:PSt):PSt:={s with pd:=s.pd.dropLast}
def gF(s:PSt)(b:Bool)(k:List Int):List (List Int):=(s.gs b).filter λu=>decide (u.dropLast=k)
def Yw(T:HF)(s:PSt)(c:Ct)(i:Int)(b:Bool)(j:Int):PSt:=
 let s3:=EF (Zo T (Jw s) (!b) (Vy b c)) c
 YO s3 ((gF s3 b (J5 b c).tail).map λu=>Cf i b j c u)
theorem okS.addG(h:okS w n m T s)(hu:okG w m u)(hn:u∉s.gs y):okS w n m T (addG s y u):=by
 refine⟨λy' v hv=>?_,λy'=>?_,h.c,h.cn,h.p,h.d,h.l⟩
 ·have hv:v∈(if y'=y then s.gs y'++[u] else s.gs y'):=hv;split at hv
  ·rcases Ut.mp hv with z|z
   ·exact h.g y' v z
   ·rw[Ui.mp z];exact hu
  ·exact h.g y' v hv
 ·show(if y'=y then s.gs y'++[u] else s.gs y').Nodup;split
  ·next e =>subst e;exact RH.mpr ⟨h.gn _,by simp,λa ha b hb z=>hn (by rw[Ui.mp hb]at z;rw[<-z];exact ha)⟩
  ·exact h.gn _
theorem okS.ask(h:okS w n m T s){c:Ct}(hc:okC w n m c):okS w n m T (ask s c):=by
 unfold L3.ask;split
 ·exact h
 ·next hn=>
  refine⟨h.g,h.gn,λx hx=>?_,?_,λx hx=>?_,λx hx=>⟨Ut.mpr (.inl (h.d x hx).1),(h.d x hx).2⟩,?_⟩
  ·rcases Ut.mp hx with z|z
   ·exact h.c x z
   ·rw[Ui.mp z];exact hc
  ·exact RH.mpr ⟨h.cn,by simp,λa ha b hb z=>hn (by rw[Ui.mp hb]at z;rw[<-z];exact ha)⟩
  ·rcases Ut.mp hx with z|z
   ·exact Ut.mpr (.inl (h.p x z))
   ·exact Ut.mpr (.inr z)
  ·have:=h.l;simp only[Uq,Tq];omega
theorem CI{t:MG}{body:MS}{a:Nat}{ds:List D}{e:ME}{σ:S3}{g g1:G}(he:e σ g=.ok (.ref a) g1)(hg:g1[a]?=some (.lst ds))(I:Nat->S3->G->Prop)(h0:I 0 σ g1)(hI:∀i σ g,I i σ g->g[a]?=some (.lst ds))(step:∀i d σ g,ds[i]?=some d->I i σ g->∃σ1 σ2 g2,t d σ=some σ1/\body σ1 g=.nx σ2 g2/\I (i+1) σ2 g2):∃σ' g',YT (QL e) t body σ g=.nx σ' g'/\I ds.length σ' g':=by
 have es:QL e σ g=.ok (nR a ds.length) g1:=by unfold QL;rw[he,Res.bind_ok];show JO (.ref a) g1=_;unfold JO;dsimp only;rw[hg];rfl
 rw[JT es];refine Mi (src:=nR a ds.length) (n:=ds.length) rfl I h0 (λi σ g hi h=>?_) λσ g h=>?_
 ·obtain⟨σ1,σ2,g2,h1,h2,h3⟩:=step i ds[i] σ g (by simp[hi]) h;refine⟨ds[i],σ1,σ2,g2,?_,h1,h2,h3⟩;show(match g[a]? with|some (.lst es)=>some es[i]? | _=>none)=_;rw[hI i σ g h];simp[hi]
 ·show(match g[a]? with|some (.lst es)=>some es[ds.length]? | _=>none)=_;rw[hI _ σ g h];simp
theorem Gv(h:¬(x'=false/\y'=y/\k'=u.dropLast)):Y7 T (addG s y u) x' y' k'=Y7 T s x' y' k':=by
 cases x' with
 |true=>rfl|false=>
  show List.map _ (List.filter _ (if y'=y then s.gs y'++[u] else s.gs y'))=List.map _ (List.filter _ (s.gs y'));split
  ·next e =>rw[RV,BW (by simp;exact λz=>h ⟨rfl,e,z.symm⟩)];simp
  ·rfl
theorem N4  : Y7 T (addG s y u) false y u.dropLast=Y7 T s false y u.dropLast++[QN u]:=by show List.map _ (List.filter _ (if y=y then s.gs y++[u] else s.gs y))=List.map _ (List.filter _ (s.gs y))++_;rw[Uf rfl,RV,WB (by simp),UO];rfl
theorem N5(h:Rp T g0 M g ad s gk)(ok:okS w n m T s)(f:Few w n m)(kb:KB w m gk)(hu:okG w m u)(hn:u∉s.gs y):∃g' ad' gk',Zn [.ref (ad (.G y)),QN u] g=.ok .non g'/\Rp T g0 M g' ad' (addG s y u) gk'/\KB w m gk'/\(∀k0,GL gk k0->ad' k0=ad k0)/\(∀x y k,k∈gk x y->k∈gk' x y):=by
 have h1:=h.push (.lst []);obtain⟨g2,ad',gk',e1,h2,hk,old,gkc⟩:=FB (σ:=[vR (ad (.G y)),vM u]) h1 (o:=Qj [14] "by_seen" (Qa 0)) (e:=ZW (Qa 1) Zw (YQ (Qi JP (mI 1)))) (x:=false) (y:=y) (k:=u.dropLast) (Uk (kb.len h.nd f _ _) (by decide)) (Mo h1 (i:=0) rfl) (by simp only[Yh,ZM,Y2];exact JI u _);have ha:GL gk' (.L false y u.dropLast):=hk;have hget:=h2.at' (.L false y u.dropLast) ha;have h3:=h2.set (s':=addG s y u) ha (λk' hk' hne=>by
  cases k' with
  |L x' y' k'=>exact TY GO.lst (Gv λz=>hne (by rw[z.1,z.2.1,z.2.2]))|_=>rfl) (λy' v hv=>by
   have hv:v∈(if y'=y then s.gs y'++[u] else s.gs y'):=hv;split at hv
   ·next e=>
    rcases Ut.mp hv with z|z
    ·exact h2.kg y' v z
    ·rw[Ui.mp z,e];exact hk
   ·exact h2.kg y' v hv) h2.ka
 have ap:=Jv (σ:=[vR (ad (.G y)),vM u]) (e:=Qa 1) (y:=QN u) e1 hget rfl (Uk (ok.contl f false y u.dropLast) (by decide));rw[<-N4 (T:=T) (s:=s)]at ap;refine⟨_,ad',gk',Yp (σ:=[vR (ad (.G y)),vM u]) rfl ?_,h3,?_,old,?_⟩
 ·show ZZ [vR (ad (.G y)),vM u] g=_;unfold ZZ;refine Vl (g++[.lst []]) ?_ (Zc (d:=.non) ap);have e2:QD 14 "has" QX (Qa 0) (Qb (Qa 1) Qd) [vR (ad (.G y)),vM u] g=.ok (.bl false) (g++[.lst []]):=by rw[QY (n:=ad (.G y)) (g1:=g) (xs:=[QN u]) (g2:=g) rfl (h.atG y) (ED _) rfl,Sx h y u,Uv hn]
  show QR _ [vR (ad (.G y)),vM u] g=_;unfold QR;rw[Qy e2];rfl
 ·rcases gkc with rfl|rfl
  ·exact kb
  ·exact kb.new hu.init
 ·rcases gkc with rfl|rfl
  ·exact λ_ _ _ z=>z
  ·exact λ_ _ _ z=>mem_gkN.mpr (.inl z)
theorem Ln(M S C P A:Nat):(wF M S C P A).lookup (Str.ofString "machine")=vR M:=Oq
theorem HG(M S C P A:Nat):(wF M S C P A).lookup (Str.ofString "sides")=vR S:=by unfold wF;rw[Gs (by decide +kernel)];exact Oq
theorem K0(M S C P A:Nat):(wF M S C P A).lookup (Str.ofString "contexts")=vR C:=by unfold wF;rw[Gs (by decide +kernel),Gs (by decide +kernel)];exact Oq
theorem Lo(M S C P A:Nat):(wF M S C P A).lookup (Str.ofString "pending")=vR P:=by unfold wF;rw[Gs (by decide +kernel),Gs (by decide +kernel),Gs (by decide +kernel)];exact Oq
theorem N6(M S C P A:Nat):(wF M S C P A).lookup (Str.ofString "asking")=vR A:=by unfold wF;rw[Gs (by decide +kernel),Gs (by decide +kernel),Gs (by decide +kernel),Gs (by decide +kernel)];exact Oq
theorem D8(M S C P A:Nat)(h1:(x==Str.ofString "machine")=false)(h2:(x==Str.ofString "sides")=false)(h3:(x==Str.ofString "contexts")=false)(h4:(x==Str.ofString "pending")=false)(h5:(x==Str.ofString "asking")=false):(wF M S C P A).lookup x=none:=by unfold wF;rw[Gs h1,Gs h2,Gs h3,Gs h4,Gs h5];rfl
theorem SA(M S C P A:Nat):(wF M S C P A).lookup (Str.ofString "ask_for")=none:=D8 _ _ _ _ _ (by decide +kernel) (by decide +kernel) (by decide +kernel) (by decide +kernel) (by decide +kernel)
theorem D9(M S C P A:Nat):(wF M S C P A).lookup (Str.ofString "put_gram")=none:=D8 _ _ _ _ _ (by decide +kernel) (by decide +kernel) (by decide +kernel) (by decide +kernel) (by decide +kernel)
theorem aA(M S C P A:Nat):(wF M S C P A).lookup (Str.ofString "went_on")=none:=D8 _ _ _ _ _ (by decide +kernel) (by decide +kernel) (by decide +kernel) (by decide +kernel) (by decide +kernel)
theorem SC(M S C P A:Nat):(wF M S C P A).lookup (Str.ofString "paper")=none:=D8 _ _ _ _ _ (by decide +kernel) (by decide +kernel) (by decide +kernel) (by decide +kernel) (by decide +kernel)
theorem Rp.atW(h:Rp T g0 M g ad s gk):g[ad .W]?=some (.ins 15 (wF M (ad .S) (ad .C) (ad .P) (ad .A))):=h.at' .W trivial
theorem Rp.atC(h:Rp T g0 M g ad s gk):g[ad .C]?=some (.dcn true (s.cs.map λc=>(.inr c,.bl true))):=h.at' .C trivial
theorem Rp.atP(h:Rp T g0 M g ad s gk):g[ad .P]?=some (.lst (s.pd.map Zg)):=h.at' .P trivial
theorem Xw(h:Rp T g0 M g ad s gk)(hv:σ[i]?=some (vR (ad .W))):Qj [15] "contexts" (Qa i) σ g=.ok (.ref (ad .C)) g:=ZS (Zv hv) h.atW (by decide) (K0 ..)
theorem XZ(h:Rp T g0 M g ad s gk)(hv:σ[i]?=some (vR (ad .W))):Qj [15] "pending" (Qa i) σ g=.ok (.ref (ad .P)) g:=ZS (Zv hv) h.atW (by decide) (Lo ..)
theorem X0(h:Rp T g0 M g ad s gk)(hv:σ[i]?=some (vR (ad .W))):Qj [15] "machine" (Qa i) σ g=.ok (.ref M) g:=ZS (Zv hv) h.atW (by decide) (Ln ..)
theorem Gw(h:Rp T g0 M g ad s gk)(hv:σ[i]?=some (vR (ad .W))):Qj [15] "sides" (Qa i) σ g=.ok (.ref (ad .S)) g:=ZS (Zv hv) h.atW (by decide) (HG ..)
theorem HH(h:Rp T g0 M g ad s gk)(hv:σ[i]?=some (vR (ad .W))):Qj [15] "asking" (Qa i) σ g=.ok (.ref (ad .A)) g:=ZS (Zv hv) h.atW (by decide) (N6 ..)
theorem X1:∀{cs:List Ct},YF (cs.map λc=>(Sum.inr c,D.bl true)) (.inr c)=if c∈cs then some (.bl true) else none
 |[]=>rfl|d::cs=>by
  have ih:=X1 (c:=c) (cs:=cs);unfold YF at ih ⊢;rw[UH,Td];by_cases e:d=c
  ·subst e;rw[Us rfl];simp
  ·rw[Uv (λz=>e (Sum.inr.inj z))];dsimp only;rw[ih];simp[Ne.symm e]
theorem EG(h:Rp T g0 M g ad s gk)(ok:okS w n m T s)(f:Few w n m)(c:Ct):∃g',Q1 [.ref (ad .W),Zg c] g=.ok .non g'/\Rp T g0 M g' ad (ask s c) gk/\(∀a,a≠ad .C->a≠ad .P->g'[a]?=g[a]?):=by
 have e0:Qf (Qc ZP (Qa 1) (Qj [15] "contexts" (Qa 0))) [vR (ad .W),some (Zg c)] g=.ok (!(if c∈s.cs then some (D.bl true) else none).isSome) g:=by refine Qy (Qn (x:=Zg c) (y:=.ref (ad .C)) (g1:=g) (g2:=g) rfl (Xw h rfl) ?_);unfold ZP iY;dsimp only;rw[h.atC];dsimp only;rw[N1];dsimp only;rw[X1]
 by_cases hc:c∈s.cs
 ·rw[Uf hc]at e0;refine⟨g,Yp rfl (ZF g e0 rfl),?_,λ_ _ _=>rfl⟩;unfold ask;rw[Uf hc];exact h
 ·rw[Uh hc]at e0;have hne:ad .C≠ad .P:=λz=>by have:=h.inj .C .P trivial trivial z;cases this
  have s1:({s with cs:=s.cs++[c]}:PSt).cs=s.cs++[c]:=rfl;have h1:=h.set (k:=.C) trivial (s':={s with cs:=s.cs++[c]}) (λk' _ hk=>by cases k' with|C=>exact absurd rfl hk|L x y k=>cases x<;>rfl|_=>rfl) h.kg h.ka;have h2:=h1.set (k:=.P) trivial (s':={s with cs:=s.cs++[c],pd:=s.pd++[c]}) (λk' _ hk=>by cases k' with|P=>exact absurd rfl hk|L x y k=>cases x<;>rfl|_=>rfl) h.kg h.ka;refine⟨_,Yp (σ:=[vR (ad .W),some (Zg c)]) rfl ?_,by unfold ask;rw[Uh hc];exact h2,λa a1 a2=>by rw[Ud (Ne.symm a2),Ud (Ne.symm a1)]⟩;show Ye [vR (ad .W),some (Zg c)] g=_;unfold Ye;refine Vl g e0 (Qe [vR (ad .W),some (Zg c)] (g.set (ad .C) (Ll T M ad {s with cs:=s.cs++[c]} gk .C)) ?_ (Zc (d:=.non) ?_))
  ·show XI _ _ _ [vR (ad .W),some (Zg c)] g=_;unfold XI;rw[show Qp (.bl true) [vR (ad .W),some (Zg c)] g=.ok (.bl true) g from rfl];dsimp only;rw[Xw h rfl];dsimp only;rw[show Qa 1 [vR (ad .W),some (Zg c)] g=.ok (Zg c) g from rfl];dsimp only;rw[h.atC];dsimp only;rw[N1];dsimp only;rw[Uf (by rw[Ue];exact Vk (Uk (ok.cl f) (by decide)))];have:Va (s.cs.map λc=>(Sum.inr c,D.bl true)) (.inr c) (.bl true)=(s.cs++[c]).map λc=>(Sum.inr c,D.bl true):=by unfold Va;rw[X1,Uh hc,UO];rfl
   rw[this];rfl
  ·refine(Jv (o:=Qj [15] "pending" (Qa 0)) (e:=Qa 1) (n:=ad .P) (y:=Zg c) (XZ h1 rfl) h1.atP rfl ?_).trans ?_
   ·rw[Ue];have:=ok.l;have:=ok.cl f;show s.pd.length<=1000;omega
   ·rw[show Ll T M ad {s with cs:=s.cs++[c],pd:=s.pd++[c]} gk .P=.lst (s.pd.map Zg++[Zg c]) by show GO.lst _=_;rw[UO];rfl]
def TR(rows:List (List D)):HF:=λp q=>Sr (Mm rows p q)
theorem V9(h:g[t]?=some (.dct (Vz a b))):ZA (.ref t) (.str (wS y)) g=.ok (.ref (if y=true then b else a)) g:=by unfold ZA;dsimp only;rw[h];dsimp only;cases y<;>rfl
theorem Lp(h:Rp T g0 M g ad s gk)(hv:σ[i]?=some (vR (ad .W)))(hj:σ[j]?=some (some (.str (wS y)))):Qc ZA (Qj [15] "sides" (Qa i)) (Qa j) σ g=.ok (.ref (ad (.G y))) g:=by rw[Qn (Gw h hv) (Zv hj) (V9 (h.at' .S trivial))];cases y<;>rfl
theorem HI(h:Rp T g0 M g ad s gk)(hv:σ[i]?=some (vR (ad .W)))(hj:σ[j]?=some (some (.str (wS y)))):Qc ZA (Qj [15] "asking" (Qa i)) (Qa j) σ g=.ok (.ref (ad (.B true y))) g:=by rw[Qn (HH h hv) (Zv hj) (V9 (h.at' .A trivial))];cases y<;>rfl
theorem SD(h:Rp T g0 M g ad s gk)(ha:(a=ad (.L x y k)/\k∈gk x y)\/a=g.length):a≠ad .C/\a≠ad .P:=by
 rcases ha with⟨rfl,hk⟩|rfl
 ·exact⟨λz=>(by have:=h.inj (.L x y k) .C hk trivial z;cases this),λz=>(by have:=h.inj (.L x y k) .P hk trivial z;cases this)⟩
 ·have h1:=h.lt (k:=.C) trivial;have h2:=h.lt (k:=.P) trivial;omega
theorem Ka(ht:Tb rows n m)(h:okC w n m c)(hT:TR rows c.2.1 c.2.2.1≠none):∃i b j,TR rows c.2.1 c.2.2.1=some (i,b,j)/\Mm rows c.2.1 c.2.2.1=Jf i b j/\0<=i/\i<m/\0<=j/\j<n:=by
 obtain⟨r,h1,h2,h3⟩:=ht.at' h.2.1.1 h.2.1.2 h.2.2.1.1 h.2.2.1.2;rcases h3.cases with⟨_,e⟩|⟨i,b,j,e1,e2,e3⟩
 ·exact absurd e hT
 ·exact⟨i,b,j,e2,e1,e3⟩
theorem HJ(h:Rp (TR rows) g0 M g ad s gk)(ok:okS w n m (TR rows) s)(f:Few w n m)(ho:o σ g=.ok (.ref (ad .W)) g)(ha:a σ g=.ok [Zg c] g):∃g',Q6 (QD 15 "ask_for" Q1 o a) σ g=.nx σ g'/\Rp (TR rows) g0 M g' ad (ask s c) gk/\(∀a,a≠ad .C->a≠ad .P->g'[a]?=g[a]?):=by obtain⟨g',e1,h1,k1⟩:=EG h ok f c;exact⟨g',Zc ((QY ho h.atW (SA ..) ha).trans e1),h1,k1⟩
theorem X2(s:PSt)(cs:List Ct)(c:Ct):YO s (cs++[c])=ask (YO s cs) c:=by unfold YO;rw[List.foldl_append];rfl
theorem J8{α:Type}{l:List α}{i:Nat}{x:α}(h:l[i]?=some x):l.take (i+1)=l.take i++[x]:=by obtain⟨hi,e⟩:=Um.mp h;rw[UZ hi,e]
theorem HK(hM:g0[M]?=some (ZR rows))(ht:Tb rows n m)(h:Rp (TR rows) g0 M g ad s gk)(ok:okS w n m (TR rows) s)(f:Few w n m)(kb:KB w m gk)(y:Bool){u:List Int}(hu:okG w m u):∃g' ad' gk',Z1 [.ref (ad .W),.str (wS y),QN u] g=.ok .non g'/\Rp (TR rows) g0 M g' ad' (Zo (TR rows) s y u) gk'/\okS w n m (TR rows) (Zo (TR rows) s y u)/\KB w m gk'/\(∀k0,GL gk k0->ad' k0=ad k0):=by
 have h1:=h.push (.lst []);have e1:Qf (QD 14 "has" QX (Qc ZA (Qj [15] "sides" (Qa 0)) (Qa 1)) (Qb (Qa 2) Qd)) [vR (ad .W),some (.str (wS y)),vM u,none] g=.ok (decide (u∈s.gs y)) (g++[.lst []]):=Qy ((QY (xs:=[QN u]) (g2:=g) (Lp h rfl rfl) (h.atG y) (ED _) rfl).trans (Sx h y u))
 by_cases hn:u∈s.gs y
 ·rw[Us hn]at e1;refine⟨_,ad,gk,Qq rfl (ZC (Vl _ e1 rfl)),?_,?_,kb,λ_ _=>rfl⟩
  ·unfold Zo;rw[Uf hn];exact h1
  ·unfold Zo;rw[Uf hn];exact ok
 ·rw[Uv hn]at e1;obtain⟨g2,ad',gk',e2,h2,kb',old,gks⟩:=N5 h1 ok f kb hu hn;have ok2:=ok.addG hu hn;have oW:ad' .W=ad .W:=old .W trivial;have oG:ad' (.G y)=ad (.G y):=old (.G y) trivial;obtain⟨a,e3,e4,e5⟩:=Sv (σ:=[vR (ad .W),some (.str (wS y)),vM u,none]) h2 (o:=Qc ZA (Qj [15] "asking" (Qa 0)) (Qa 1)) (e:=ZW (Qa 2) Zw (YQ (Qi JP (mI 1)))) (x:=true) (y:=y) (k:=u.dropLast) (HI h2 (by rw[oW];rfl) rfl) (by simp only[Yh,ZM,Y2];exact JI u _);have h3:=h2.push (.lst []);have hne:=SD h2 e5;have hL:∀c∈s.dn.filter (YL (TR rows) y u.dropLast),okC w n m c/\∃i j,TR rows c.2.1 c.2.2.1=some (i,y,j)/\Mm rows c.2.1 c.2.2.1=Jf i y j/\0<=i/\i<m/\0<=j/\j<n:=λc hc=>by obtain⟨c1,c2⟩:=U4.mp hc;have okc:=ok.c c (ok.d c c1).1;obtain⟨i,b,j,q1,q2,q3⟩:=Ka ht okc (ok.d c c1).2;unfold YL at c2;rw[q1]at c2;have:=(UC c2).1;subst this;exact⟨okc,i,j,q1,q2,q3⟩
  obtain⟨σ',g',e6,x3,q1,q2,q3,q4⟩:=CI (t:=Ql 3) (body:=Yv) e3 e4 (λi σ' g'=>∃x3,σ'=[vR (ad .W),some (.str (wS y)),vM u,x3]/\Rp (TR rows) g0 M g' ad' (YO (addG s y u) (((s.dn.filter (YL (TR rows) y u.dropLast)).take i).map λc=>Sz (TR rows) c u)) gk'/\okS w n m (TR rows) (YO (addG s y u) (((s.dn.filter (YL (TR rows) y u.dropLast)).take i).map λc=>Sz (TR rows) c u))/\g'[a]?=some (.lst (Y7 (TR rows) (addG s y u) true y u.dropLast)))
   ⟨none,rfl,h3,ok2,e4⟩ (λi σ' g' hh=>hh.elim λ_ q=>q.2.2.2) (λi d σ' g' hd hh=>by
    obtain⟨x3,q1,q2,q3,q4⟩:=hh;subst q1;have hd:((s.dn.filter (YL (TR rows) y u.dropLast)).map Zg)[i]?=some d:=hd;rw[UL]at hd;obtain⟨c,hc,rfl⟩:=TW.mp hd;obtain⟨okc,ii,jj,t1,t2,t3,t4,t5,t6⟩:=hL c (TN hc);have nx:Sz (TR rows) c u=Cf ii y jj c u:=by unfold Sz;rw[t1]
    have hM':g'[M]?=some (ZR rows):=q2.old.at' M _ (by simp) hM;obtain⟨g3,a1,a2,a3⟩:=HJ (σ:=[vR (ad .W),some (.str (wS y)),vM u,some (Zg c)]) q2 q3 f (c:=Cf ii y jj c u) (o:=Qa 0) (a:=Qb (Qg Q9 (Qb (Qg Yn (Qb (Qj [15] "machine" (Qa 0)) (Qb (Qa 3) Qd))) (Qb (Qa 3) (Qb (Qa 2) Qd)))) Qd) (by rw[oW];rfl)
     (Qh ((Qo (ds:=[Jf ii y jj,Zg c,QN u]) (g':=g') (Qh (g1:=g') ((Qo (ds:=[.ref M,Zg c]) (g':=g') (Qh (g1:=g') (X0 q2 (by rw[oW];rfl)) rfl)).trans (by rw[JJ hM' ht okc,t2])) rfl)).trans (EB ii y jj c u g' f.w1 (Uk f.w3 (by decide)) okc)) rfl)
    rw[<-nx,<-X2]at a2;have e7:((s.dn.filter (YL (TR rows) y u.dropLast)).take i).map (λc=>Sz (TR rows) c u)++[Sz (TR rows) c u]=((s.dn.filter (YL (TR rows) y u.dropLast)).take (i+1)).map λc=>Sz (TR rows) c u:=by rw[J8 hc,UO];rfl
    rw[e7]at a2;have ok3:=q3.ask (okc.nx (b:=y) f.w1 hu t3 t4 t5 t6);rw[<-nx,<-X2,e7]at ok3;exact⟨_,_,g3,rfl,a1,some (Zg c),rfl,a2,ok3,by rw[a3 a hne.1 hne.2];exact q4⟩)
  have fin:(s.dn.filter (YL (TR rows) y u.dropLast)).take (Y7 (TR rows) (addG s y u) true y u.dropLast).length=s.dn.filter (YL (TR rows) y u.dropLast):=Rq (by show _<=(List.map Zg _).length;rw[Ue];exact Ug _);rw[fin]at q2 q3;have pe:Zo (TR rows) s y u=YO (addG s y u) ((s.dn.filter (YL (TR rows) y u.dropLast)).map λc=>Sz (TR rows) c u):=Uh hn;refine⟨g',ad',gk',Yp (σ:=σ') rfl ?_,by rw[pe];exact q2,by rw[pe];exact q3,kb',old⟩;show Z0 [vR (ad .W),some (.str (wS y)),vM u,none] g=_;unfold Z0;refine Qe [vR (ad .W),some (.str (wS y)),vM u,none] (g++[.lst []]) (ZF _ e1 rfl) ?_;refine Qe [vR (ad .W),some (.str (wS y)),vM u,none] g2 (Zc (d:=.non) ((QY (xs:=[QN u]) (g2:=g++[.lst []]) (Lp h1 rfl rfl) (h1.atG y) (Lm _) rfl).trans e2)) e6
theorem okS.pop(h:okS w n m T s):okS w n m T (Jw s):=⟨h.g,h.gn,h.c,h.cn,λc hc=>h.p c (Bc _ hc),h.d,by have:=h.l;show s.dn.length+s.pd.dropLast.length<=s.cs.length;rw[Rb];omega⟩
theorem okS.done{T:HF}(h:okS w n m T s){c:Ct}(hc:c∈s.cs)(hT:T c.2.1 c.2.2.1≠none)(hl:s.dn.length+s.pd.length+1<=s.cs.length):okS w n m T (EF s c):=⟨h.g,h.gn,h.c,h.cn,h.p,λx hx=>by
 rcases Ut.mp hx with z|z
 ·exact h.d x z
 ·rw[Ui.mp z];exact⟨hc,hT⟩,by
 show(s.dn++[c]).length+s.pd.length<=s.cs.length;rw[Uq,Tq];omega⟩
theorem aB(s:PSt)(c:Ct):(ask s c).dn=s.dn/\(ask s c).gs=s.gs/\(ask s c).cs.length+s.pd.length=s.cs.length+(ask s c).pd.length/\(∀x∈s.cs,x∈(ask s c).cs):=by
 unfold ask;split
 ·exact⟨rfl,rfl,rfl,λ_ z=>z⟩
 ·refine⟨rfl,rfl,?_,λx z=>Ut.mpr (.inl z)⟩;show(s.cs++[c]).length+_=_+(s.pd++[c]).length;rw[Uq,Uq];simp only[Tq];omega
theorem J9:∀(cs:List Ct)(s:PSt),(YO s cs).dn=s.dn/\(YO s cs).gs=s.gs/\(YO s cs).cs.length+s.pd.length=s.cs.length+(YO s cs).pd.length/\(∀x∈s.cs,x∈(YO s cs).cs)
 |[],_=>⟨rfl,rfl,rfl,λ_ z=>z⟩|c::cs,s=>by obtain⟨a1,a2,a3,a4⟩:=aB s c;obtain⟨b1,b2,b3,b4⟩:=J9 cs (ask s c);show(YO (ask s c) cs).dn=_/\_;refine⟨b1.trans a1,b2.trans a2,?_,λx z=>b4 x (a4 x z)⟩;show(YO (ask s c) cs).cs.length+_=_+(YO (ask s c) cs).pd.length;omega
theorem Kb(T:HF)(s:PSt)(y:Bool)(u:List Int):(Zo T s y u).dn=s.dn/\(Zo T s y u).cs.length+s.pd.length=s.cs.length+(Zo T s y u).pd.length/\(∀x∈s.cs,x∈(Zo T s y u).cs):=by
 unfold Zo;split
 ·exact⟨rfl,rfl,λ_ z=>z⟩
 ·obtain⟨a1,_,a3,a4⟩:=J9 ((s.dn.filter (YL T y u.dropLast)).map λc=>Sz T c u) (addG s y u);exact⟨a1,a3,a4⟩
theorem Gx(h:¬(x'=true/\YL T y' k' c=true)):Y7 T (EF s c) x' y' k'=Y7 T s x' y' k':=by
 cases x' with
 |false=>rfl|true =>show List.map _ (List.filter _ (s.dn++[c]))=List.map _ (List.filter _ s.dn);rw[RV,BW λz=>h ⟨rfl,z⟩];simp
theorem SE(h:Rp T g0 M g ad s gk)(hp:s.pd=r++[c])(hv:σ[i]?=some (vR (ad .W))):Qi Kp (Qj [15] "pending" (Qa i)) σ g=.ok (Zg c) (g.set (ad .P) (Ll T M ad (Jw s) gk .P)):=by refine Q5 (XZ h hv) ?_;unfold Kp;dsimp only;rw[h.atP];dsimp only;rw[hp];simp only[UO,UH,List.map_nil,Uq,Ue,Tq,Nat.add_sub_cancel];rw[UD (by rw[Ue];exact Ug _),Ue,Nat.sub_self];show Res.ok (Zg c) (g.set (ad .P) (GO.lst (r.map Zg++[Zg c]).dropLast))=_;congr 2;show GO.lst _=GO.lst (List.map Zg s.pd.dropLast);rw[hp];simp
theorem Rp.pop(h:Rp T g0 M g ad s gk):Rp T g0 M (g.set (ad .P) (Ll T M ad (Jw s) gk .P)) ad (Jw s) gk:=h.set (k:=.P) trivial (s':=Jw s) (λk' _ hk=>by cases k' with|P=>exact absurd rfl hk|L x y k=>cases x<;>rfl|_=>rfl) h.kg h.ka
theorem N7(hM:g0[M]?=some (ZR rows))(ht:Tb rows n m)(h:Rp (TR rows) g0 M g ad s gk)(ok:okS w n m (TR rows) s)(hp:s.pd=r++[c])(hT:TR rows c.2.1 c.2.2.1=none):∃g',Q2 [.ref (ad .W)] g=.ok (.bl false) g'/\Keeps [] g0 g':=by
 have hc:c∈s.cs:=ok.p c (by rw[hp];simp);have okc:=ok.c c hc;have h1:=h.pop;obtain⟨_,_,_,h3⟩:=ht.at' okc.2.1.1 okc.2.1.2 okc.2.2.1.1 okc.2.2.1.2;have en:Mm rows c.2.1 c.2.2.1=.non:=by
  rcases h3.cases with⟨e,_⟩|⟨i,b,j,_,e2,_⟩
  ·exact e
  ·exact absurd (hT.symm.trans e2) (λz=>by cases z)
 refine⟨_,Qq rfl ?_,h1.old⟩;show Ze [vR (ad .W),none,none,none,none,none] g=_;unfold Ze;refine Qe [vR (ad .W),some (Zg c),none,none,none,none] _ (Qt (SE h hp rfl)) ?_;refine Qe [vR (ad .W),some (Zg c),some .non,none,none,none] _ (Qt ((Qo (ds:=[.ref M,Zg c]) (Qh (X0 h1 rfl) rfl)).trans (by rw[JJ (h1.old.at' M _ (by simp) hM) ht okc,en]))) ?_;exact ZC (Vl _ (Qy (Qn (x:=.non) (y:=.non) rfl rfl rfl)) rfl)
theorem CJ(hT:T c.2.1 c.2.2.1=some (i,b,j)):YL T y k c=decide (b=y/\(J5 b c).tail=k):=by unfold YL;rw[hT]
theorem N8(hM:g0[M]?=some (ZR rows))(ht:Tb rows n m)(h:Rp (TR rows) g0 M g ad s gk)(ok:okS w n m (TR rows) s)(f:Few w n m)(kb:KB w m gk){c:Ct}{r:List Ct}(hp:s.pd=r++[c]){i j:Int}{b:Bool}(hT:TR rows c.2.1 c.2.2.1=some (i,b,j)):
  ∃g' ad' gk',Q2 [.ref (ad .W)] g=.ok (.bl true) g'/\Rp (TR rows) g0 M g' ad' (Yw (TR rows) s c i b j) gk'/\okS w n m (TR rows) (Yw (TR rows) s c i b j)/\KB w m gk'/\ad' .W=ad .W:=by
 have hc:c∈s.cs:=ok.p c (by rw[hp];simp);have okc:=ok.c c hc;have h1:=h.pop;have ok1:=ok.pop;have hTn:TR rows c.2.1 c.2.2.1≠none:=by rw[hT];exact λz=>by cases z
 obtain⟨i',b',j',t1,t2,t3,t4,t5,t6⟩:=Ka ht okc hTn;rw[hT]at t1;cases t1;have hM1:(g.set (ad .P) (Ll (TR rows) M ad (Jw s) gk .P))[M]?=some (ZR rows):=h1.old.at' M _ (by simp) hM;have oA:=okc.a b
 -- the gram behind
 obtain⟨g2,ad2,gk2,e2,h2,ok2,kb2,old2⟩:=HK hM ht h1 ok1 f kb (!b) (okc.b b);have oW2:ad2 .W=ad .W:=old2 .W trivial;obtain⟨l1,l2,l3⟩:=Kb (TR rows) (Jw s) (!b) (Vy b c)
 -- asking
 obtain⟨g3,ad3,gk3,e3,h3,hk3,old3,gkc⟩:=FB (σ:=[vR (ad .W),some (Zg c),some (Jf i b j),some (.str (wS b)),some (QN (J5 b c).tail),none]) h2 (o:=Qc ZA (Qj [15] "asking" (Qa 0)) (Qa 3)) (e:=Qa 4) (x:=true) (y:=b) (k:=(J5 b c).tail) (Uk (kb2.len h2.nd f _ _) (by decide)) (HI h2 (by rw[oW2];rfl) rfl) rfl;have oW3:ad3 .W=ad .W:=(old3 .W trivial).trans oW2;have kb3:KB w m gk3:=by
  rcases gkc with rfl|rfl
  ·exact kb2
  ·exact kb2.new oA.tail
 have ha3:GL gk3 (.L true b (J5 b c).tail):=hk3;have as1:YL (TR rows) b (J5 b c).tail c=true:=by rw[CJ hT];simp
 have h4:=h3.set ha3 (s':=EF (Zo (TR rows) (Jw s) (!b) (Vy b c)) c) (λk' hk' hne=>by
  cases k' with
  |L x' y' k' =>refine TY GO.lst (Gx λz=>hne ?_);obtain⟨z1,z2⟩:=z;rw[CJ hT]at z2;obtain⟨z3,z4⟩:=UC z2;rw[z1,<-z3,<-z4]|_=>rfl) h3.kg (λy' x k' hx hy=>by
   rcases Ut.mp (show x∈_++[c] from hx) with z|z
   ·exact h3.ka y' x k' z hy
   ·rw[Ui.mp z,CJ hT]at hy;obtain⟨z3,z4⟩:=UC hy;rw[<-z3,<-z4];exact hk3)
 have ap:=Jv (σ:=[vR (ad .W),some (Zg c),some (Jf i b j),some (.str (wS b)),some (QN (J5 b c).tail),none]) (e:=Qa 1) (y:=Zg c) e3 (h3.at' _ ha3) rfl (Uk (ok2.contl f true b _) (by decide));have ce:GO.lst (Y7 (TR rows) (Zo (TR rows) (Jw s) (!b) (Vy b c)) true b (J5 b c).tail++[Zg c])=Ll (TR rows) M ad3 (EF (Zo (TR rows) (Jw s) (!b) (Vy b c)) c) gk3 (.L true b (J5 b c).tail):=by show _=GO.lst (List.map Zg (List.filter _ (_++[c])));rw[RV,WB as1,UO];rfl
 rw[ce]at ap;have ok4:okS w n m (TR rows) (EF (Zo (TR rows) (Jw s) (!b) (Vy b c)) c):=ok2.done (l3 c hc) hTn (by
  rw[l1];have q1:=ok.l;have q2:s.pd.length=s.pd.dropLast.length+1:=by rw[hp];simp
  have q3:(Zo (TR rows) (Jw s) (!b) (Vy b c)).cs.length+s.pd.dropLast.length=s.cs.length+(Zo (TR rows) (Jw s) (!b) (Vy b c)).pd.length:=l2;show s.dn.length+_+1<=_;omega)
 generalize hs3:EF (Zo (TR rows) (Jw s) (!b) (Vy b c)) c=s3 at h4 ok4 ap;generalize hg4:g3.set (ad3 (.L true b (J5 b c).tail)) (Ll (TR rows) M ad3 s3 gk3 (.L true b (J5 b c).tail))=g4 at h4 ap
 -- the grams ahead
 obtain⟨a,e5,e6,e7⟩:=V8 h4 b (J5 b c).tail;have h5:=h4.push (.lst []);have hne:=SD h4 e7;have e8:QD 14 "beginning" QJ (Qc ZA (Qj [15] "sides" (Qa 0)) (Qa 3)) (Qb (Qa 4) Qd) [vR (ad .W),some (Zg c),some (Jf i b j),some (.str (wS b)),some (QN (J5 b c).tail),none] g4=.ok (.ref a) (g4++[.lst []]):=(QY (xs:=[QN (J5 b c).tail]) (g2:=g4) (Lp h4 (by rw[oW3];rfl) rfl) (h4.atG b) (EC _) rfl).trans e5;obtain⟨σ',g',e9,x5,q1,q2,q3,q4⟩:=CI (t:=Ql 5) (body:=YJ) e8 e6 (λk σ' g'=>∃x5,σ'=[vR (ad .W),some (Zg c),some (Jf i b j),some (.str (wS b)),some (QN (J5 b c).tail),x5]/\Rp (TR rows) g0 M g' ad3 (YO s3 (((gF s3 b (J5 b c).tail).take k).map λu=>Cf i b j c u)) gk3/\okS w n m (TR rows) (YO s3 (((gF s3 b (J5 b c).tail).take k).map λu=>Cf i b j c u))/\g'[a]?=some (.lst (Y7 (TR rows) s3 false b (J5 b c).tail)))
  ⟨none,rfl,h5,ok4,e6⟩ (λi σ' g' hh=>hh.elim λ_ q=>q.2.2.2) (λk d σ' g' hd hh=>by
   obtain⟨x5,q1,q2,q3,q4⟩:=hh;subst q1;have hd:((gF s3 b (J5 b c).tail).map QN)[k]?=some d:=hd;rw[UL]at hd;obtain⟨u,hu,rfl⟩:=TW.mp hd;have oku:okG w m u:=ok4.g b u (U4.mp (TN hu)).1;obtain⟨g6,a1,a2,a3⟩:=HJ (σ:=[vR (ad .W),some (Zg c),some (Jf i b j),some (.str (wS b)),some (QN (J5 b c).tail),vM u]) q2 q3 f (c:=Cf i b j c u) (o:=Qa 0) (a:=Qb (Qg Q9 (Qb (Qa 2) (Qb (Qa 1) (Qb (Qa 5) Qd)))) Qd) (by rw[oW3];rfl)
    (Qh ((Qo (ds:=[Jf i b j,Zg c,QN u]) (g':=g') rfl).trans (EB i b j c u g' f.w1 (Uk f.w3 (by decide)) okc)) rfl)
   rw[<-X2]at a2;have e7:(((gF s3 b (J5 b c).tail).take k).map λu=>Cf i b j c u)++[Cf i b j c u]=(((gF s3 b (J5 b c).tail).take (k+1)).map λu=>Cf i b j c u):=by rw[J8 hu,UO];rfl
   rw[e7]at a2;have ok6:=q3.ask (okc.nx (b:=b) f.w1 oku t3 t4 t5 t6);rw[<-X2,e7]at ok6;exact⟨_,_,g6,rfl,a1,vM u,rfl,a2,ok6,by rw[a3 a hne.1 hne.2];exact q4⟩)
 have fin:(gF s3 b (J5 b c).tail).take (Y7 (TR rows) s3 false b (J5 b c).tail).length=gF s3 b (J5 b c).tail:=Rq (by show _<=(List.map QN _).length;rw[Ue];exact Ug _);rw[fin]at q2 q3;have pe:Yw (TR rows) s c i b j=YO s3 ((gF s3 b (J5 b c).tail).map λu=>Cf i b j c u):=by unfold Yw;rw[hs3]
 refine⟨g',ad3,gk3,Qq rfl ?_,by rw[pe];exact q2,by rw[pe];exact q3,kb3,oW3⟩;show Ze [vR (ad .W),none,none,none,none,none] g=_;unfold Ze;refine Qe [vR (ad .W),some (Zg c),none,none,none,none] _ (Qt (SE h hp rfl)) ?_;refine Qe [vR (ad .W),some (Zg c),some (Jf i b j),none,none,none] _ (Qt ((Qo (ds:=[.ref M,Zg c]) (Qh (X0 h1 rfl) rfl)).trans (by rw[JJ hM1 ht okc,t2]))) ?_;refine Qe [vR (ad .W),some (Zg c),some (Jf i b j),none,none,none] _ (ZF _ (Qy (Qn (x:=Jf i b j) (y:=.non) rfl rfl rfl)) rfl) ?_;refine Qe [vR (ad .W),some (Zg c),some (Jf i b j),some (.str (wS b)),none,none] _ (Qt (Qn (x:=Jf i b j) (y:=.int 1) rfl rfl iE)) ?_;refine Qe [vR (ad .W),some (Zg c),some (Jf i b j),some (.str (wS b)),none,none] g2 (Zc (d:=.non) ((QY (xs:=[.str (wS !b),QN (Vy b c)]) rfl h1.atW (D9 ..) (Qh ((Qo (ds:=[.str (wS b)]) rfl).trans (HE b _)) (Qh ((Qo (ds:=[Jf i b j,Zg c]) rfl).trans (KJ i b j c _)) rfl))).trans e2)) ?_;refine Qe [vR (ad .W),some (Zg c),some (Jf i b j),some (.str (wS b)),some (QN (J5 b c).tail),none] g2 (Qt ?_) ?_
 ·simp only[Yh,ZM,Y2];rw[(Qo (ds:=[Jf i b j,Zg c]) (g':=g2) rfl).trans (Ez i b j c g2)];exact Mn _ g2
 refine Qe [vR (ad .W),some (Zg c),some (Jf i b j),some (.str (wS b)),some (QN (J5 b c).tail),none] g4 (Zc (d:=.non) ap) ?_;refine Qe σ' g' e9 ?_;exact QP rfl
theorem Jx{g l:G}{i:Nat}{o:GO}(h:l[i]?=some o):(g++l)[g.length+i]?=some o:=by rw[UD (U5 _ _),Rg];exact h
theorem nX{g l:G}{i:Nat}{o:GO}:(g++l).set (g.length+i) o=g++l.set i o:=by rw[List.set_append_right _ _ (U5 _ _),Rg]
theorem VA  : (g++o::l)[g.length]?=some o:=by simp
theorem HL  : (g++o::l).set g.length u=g++u::l:=by simp
theorem Vm:YI [.ref g.length] (g++[.ins 14 []])=.ok .non (g++[.ins 14 (Y9 (g.length+1)),.dcn false []]):=by
 refine Yp (σ:=[vR g.length]) rfl ?_;show Qw [14] "by_seen" (Qa 0) (Ym false) [vR g.length] (g++[.ins 14 []])=_;unfold Qw Ym;dsimp only;rw[show Qa 0 [some (D.ref g.length)] (g++[GO.ins 14 []]++[GO.dcn false []])=.ok (.ref g.length) (g++[GO.ins 14 []]++[GO.dcn false []]) from rfl];dsimp only;rw[UE,show [GO.ins 14 []]++[GO.dcn false []]=[GO.ins 14 [],.dcn false []] from rfl,VA];dsimp only;rw[Uf ⟨by decide,by decide⟩,HL];have e:(g++[GO.ins 14 []]).length=g.length+1:=by simp
 rw[e];rfl
theorem HM{g:G}{t:Nat}{u:List Int}(ht:g[t]?=some (.lst [QN u])):Zd [.ref t] g=.ok (.ref g.length) (g++[.ins 14 (Y9 (g.length+1)),.dcn false [(.inl u.dropLast,.ref (g.length+3))],.lst [],.lst [QN u]]):=by
 have e1:YC 14 YI Qd [vR t,none,none] g=.ok (.ref g.length) (g++[.ins 14 (Y9 (g.length+1)),.dcn false []]):=by unfold YC;rw[show Qd [some (D.ref t),none,none] g=.ok [] g from rfl,Res.bind_ok,Vm,Res.bind_ok]
 have hl:(g++[GO.ins 14 (Y9 (g.length+1)),.dcn false []]).length=g.length+2:=by simp
 have hl2:(g++[GO.ins 14 (Y9 (g.length+1)),.dcn false [],.lst []]).length=g.length+3:=by simp
 have beg:QJ [.ref g.length,QN u.dropLast] (g++[.ins 14 (Y9 (g.length+1)),.dcn false []])=.ok (.ref (g.length+2)) (g++[.ins 14 (Y9 (g.length+1)),.dcn false [],.lst []]):=by refine Qq rfl (QP ?_);refine(J6 (n:=g.length+1) (τ:=false) (ks:=[]) (y:=QN u.dropLast) (z:=.ref (g.length+2)) (kk:=.inl u.dropLast) (g1:=g++[.ins 14 (Y9 (g.length+1)),.dcn false [],.lst []]) (ZS (n:=g.length) rfl VA (by decide) Oq) (Jx rfl) rfl ?_ (Jx rfl) (Ce _)).trans rfl;rw[XU];simp[Y9]
 have has:QX [.ref g.length,QN u] (g++[.ins 14 (Y9 (g.length+1)),.dcn false []])=.ok (.bl false) (g++[.ins 14 (Y9 (g.length+1)),.dcn false [],.lst []]):=by
  refine Qq rfl (QP (Qn (x:=QN u) (y:=.ref (g.length+2)) rfl ((QY (n:=g.length) (xs:=[QN u.dropLast]) rfl VA (EC _) ?_).trans beg) ?_))
  ·simp only[CG,Yh,ZM,Y2,Ey];exact TY (λr=>match r with|Res.ok x g1=>Res.ok [x] g1 | .stuck=>.stuck) (JI u _)
  ·unfold IX;rw[Ce];dsimp only;rw[show g.length+2=g.length+2 from rfl,Jx (i:=2) rfl];dsimp only;rw[show Jd false []=some [] from CH []];rfl
 have put:Zn [.ref g.length,QN u] (g++[.ins 14 (Y9 (g.length+1)),.dcn false []])=.ok .non (g++[.ins 14 (Y9 (g.length+1)),.dcn false [(.inl u.dropLast,.ref (g.length+3))],.lst [],.lst [QN u]]):=by
  refine Yp (σ:=[vR g.length,vM u]) rfl ?_;show ZZ [vR g.length,vM u] _=_;unfold ZZ;refine Vl (g++[.ins 14 (Y9 (g.length+1)),.dcn false [],.lst []]) ?_ (Zc (d:=.non) ?_)
  ·unfold QR;rw[Qy (b:=false) ((QY (n:=g.length) (xs:=[QN u]) rfl VA (ED _) rfl).trans has)];rfl
  ·have sd:Y4 (Qj [14] "by_seen" (Qa 0)) (ZW (Qa 1) Zw (YQ (Qi JP (mI 1)))) (QQ ZD Qd) [vR g.length,vM u] (g++[.ins 14 (Y9 (g.length+1)),.dcn false [],.lst []])=.ok (.ref (g.length+3)) (g++[.ins 14 (Y9 (g.length+1)),.dcn false [(.inl u.dropLast,.ref (g.length+3))],.lst [],.lst []]):=by
    refine(J6 (n:=g.length+1) (τ:=false) (ks:=[]) (y:=QN u.dropLast) (z:=.ref (g.length+3)) (kk:=.inl u.dropLast) (g1:=g++[.ins 14 (Y9 (g.length+1)),.dcn false [],.lst [],.lst []]) (ZS (n:=g.length) rfl VA (by decide) Oq) (Jx rfl) ?_ ?_ (Jx rfl) (Ce _)).trans ?_
    ·simp only[Yh,ZM,Y2];exact JI u _
    ·rw[XU];simp[Y9]
    ·show Res.ok _ ((g++_).set (g.length+1) _)=_;rw[nX];rfl
   rw[Jv (n:=g.length+3) (ds:=[]) (y:=QN u) sd (Jx rfl) rfl (by decide),nX];rfl
 refine Qq rfl ?_;show Js [vR t,none,none] g=_;unfold Js;refine Qe [vR t,vR g.length,none] _ (Qt e1) ?_;have ht':(g++[GO.ins 14 (Y9 (g.length+1)),.dcn false []])[t]?=some (.lst [QN u]):=by rw[Ul (QB ht)];exact ht
 obtain⟨σ',g',e2,q⟩:=CI (t:=Ql 2) (body:=JS) (e:=Qa 0) (σ:=[vR t,vR g.length,none]) (g:=g++[GO.ins 14 (Y9 (g.length+1)),.dcn false []]) rfl ht' (λi σ' g'=>(i=0/\σ'=[vR t,vR g.length,none]/\g'=g++[.ins 14 (Y9 (g.length+1)),.dcn false []])\/(i=1/\σ'=[vR t,vR g.length,vM u]/\g'=g++[.ins 14 (Y9 (g.length+1)),.dcn false [(.inl u.dropLast,.ref (g.length+3))],.lst [],.lst [QN u]]))
  (.inl ⟨rfl,rfl,rfl⟩) (λi σ' g' hh=>by
   rcases hh with⟨_,_,rfl⟩|⟨_,_,rfl⟩
   ·exact ht'
   ·rw[Ul (QB ht)];exact ht) (λi d σ' g' hd hh=>by
   rcases hh with⟨rfl,rfl,rfl⟩|⟨rfl,_,_⟩
   ·cases hd;exact⟨_,_,_,rfl,Zc ((QY (n:=g.length) (xs:=[QN u]) rfl VA (Lm _) rfl).trans put),.inr ⟨rfl,rfl,rfl⟩⟩
   ·cases hd)
 rcases q with⟨q,_⟩|⟨_,rfl,rfl⟩
 ·cases q
 ·exact Qe _ _ e2 (QP rfl)
theorem HN:Qp (.str "l") σ g=.ok (.str (wS false)) g:=by rw[rM];rfl
theorem HQ:Qp (.str "r") σ g=.ok (.str (wS true)) g:=by rw[bM];rfl
theorem Mp(a b:Nat):DL [] [(wS false,D.ref a),(wS true,.ref b)]=Vz a b:=rfl
theorem HR(a b:Nat)(l:G):Fx g.length [D.str (wS false),.ref a,.str (wS true),.ref b] (g++GO.dct []::l)=.ok (.ref g.length) (g++GO.dct (Vz a b)::l):=by unfold Fx;have e:Vs [D.str (wS false),.ref a,.str (wS true),.ref b]=some [(wS false,.ref a),(wS true,.ref b)]:=rfl;rw[e,VA];show(if [(wS false,D.ref a),(wS true,.ref b)].length<=15 then _ else _)=_;rw[Uf (by show 2<=15;decide),Mp,HL]
theorem SF(h3:σ[3]?=some (vM b)):JQ (Qb (Qp (.str "l")) (Qb (Qg Zd (Qb (QQ ZD (Qb (Qa 3) Qd)) Qd)) (Qb (Qp (.str "r")) (Qb (Qg Zd (Qb (QQ ZD (Qb (Qa 3) Qd)) Qd)) Qd)))) σ g =
  .ok (.ref g.length) (g++[.dct (Vz (g.length+2) (g.length+7)),.lst [QN b],.ins 14 (Y9 (g.length+3)),.dcn false [(.inl b.dropLast,.ref (g.length+5))],.lst [],.lst [QN b],.lst [QN b],.ins 14 (Y9 (g.length+8)),.dcn false [(.inl b.dropLast,.ref (g.length+10))],.lst [],.lst [QN b]]):=by
 have one:∀(l:G),Qg Zd (Qb (QQ ZD (Qb (Qa 3) Qd)) Qd) σ (g++l)=.ok (.ref (g.length+l.length+1)) (g++(l++[.lst [QN b],.ins 14 (Y9 (g.length+l.length+2)),.dcn false [(.inl b.dropLast,.ref (g.length+l.length+4))],.lst [],.lst [QN b]])):=λl=>by
  have e:Qb (QQ ZD (Qb (Qa 3) Qd)) Qd σ (g++l)=.ok [.ref (g.length+l.length)] (g++l++[.lst [QN b]]):=by simp only[CG,Xv,iB,Ey,h3];rw[show ZD [QN b] (g++l)=.ok (.ref (g++l).length) (g++l++[.lst [QN b]]) from Uf (by show 1<=_;decide),Uq]
  have hl:(g++l++[GO.lst [QN b]]).length=g.length+l.length+1:=by simp[Wc]
  rw[Qo e,HM (u:=b) (by rw[show g.length+l.length=(g++l).length by simp];exact QM _),hl];simp
 have a1:=one [.dct []];have a2:=one ([.dct []]++[.lst [QN b],.ins 14 (Y9 (g.length+1+2)),.dcn false [(.inl b.dropLast,.ref (g.length+1+4))],.lst [],.lst [QN b]]);unfold JQ;rw[Qh HN (Qh a1 (Qh HQ (Qh a2 rfl))),Res.bind_ok];exact HR (g.length+2) (g.length+7) [.lst [QN b],.ins 14 (Y9 (g.length+3)),.dcn false [(.inl b.dropLast,.ref (g.length+5))],.lst [],.lst [QN b],.lst [QN b],.ins 14 (Y9 (g.length+8)),.dcn false [(.inl b.dropLast,.ref (g.length+10))],.lst [],.lst [QN b]]
theorem N9:JQ (Qb (Qp (.str "l")) (Qb (Ym false) (Qb (Qp (.str "r")) (Qb (Ym false) Qd)))) σ g=.ok (.ref g.length) (g++[.dct (Vz (g.length+1) (g.length+2)),.dcn false [],.dcn false []]):=by
 have one:∀(l:G),Ym false σ (g++l)=.ok (.ref (g.length+l.length)) (g++(l++[.dcn false []])):=λl=>by unfold Ym;simp
 unfold JQ;rw[Qh HN (Qh (one [.dct []]) (Qh HQ (Qh (one [.dct [],.dcn false []]) rfl))),Res.bind_ok];exact HR (g.length+1) (g.length+2) [.dcn false [],.dcn false []]
theorem setattr_ok(h0:σ[0]?=some (vR n))(hv:v σ g=.ok y g1)(h:g1[n]?=some (.ins 15 fs))(hl:fs.length<100):Qw [15] f (Qa 0) v σ g=.nx σ (g1.set n (.ins 15 (BQ f y fs))):=by unfold Qw;rw[hv];dsimp only;rw[Zv h0];dsimp only;rw[h];dsimp only;rw[Uf ⟨by decide,hl⟩]
theorem Vn(h:x≠f):BQ f v ((x,y)::r)=(x,y)::BQ f v r:=Uh h
def Oa(b:List Int):PSt:=⟨λ_=>[b],[],[],[]⟩
def Lq(b:List Int):GK:=λx _=>if x=true then [] else [b.dropLast]
def Cg(N:Nat):Ky->Nat
 |.W=>N | .S=>N+1 | .A=>N+14 | .C=>N+12 | .P=>N+13|.G y=>if y=true then N+8 else N+3
 |.B x y=>if x=true then (if y=true then N+16 else N+15) else (if y=true then N+9 else N+4)
 |.L _ y _=>if y=true then N+11 else N+6
def nY(N M:Nat)(b:List Int):G:=[.ins 15 (wF M (N+1) (N+12) (N+13) (N+14)),.dct (Vz (N+3) (N+8)),.lst [QN b],.ins 14 (Y9 (N+4)),.dcn false [(.inl b.dropLast,.ref (N+6))],.lst [],.lst [QN b],.lst [QN b],.ins 14 (Y9 (N+9)),.dcn false [(.inl b.dropLast,.ref (N+11))],.lst [],.lst [QN b],.dcn true [],.lst [],.dct (Vz (N+15) (N+16)),.dcn false [],.dcn false []]
def sD(b:List Int):Nat->Ky
 |1=>.S|14=>.A|12=>.C|13=>.P|3=>.G false|8=>.G true|4=>.B false false|9=>.B false true|15=>.B true false|16=>.B true true|6=>.L false false b.dropLast|11=>.L false true b.dropLast|_=>.W
theorem Mq(h:GL (Lq b) k):sD b (Cg 0 k)=k:=by
 cases k with
 |L x y k=>
  cases x
  ·have hk:k=b.dropLast:=Ui.mp h;subst hk;cases y<;>rfl
  ·exact absurd h (by show ¬k∈[];simp)
 |G y=>cases y<;>rfl|B x y=>cases x<;>cases y<;>rfl|_=>rfl
theorem Mr(N:Nat)(k:Ky):Cg N k=N+Cg 0 k:=by
 cases k with
 |L x y k=>cases y<;>simp[Cg]|G y=>cases y<;>simp[Cg]|B x y=>cases x<;>cases y<;>simp[Cg]|_=>simp[Cg]
theorem SG(T:HF)(g0:G)(M:Nat)(b:List Int):Rp T g0 M (g0++nY g0.length M b) (Cg g0.length) (Oa b) (Lq b):=by
 refine⟨⟨by simp,λn o _ e=>by rw[Ul (QB e)];exact e⟩,λk ha=>?_,λk ha=>?_,λk k' ha ha' e=>?_,λx y=>?_,λy u hu=>?_,λy c k hc=>by cases hc⟩
 ·cases k with
  |W=>exact Jx (i:=0) rfl|S=>exact Jx (i:=1) rfl|A=>exact Jx (i:=14) rfl|C=>exact Jx (i:=12) rfl|P=>exact Jx (i:=13) rfl|G y=>
   cases y
   ·exact Jx (i:=3) rfl
   ·exact Jx (i:=8) rfl
  |B x y=>
   cases x<;>cases y
   ·exact Jx (i:=4) rfl
   ·exact Jx (i:=9) rfl
   ·exact Jx (i:=15) rfl
   ·exact Jx (i:=16) rfl
  |L x y k=>
   cases x
   ·have hk:k=b.dropLast:=Ui.mp ha;subst hk;have e:Ll T M (Cg g0.length) (Oa b) (Lq b) (.L false y b.dropLast)=.lst [QN b]:=by show GO.lst (List.map QN (List.filter _ [b]))=_;rw[WB (by simp)];rfl
    rw[e];cases y
    ·exact Jx (i:=6) rfl
    ·exact Jx (i:=11) rfl
   ·exact absurd ha (by show ¬k∈[];simp)
 ·cases k with
  |G y=>cases y<;>exact U5 _ _|B x y=>cases x<;>cases y<;>exact U5 _ _|L x y k=>cases y<;>exact U5 _ _|W=>exact Ug _|_=>exact U5 _ _
 ·rw[Mr,Mr _ k']at e;rw[<-Mq ha,<-Mq ha',Nat.add_left_cancel e]
 ·unfold Lq;cases x<;>simp
 ·rw[Ui.mp (show u∈[b] from hu)];exact Ui.mpr rfl
def Yq(w:Nat):List Int:=List.replicate w 0
def Lr(w:Nat):Ct:=(Yq w,0,0,Yq w)
theorem Gy(hm:1<=m):okG w m (Yq w):=⟨by simp[Yq],λx hx=>by rw[List.eq_of_mem_replicate hx];omega⟩
section
variable{w n m:Nat}{T:HF}
theorem iF(f:Few w n m):okC w n m (Lr w):=⟨Gy (by have:=f.m2;omega),⟨Tw 0,by have:=f.n1;show(0:Int)<n;omega⟩,⟨Tw 0,by have:=f.m2;show(0:Int)<m;omega⟩,Gy (by have:=f.m2;omega)⟩
theorem SH(f:Few w n m):okS w n m T (Oa (Yq w)):=⟨λy u hu=>(by rw[Ui.mp (show u∈[Yq w] from hu)];exact Gy (by have:=f.m2;omega)),λy=>(by show [Yq w].Nodup;simp),λc hc=>(by cases hc),.nil,λc hc=>(by cases hc),λc hc=>(by cases hc),Ug _⟩
theorem iG(f:Few w n m):KB w m (Lq (Yq w)):=λx y k hk=>by
 cases x
 ·rw[Ui.mp (show k∈[(Yq w).dropLast] from hk)];exact(Gy (by have:=f.m2;omega)).init
 ·exact absurd (show k∈[] from hk) (by simp)
theorem Ms(g:G)(h1:1<=w)(h2:w<=100):Hl (.tup [.int 0]) (.int w) g=.ok (QN (Yq w)) g:=by show(if 1<=(w:Int)/\(w:Int)<=1000 then Res.ok (D.tup (List.replicate (w:Int).toNat (.int 0))) g else .stuck)=_;rw[Uf ⟨by omega,by omega⟩];show Res.ok (D.tup (List.replicate w (.int 0))) g=Res.ok (D.tup ((List.replicate w 0).map .int)) g;rw[List.map_replicate]
theorem SI(f:Few w n m):∃g',Ya [.ref g0.length,.ref M,.int w] (g0++[.ins 15 []])=.ok .non g'/\Rp T g0 M g' (Cg g0.length) (ask (Oa (Yq w)) (Lr w)) (Lq (Yq w)):=by
 obtain⟨g',e1,h1,_⟩:=EG (SG T g0 M (Yq w)) (SH f) f (Lr w);refine⟨g',Yp (σ:=[vR g0.length,vR M,vI w,vM (Yq w)]) rfl ?_,h1⟩;show YV [vR g0.length,vR M,vI w,none] (g0++[.ins 15 []])=_;unfold YV;refine Qe [vR g0.length,vR M,vI w,vM (Yq w)] (g0++[.ins 15 []]) (Qt (Qn (x:=.tup [.int 0]) (y:=.int w) (by simp) rfl (Ms _ f.w1 (Uk f.w3 (by decide))))) ?_;refine Qe [vR g0.length,vR M,vI w,vM (Yq w)] (g0++[.ins 15 [("machine",.ref M)]]) ((setattr_ok (y:=.ref M) (fs:=[]) rfl rfl VA (by decide)).trans (by rw[HL];rfl)) ?_;have hl:(g0++[GO.ins 15 [("machine",D.ref M)]]).length=g0.length+1:=by simp
 refine Qe [vR g0.length,vR M,vI w,vM (Yq w)] (g0++[.ins 15 [("machine",.ref M),("sides",.ref (g0.length+1))],.dct (Vz (g0.length+3) (g0.length+8)),.lst [QN (Yq w)],.ins 14 (Y9 (g0.length+4)),.dcn false [(.inl (Yq w).dropLast,.ref (g0.length+6))],.lst [],.lst [QN (Yq w)],.lst [QN (Yq w)],.ins 14 (Y9 (g0.length+9)),.dcn false [(.inl (Yq w).dropLast,.ref (g0.length+11))],.lst [],.lst [QN (Yq w)]]) ?_ ?_
 ·refine(setattr_ok (n:=g0.length) (fs:=[("machine",.ref M)]) rfl (SF (b:=Yq w) rfl) ?_ (by show 1<100;decide)).trans ?_
  ·rw[UE];exact VA
  ·rw[UE,hl];show Out.nx _ ((g0++_::_).set g0.length _)=_;rw[HL,Vn (by decide +kernel)];rfl
 have hl2:∀l:G,(g0++l).length=g0.length+l.length:=λl=>by simp
 refine Qe [vR g0.length,vR M,vI w,vM (Yq w)] (g0++[.ins 15 [("machine",.ref M),("sides",.ref (g0.length+1)),("contexts",.ref (g0.length+12))],.dct (Vz (g0.length+3) (g0.length+8)),.lst [QN (Yq w)],.ins 14 (Y9 (g0.length+4)),.dcn false [(.inl (Yq w).dropLast,.ref (g0.length+6))],.lst [],.lst [QN (Yq w)],.lst [QN (Yq w)],.ins 14 (Y9 (g0.length+9)),.dcn false [(.inl (Yq w).dropLast,.ref (g0.length+11))],.lst [],.lst [QN (Yq w)],.dcn true []]) ?_ ?_
 ·refine(setattr_ok (n:=g0.length) (fs:=[("machine",.ref M),("sides",.ref (g0.length+1))]) rfl rfl ?_ (by show 2<100;decide)).trans ?_
  ·rw[UE];exact VA
  ·rw[hl2,UE];show Out.nx _ ((g0++_::_).set g0.length _)=_;rw[HL,Vn (by decide +kernel),Vn (by decide +kernel)];rfl
 refine Qe [vR g0.length,vR M,vI w,vM (Yq w)] (g0++[.ins 15 [("machine",.ref M),("sides",.ref (g0.length+1)),("contexts",.ref (g0.length+12)),("pending",.ref (g0.length+13))],.dct (Vz (g0.length+3) (g0.length+8)),.lst [QN (Yq w)],.ins 14 (Y9 (g0.length+4)),.dcn false [(.inl (Yq w).dropLast,.ref (g0.length+6))],.lst [],.lst [QN (Yq w)],.lst [QN (Yq w)],.ins 14 (Y9 (g0.length+9)),.dcn false [(.inl (Yq w).dropLast,.ref (g0.length+11))],.lst [],.lst [QN (Yq w)],.dcn true [],.lst []]) ?_ ?_
 ·refine(setattr_ok (n:=g0.length) (fs:=[("machine",.ref M),("sides",.ref (g0.length+1)),("contexts",.ref (g0.length+12))]) rfl XU ?_ (by show 3<100;decide)).trans ?_
  ·rw[UE];exact VA
  ·rw[hl2,UE];show Out.nx _ ((g0++_::_).set g0.length _)=_;rw[HL,Vn (by decide +kernel),Vn (by decide +kernel),Vn (by decide +kernel)];rfl
 refine Qe [vR g0.length,vR M,vI w,vM (Yq w)] (g0++nY g0.length M (Yq w)) ?_ ?_
 ·refine(setattr_ok (n:=g0.length) (fs:=[("machine",.ref M),("sides",.ref (g0.length+1)),("contexts",.ref (g0.length+12)),("pending",.ref (g0.length+13))]) rfl N9 ?_ (by show 4<100;decide)).trans ?_
  ·rw[UE];exact VA
  ·rw[hl2,UE];show Out.nx _ ((g0++_::_).set g0.length _)=_;rw[HL,Vn (by decide +kernel),Vn (by decide +kernel),Vn (by decide +kernel),Vn (by decide +kernel)];rfl
 refine Zc (d:=.non) ((QY (n:=g0.length) (xs:=[Zg (Lr w)]) rfl (SG T g0 M (Yq w)).atW (SA ..) ?_).trans e1);refine Qh (x:=Zg (Lr w)) ?_ rfl;simp[Zg,Lr]
theorem SJ(f:Few w n m)(ha:a σ g0=.ok [.ref M,.int w] g0):∃g',YC 15 Ya a σ g0=.ok (.ref g0.length) g'/\Rp T g0 M g' (Cg g0.length) (ask (Oa (Yq w)) (Lr w)) (Lq (Yq w)):=by obtain⟨g',e1,h1⟩:=SI (T:=T) (g0:=g0) (M:=M) f;refine⟨g',?_,h1⟩;unfold YC;rw[ha,Res.bind_ok,e1,Res.bind_ok]
end
def iH(ks:List Ja):GO:=.lst ((sortK ks).map kD)
theorem nZ(hw:1<=w)(h:okG w m u):okK (.inl u)=true:=by
 cases u with
 |nil=>have:=h.1;simp at this;omega|cons _ _=>rfl
theorem Mt(h1:ks.length<=900)(h2:ks.Nodup)(h3:∀k∈ks,okK k=true):Hk ks g=.ok (.ref g.length) (g++[iH ks]):=Uf ⟨by omega,h2,US.mpr h3⟩
theorem Ob{us:List (List Int)}(h:us.Nodup):(us.map (Sum.inl:List Int->Ja)).Nodup:=BK.mpr (h.imp λh z=>h (Sum.inl.inj z))
theorem Oc{cs:List Ct}(h:cs.Nodup):(cs.map (Sum.inr:Ct->Ja)).Nodup:=BK.mpr (h.imp λh z=>h (Sum.inr.inj z))
theorem K8{g:G}{Gr B:Nat}{ks:List (List Int)}{adr:List Int->Nat}{cont:List Int->List (List Int)}{w m:Nat}(hw:1<=w)(hG:g[Gr]?=some (.ins 14 (Y9 B)))(hB:g[B]?=some (.dcn false (ks.map λk=>(.inl k,.ref (adr k)))))(hL:∀k∈ks,g[adr k]?=some (.lst ((cont k).map QN)))(hz:(ks.flatMap cont).length<=60)(hn:(ks.flatMap cont).Nodup)(ho:∀u∈ks.flatMap cont,okG w m u):∃a g',Yb [.ref Gr] g=.ok (.ref a) g'/\g'[a]?=some (iH ((ks.flatMap cont).map .inl))/\g.length<=a/\(∀n,n≠B->n<g.length->g'[n]?=g[n]?):=by
 have lB:=QB hB
 let g1:G:=g++[.lst []]
 let g2:G:=g1.set B (.dcf false (ks.map λk=>(.inl k,.ref (adr k))))
 have e1:P2 (Qj [14] "by_seen" (Qa 0)) [vR Gr,vR g.length,none] g1=.ok ⟨λ_ i=>some (ks.map λk=>D.ref (adr k))[i]?,(ks.map λk=>D.ref (adr k)).length⟩ g2:=by unfold P2 Fw;rw[ZS (n:=Gr) (d:=.ref B) rfl (by show g1[Gr]?=_;rw[Ul (QB hG)];exact hG) (by decide) Oq,Res.bind_ok];unfold Hq;dsimp only;rw[show g1[B]?=some (.dcn false (ks.map λk=>(.inl k,.ref (adr k)))) by rw[Ul lB];exact hB];dsimp only;rw[Te,Ue,Ue];rfl
 obtain⟨σ',g',e2,x2,q1,q2,q3,q4⟩:=NT (t:=Ql 2) (body:=Je) (ds:=ks.map λk=>D.ref (adr k)) (σ:=[vR Gr,vR g.length,none]) (g:=g2) (λi σ' g'=>∃x2,σ'=[vR Gr,vR g.length,x2]/\g'[g.length]?=some (.lst (((ks.take i).flatMap cont).map QN))/\(∀n,n≠B->n<g.length->g'[n]?=g[n]?)/\g'.length=g.length+1)
  ⟨none,rfl,by show(g1.set B _)[g.length]?=_;rw[Ud (by omega)];exact QM _,λn hn hl=>by show(g1.set B _)[n]?=_;rw[Ud (Ne.symm hn),Ul hl],by show(g1.set B _).length=_;rw[UQ];show(g++[GO.lst []]).length=_;simp⟩ (λi d σ' g' hd hh=>by
   obtain⟨x2,q1,q2,q3,q4⟩:=hh;subst q1;rw[UL]at hd;obtain⟨k,hk,rfl⟩:=TW.mp hd;have hk':=hL k (TN hk);have lk:=QB hk';have nB:adr k≠B:=λz=>by rw[z,hB]at hk';cases hk'
   have tl:(ks.take (i+1)).flatMap cont=(ks.take i).flatMap cont++cont k:=by rw[J8 hk,List.flatMap_append];simp
   have len:((ks.take (i+1)).flatMap cont).length<=60:=by
    refine Uk ?_ hz
    conv=>rhs;rw[<-TJ (i+1) ks,List.flatMap_append]
    rw[Uq];exact U5 _ _
   refine⟨_,[vR Gr,vR g.length,vR (adr k)],g'.set g.length (.lst (((ks.take (i+1)).flatMap cont).map QN)),rfl,Zc (d:=.non) ?_,vR (adr k),rfl,Zb q2,λn hn hl=>by rw[Ud (by omega)];exact q3 n hn hl,by rw[UQ];exact q4⟩;show CB (Qa 1) (Qa 2) [vR Gr,vR g.length,vR (adr k)] g'=_;unfold CB;rw[show Qa 1 [some (D.ref Gr),vR g.length,vR (adr k)] g'=.ok (.ref g.length) g' from rfl,Res.bind_ok];dsimp only;rw[q2];dsimp only;rw[show Qa 2 [some (D.ref Gr),vR g.length,vR (adr k)] g'=.ok (.ref (adr k)) g' from rfl,Res.bind_ok];dsimp only;rw[q2,q3 _ nB lk,hk'];dsimp only;rw[Uf ⟨by omega,by rw[tl,Uq]at len;rw[Ue,Ue];exact Uk len (by decide)⟩,tl,UO])
 have fin:ks.take (ks.map λk=>D.ref (adr k)).length=ks:=by rw[Ue];exact T8
 rw[fin]at q2;subst q1;refine⟨g'.length,g'++[iH ((ks.flatMap cont).map .inl)],Qq rfl ?_,QM _,by omega,λn hn hl=>by rw[Ul (by omega)];exact q3 n hn hl⟩;show YW [vR Gr,none,none] g=_;unfold YW;refine Qe [vR Gr,vR g.length,none] g1 (Qt XU) ?_;refine Qe _ g' ((JT e1).trans e2) (QP (Q5 (x:=.ref g.length) rfl ?_));unfold V1;dsimp only;rw[q2];dsimp only;rw[CH];dsimp only;exact Mt (by rw[Ue];omega) (Ob hn) λk hk=>by obtain⟨u,hu,rfl⟩:=UR.mp hk;exact nZ hw (ho u hu)
theorem Gz(h:Rp T g0 M g ad s gk)(y:Bool)(u:List Int):u∈(gk false y).flatMap (gF s y)↔u∈s.gs y:=by
 rw[RQ];constructor
 ·rintro ⟨k,_,hu⟩;exact(U4.mp hu).1
 ·intro hu;exact⟨u.dropLast,h.kg y u hu,U4.mpr ⟨hu,by simp⟩⟩
theorem KL(h:Rp T g0 M g ad s gk)(ok:okS w n m T s)(y:Bool):((gk false y).flatMap (gF s y)).Nodup:=by
 have nd:=h.nd false y;generalize gk false y=ks at nd;induction ks with
 |nil=>exact .nil|cons k ks ih =>have nd':=RB.mp nd;rw[List.flatMap_cons];refine RH.mpr ⟨(ok.gn y).filter _,ih nd'.2,λa ha b hb z=>?_⟩;subst z;obtain⟨k',hk',hb'⟩:=RQ.mp hb;have e1:=UC (U4.mp ha).2;have e2:=UC (U4.mp hb').2;exact nd'.1 (by rw[<-e1,e2];exact hk')
theorem SL{f:α->β}:∀{l:List β},(∀x∈l,∃u,x=f u)->∃vs:List α,l=vs.map f
 |[],_=>⟨[],rfl⟩|x::l,h=>by obtain⟨u,rfl⟩:=h x (Uy ..);obtain⟨vs,rfl⟩:=SL (l:=l) λx hx=>h x (Uz _ hx);exact⟨u::vs,rfl⟩
theorem srt_of{f:α->Ja}{F:α->D}(hf:∀a b,f a=f b->a=b)(hF:∀a,kD (f a)=F a)(us:List α):∃vs:List α,iH (us.map f)=.lst (vs.map F)/\(∀u,u∈vs↔u∈us)/\vs.length=us.length:=by
 have hp:=sortK_perm (us.map f);obtain⟨vs,e⟩:=SL (f:=f) (l:=sortK (us.map f)) λx hx=>by obtain⟨u,_,rfl⟩:=UR.mp (hp.mem_iff.mp hx);exact⟨u,rfl⟩
 rw[e]at hp;refine⟨vs,by unfold iH;rw[e,Te,show kD∘f=F from funext hF],λu=>?_,by have:=hp.length_eq;simpa using this⟩;have:=hp.mem_iff (a:=f u);rw[UR,UR]at this;exact⟨λh=>(by obtain⟨v,hv,e⟩:=this.mp ⟨u,h,rfl⟩;rw[<-hf _ _ e];exact hv),λh=>(by obtain⟨v,hv,e⟩:=this.mpr ⟨u,h,rfl⟩;rw[<-hf _ _ e];exact hv)⟩
abbrev QO(w:Int)(a b c:D):D:=.tup [.str "wall",.int w,a,b,c]
def Wl(g:G)(w:Nat)(d:D)(us vs:List (List Int))(cs:List Ct):Prop:=∃a b c,d=QO w (.ref a) (.ref b) (.ref c)/\g[a]?=some (.lst (us.map QN))/\g[b]?=some (.lst (vs.map QN))/\g[c]?=some (.lst (cs.map Zg))
structure okP(w n m:Nat)(us vs:List (List Int))(cs:List Ct):Prop where
 u:∀u∈us,okG w m u
 v:∀u∈vs,okG w m u
 c:∀c∈cs,okC w n m c
 lu:us.length<=500
 lv:vs.length<=500
 lc:cs.length<=500
theorem SM(h:Rp T g0 M g ad s gk)(ok:okS w n m T s)(f:Few w n m)(hc:s.cs.length<=120):∃d g' us vs cs,ZQ [.ref (ad .W),.int w] g=.ok d g'/\Wl g' w d us vs cs/\okP w n m us vs cs/\(∀u,u∈us↔u∈s.gs false)/\(∀u,u∈vs↔u∈s.gs true)/\(∀c,c∈cs↔c∈s.cs)/\Keeps [] g0 g':=by
 have lenG:=h.old.len;have og:∀y,∀u∈(gk false y).flatMap (gF s y),okG w m u:=λy u hu=>ok.g y u ((Gz h y u).mp hu);have zl:∀y,((gk false y).flatMap (gF s y)).length<=60:=λy=>Uk (XW (KL h ok y) λu hu=>J7 (og y u hu)) f.g;obtain⟨us,su,mu,lu⟩:=srt_of (F:=QN) (λ_ _=>Sum.inl.inj) (λ_=>rfl) ((gk false false).flatMap (gF s false));obtain⟨vs,sv,mv,lv⟩:=srt_of (F:=QN) (λ_ _=>Sum.inl.inj) (λ_=>rfl) ((gk false true).flatMap (gF s true));obtain⟨cs,sc,mc,lc⟩:=srt_of (F:=Zg) (λ_ _=>Sum.inr.inj) (λ_=>rfl) s.cs;obtain⟨a,g1,e1,a1,a2,a3⟩:=K8 (g:=g) (Gr:=ad (.G false)) (B:=ad (.B false false)) (ks:=gk false false) (adr:=λk=>ad (.L false false k)) (cont:=gF s false) f.w1 (h.atG false) (h.atB false false) (λk hk=>h.at' (.L false false k) hk) (zl false) (KL h ok false) (og false);rw[su]at a1;have lg1:g.length<=g1.length:=by have:=QB a1;omega
 have tr:∀k,GL gk k->k≠.B false false->g1[ad k]?=some (Ll T M ad s gk k):=λk hk hne=>by rw[a3 _ (λz=>hne (h.inj _ (.B false false) hk trivial z)) (h.lt hk)];exact h.at' k hk
 obtain⟨b,g2,e2,b1,b2,b3⟩:=K8 (g:=g1) (Gr:=ad (.G true)) (B:=ad (.B false true)) (ks:=gk false true) (adr:=λk=>ad (.L false true k)) (cont:=gF s true) f.w1 (tr (.G true) trivial (λz=>by cases z)) (tr (.B false true) trivial (λz=>by cases z)) (λk hk=>tr (.L false true k) hk (λz=>by cases z)) (zl true) (KL h ok true) (og true);rw[sv]at b1;have lg2:g1.length<=g2.length:=by have:=QB b1;omega
 have hC:g2[ad .C]?=some (.dcn true (s.cs.map λc=>(.inr c,.bl true))):=by rw[b3 _ (λz=>by have:=h.inj .C (.B false true) trivial trivial z;cases this) (UA (h.lt (k:=.C) trivial) lg1)];exact tr .C trivial (λz=>by cases z)
 have hBt:ad (.B false true)<g.length:=h.lt (k:=.B false true) trivial;have a1':g2[a]?=some (.lst (us.map QN)):=by rw[b3 a (by omega) (QB a1)];exact a1
 have la:=QB a1;have lb:=QB b1;refine⟨_,g2++[iH (s.cs.map .inr)],us,vs,cs,Qq rfl (QP ?_),⟨a,b,g2.length,rfl,by rw[Ul (by omega)];exact a1',by rw[Ul lb];exact b1,by rw[<-sc];exact QM _⟩,⟨λu hu=>og false u ((mu u).mp hu),λu hu=>og true u ((mv u).mp hu),λc hc=>ok.c c ((mc c).mp hc),by have:=zl false;omega,by have:=zl true;omega,by omega⟩,λu=>(mu u).trans (Gz h false u),λu=>(mv u).trans (Gz h true u),mc,⟨by rw[Uq];show g0.length<=_+1;omega,λk o hk e=>?_⟩⟩
 ·have oL:Qc ZA (Qj [15] "sides" (Qa 0)) (Qp (.str "l")) [vR (ad .W),vI w] g=.ok (.ref (ad (.G false))) g:=Qn (Gw h rfl) HN ((V9 (y:=false) (h.at' .S trivial)).trans rfl);have hW:g1[ad .W]?=some (.ins 15 (wF M (ad .S) (ad .C) (ad .P) (ad .A))):=tr .W trivial (λz=>by cases z);have oR:Qc ZA (Qj [15] "sides" (Qa 0)) (Qp (.str "r")) [vR (ad .W),vI w] g1=.ok (.ref (ad (.G true))) g1:=Qn (ZS (n:=ad .W) rfl hW (by decide) (HG ..)) HQ ((V9 (y:=true) (tr .S trivial (λz=>by cases z))).trans rfl);have hW2:g2[ad .W]?=some (.ins 15 (wF M (ad .S) (ad .C) (ad .P) (ad .A))):=by rw[b3 _ (λz=>by have:=h.inj .W (.B false true) trivial trivial z;cases this) (UA (h.lt (k:=.W) trivial) lg1)];exact hW
  have oC:Qi V0 (Qj [15] "contexts" (Qa 0)) [vR (ad .W),vI w] g2=.ok (.ref g2.length) (g2++[iH (s.cs.map .inr)]):=by refine Q5 (ZS (n:=ad .W) rfl hW2 (by decide) (K0 ..)) ?_;unfold V0 iZ;dsimp only;rw[hC];dsimp only;rw[Uf (by rw[Ue];exact Uk (ok.cl f) (by decide)),Te];exact Mt (by rw[Ue];omega) (Oc ok.cn) λk hk=>by obtain⟨u,hu,rfl⟩:=UR.mp hk;rfl
  have:=Qh (x:=.str "wall") (σ:=[vR (ad .W),vI w]) (a:=Qp (.str "wall")) (g:=g) (g1:=g) rfl (Qh (x:=.int w) (a:=Qa 1) (g1:=g) rfl (Qh ((QY (xs:=[]) (g2:=g) oL (h.atG false) (Sw _) (show Qd _ g=_ from rfl)).trans e1) (Qh ((QY (xs:=[]) (g2:=g1) oR (tr (.G true) trivial (λz=>by cases z)) (Sw _) (show Qd _ g1=_ from rfl)).trans e2) (Qh oC (show Qd _ _=.ok [] _ from rfl)))));show QQ Yy _ [vR (ad .W),vI w] g=_;rw[Xv,this];exact EA _ _ (by show 5<=100;decide)
 ·have hl:=QB e;have:=h.ge (.B false false) trivial;have:=h.ge (.B false true) trivial;rw[Ul (by omega),b3 k (by omega) (by omega),a3 k (by omega) (by omega)];exact h.old.at' k o hk e
theorem Xx  : ∀(f:Nat)(σ:S3)(g:G),ZH c body f σ g≠.stuck->∀f',f<=f'->ZH c body f' σ g=ZH c body f σ g
 |0,_,_,h,_,_=>absurd rfl h|f+1,σ,g,h,f',hf=>by
  obtain⟨k,rfl⟩:∃k,f'=k+1:=⟨f' - 1,by omega⟩;unfold ZH at h ⊢;cases hc:c σ g with
  |stuck=>rfl|ok b g1=>
   cases b with
   |false=>rfl|true=>
    rw[hc]at h;dsimp only at h ⊢;cases hb:body σ g1 with
    |nx σ2 g2=>rw[hb]at h;exact Xx f σ2 g2 h k (by omega)|ct σ2 g2=>rw[hb]at h;exact Xx f σ2 g2 h k (by omega)|bk σ2 g2=>rfl|rt d g2=>rfl|stuck=>rfl
theorem EH(h:ZH c body f σ g=R)(hR:R≠.stuck):Km c body σ g=R:=by
 have hx:∃f,ZH c body f σ g≠.stuck:=⟨f,by rw[h];exact hR⟩;unfold Km;rw[iS hx];have h1:=hx.choose_spec;rcases Nat.le_total f hx.choose with z|z
 ·rw[Xx f σ g (by rw[h];exact hR) _ z,h]
 ·rw[<-Xx _ σ g h1 f z,h]
structure Cl(T:HF)(b:List Int)(Gp:Bool->List Int->Prop)(Cp:Ct->Prop):Prop where
 g0:∀y,Gp y b
 c0:Cp (b,0,0,b)
 bh:∀c i bb j,Cp c->T c.2.1 c.2.2.1=some (i,bb,j)->Gp (!bb) (Vy bb c)
 nx:∀c i bb j u,Cp c->T c.2.1 c.2.2.1=some (i,bb,j)->Gp bb u->u.dropLast=(J5 bb c).tail->Cp (Cf i bb j c u)
structure Cpl(T:HF)(b:List Int)(s:PSt):Prop where
 g0:∀y,b∈s.gs y
 c0:(b,0,0,b)∈s.cs
 bh:∀c i bb j,c∈s.dn->T c.2.1 c.2.2.1=some (i,bb,j)->Vy bb c∈s.gs (!bb)
 nx:∀c i bb j u,c∈s.dn->T c.2.1 c.2.2.1=some (i,bb,j)->u∈s.gs bb->u.dropLast=(J5 bb c).tail->Cf i bb j c u∈s.cs
 all:∀c∈s.cs,c∈s.dn\/c∈s.pd
theorem Cpl.cl(h:Cpl T b s)(hp:s.pd=[]):Cl T b (λy u=>u∈s.gs y) (λc=>c∈s.cs):=by
 have hd:∀c∈s.cs,c∈s.dn:=λc hc=>(h.all c hc).elim id λz=>by rw[hp]at z;cases z
 exact⟨h.g0,h.c0,λc i bb j hc hT=>h.bh c i bb j (hd c hc) hT,λc i bb j u hc hT=>h.nx c i bb j u (hd c hc) hT⟩
theorem GA(s:PSt)(c x:Ct):x∈(ask s c).cs↔x∈s.cs\/x=c:=by
 unfold ask;split
 ·next h=>exact⟨.inl,λz=>z.elim id λe=>e ▸ h⟩
 ·show x∈s.cs++[c]↔_;simp
theorem iI(s:PSt)(c x:Ct)(h:x∈(ask s c).cs):x∈s.cs\/x∈(ask s c).pd:=by
 unfold ask at h ⊢;split
 ·next hc=>rw[Uf hc]at h;exact .inl h
 ·next hc=>
  rw[Uh hc]at h;rcases Ut.mp h with z|z
  ·exact .inl z
  ·exact .inr (Ut.mpr (.inr z))
theorem aC(s:PSt)(c x:Ct)(h:x∈s.pd):x∈(ask s c).pd:=by
 unfold ask;split
 ·exact h
 ·exact Ut.mpr (.inl h)
theorem Kc:∀(cs:List Ct)(s:PSt)(x:Ct),x∈(YO s cs).cs↔x∈s.cs\/x∈cs
 |[],s,x=>by simp[YO]
 |c::cs,s,x=>by show x∈(YO (ask s c) cs).cs↔_;rw[Kc cs,GA,UG,or_assoc]
theorem X3:∀(cs:List Ct)(s:PSt),(∀x∈(YO s cs).cs,x∈s.cs\/x∈(YO s cs).pd)/\∀x∈s.pd,x∈(YO s cs).pd
 |[],_=>⟨λ_ h=>.inl h,λ_ h=>h⟩|c::cs,s=>by
  obtain⟨a1,a2⟩:=X3 cs (ask s c);show(∀x∈(YO (ask s c) cs).cs,x∈s.cs\/x∈(YO (ask s c) cs).pd)/\∀x∈s.pd,x∈(YO (ask s c) cs).pd;refine⟨λx hx=>?_,λx hx=>a2 x (aC s c x hx)⟩;rcases a1 x hx with z|z
  ·exact(iI s c x z).imp id λz=>a2 x z
  ·exact .inr z
theorem SN  : v∈(addG s y u).gs y'↔v∈s.gs y'\/(y'=y/\v=u):=by
 show v∈(if y'=y then s.gs y'++[u] else s.gs y')↔_;split
 ·next e=>simp[e]
 ·next e=>exact⟨.inl,λz=>z.elim id λw=>absurd w.1 e⟩
theorem putG_gs  : v∈(Zo T s y u).gs y'↔v∈s.gs y'\/(y'=y/\v=u):=by
 unfold Zo;split
 ·next h=>exact⟨.inl,λz=>z.elim id λw=>by rw[w.1,w.2];exact h⟩
 ·rw[(J9 _ _).2.1];exact SN
theorem Od(h:Cpl T b s)(hp:s.pd=r++[c])(hT:T c.2.1 c.2.2.1=some (i,bb,j)):Cpl T b (Yw T s c i bb j):=by
 have hdn:(Yw T s c i bb j).dn=s.dn++[c]:=by unfold Yw;dsimp only;rw[(J9 _ _).1];show(Zo T (Jw s) (!bb) (Vy bb c)).dn++[c]=_;rw[(Kb _ _ _ _).1];rfl
 have hgs:∀y u,u∈(Yw T s c i bb j).gs y↔u∈s.gs y\/(y=!bb/\u=Vy bb c):=λy u=>by unfold Yw;dsimp only;rw[(J9 _ _).2.1];exact putG_gs
 have hput:∀x∈(Zo T (Jw s) (!bb) (Vy bb c)).cs,x∈(Yw T s c i bb j).cs:=λx hx=>by unfold Yw;dsimp only;exact(Kc _ _ _).mpr (.inl hx)
 have hcs:∀x∈s.cs,x∈(Yw T s c i bb j).cs:=λx hx=>hput x ((Kb _ _ _ _).2.2 x hx);refine⟨λy=>(hgs y b).mpr (.inl (h.g0 y)),hcs _ h.c0,λc' i' b' j' hc' hT'=>?_,λc' i' b' j' u hc' hT' hu he=>?_,λx hx=>?_⟩
 ·rw[hdn]at hc';rcases Ut.mp hc' with z|z
  ·exact(hgs _ _).mpr (.inl (h.bh c' i' b' j' z hT'))
  ·rw[Ui.mp z]at hT' ⊢;rw[hT]at hT';cases hT';exact(hgs _ _).mpr (.inr ⟨rfl,rfl⟩)
 ·rw[hdn]at hc';rcases Ut.mp hc' with z|z
  ·rcases(hgs _ _).mp hu with z2|⟨rfl,rfl⟩
   ·exact hcs _ (h.nx c' i' b' j' u z hT' z2 he)
   ·refine hput _ ?_;unfold Zo;split
    ·next hin=>exact h.nx c' i' (!bb) j' _ z hT' hin he
    ·refine(Kc _ _ _).mpr (.inr (UR.mpr ⟨c',U4.mpr ⟨z,?_⟩,?_⟩))
     ·rw[CJ hT'];exact Us ⟨rfl,he.symm⟩
     ·unfold Sz;rw[hT']
  ·rw[Ui.mp z]at hT' he ⊢;rw[hT]at hT';cases hT';unfold Yw;dsimp only;refine(Kc _ _ _).mpr (.inr (UR.mpr ⟨u,U4.mpr ⟨?_,Us he⟩,rfl⟩));show u∈(Zo T (Jw s) (!bb) (Vy bb c)).gs bb;rcases(hgs _ _).mp hu with z2|⟨z2,_⟩
   ·exact putG_gs.mpr (.inl z2)
   ·cases bb<;>cases z2
 ·have hpd:∀x∈r,x∈(Yw T s c i bb j).pd:=λx hx=>by
   unfold Yw;dsimp only;refine(X3 _ _).2 x ?_;show x∈(Zo T (Jw s) (!bb) (Vy bb c)).pd;have:x∈(Jw s).pd:=by show x∈s.pd.dropLast;rw[hp];simpa using hx
   unfold Zo;split
   ·exact this
   ·exact(X3 _ _).2 x this
  have fromS:x∈s.cs->x∈s.dn++[c]\/x∈(Yw T s c i bb j).pd:=λhx=>by
   rcases h.all x hx with z|z
   ·exact .inl (Ut.mpr (.inl z))
   ·rw[hp]at z;rcases Ut.mp z with z|z
    ·exact .inr (hpd x z)
    ·exact .inl (Ut.mpr (.inr z))
  rw[hdn];unfold Yw at hx;dsimp only at hx;rcases(X3 _ _).1 x hx with z|z
  ·have z:x∈(Zo T (Jw s) (!bb) (Vy bb c)).cs:=z;unfold Zo at z;split at z
   ·exact fromS z
   ·next hin=>
    rcases(X3 _ _).1 x z with y|y
    ·exact fromS y
    ·refine .inr ?_;unfold Yw;dsimp only;refine(X3 _ _).2 x ?_;show x∈(Zo T (Jw s) (!bb) (Vy bb c)).pd;unfold Zo;rw[Uh hin];exact y
  ·exact .inr z
theorem GB(h:QK g0 x=some (b,ds))(k:Keeps [] g0 g):∃src,JO x g=.ok src g/\src.top=ds.length/\∀g1 i,Keeps [] g0 g1->src.at' g1 i=some ds[i]?:=by
 unfold QK at h;cases x with
 |tup xs=>cases h;exact⟨_,rfl,rfl,λ_ _ _=>rfl⟩|fl xs=>cases h;exact⟨_,rfl,rfl,λ_ _ _=>rfl⟩|ref n=>
  dsimp only at h;cases hg:g0[n]? with
  |none=>rw[hg]at h;cases h|some o=>
   rw[hg]at h;cases o with
   |lst xs =>cases h;refine⟨_,by unfold JO;dsimp only;rw[k.at' n _ (by simp) hg],rfl,λg1 i k=>?_⟩;dsimp only;rw[k.at' n _ (by simp) hg]|_=>cases h
 |_=>cases h
theorem HS{a e:ME}{σ σc:S3}{g:G}{x:D}{b:Bool}{us:List α}{f F:α->D}{cap:List Nat}(ha:a σ g=.ok x g)(hs:QK g x=some (b,us.map f))(hz:us.length<=SZ)(hc:X7 1 cap σ=none::σc)(he:∀u∈us,∀g1,Keeps [] g g1->∃g2,e (some (f u)::σc) g1=.ok (F u) g2/\Keeps [] g1 g2):∃g',Zq (QL a) 1 cap (Ql 0) Zz e σ g=.ok (.ref g'.length) (g'++[.lst (us.map F)])/\Keeps [] g g':=by
 obtain⟨src,e1,e2,e3⟩:=GB hs .refl;rw[Ue]at e2;obtain⟨xs,σ',g',h1,h2,h3,_⟩:=Jm (src:=src) (t:=Ql 0) (c:=Zz) (e:=e) (n:=us.length)
  (λi σ' g1 acc=>acc=(us.take i).map F/\Keeps [] g g1/\∃u,σ'=u::σc) (λi σ' g1 acc hi ⟨h1,h2,u,h3⟩=>by obtain⟨g2,k1,k2⟩:=he us[i] (Tk hi) g1 h2;subst h3;exact⟨f us[i],some (f us[i])::σc,g1,by rw[e3 g1 i h2];simp[hi],rfl,.inl ⟨F us[i],g2,rfl,k1,by rw[h1,UZ hi,UO];rfl,h2.trans k2,_,rfl⟩⟩)
  (λσ g1 acc ⟨_,h2,_⟩=>by rw[e3 g1 _ h2];simp) (src.top+1) 0 (none::σc) g [] (by omega) (by omega) ⟨by simp,.refl,none,rfl⟩
 refine⟨g',?_,h3⟩;rw[h2,T8]at h1;exact CF (src:=src) (by unfold QL;rw[ha,Res.bind_ok,e1]) (by omega) hc h1
theorem aD{us:List α}{P:α->Bool}{g:G}:XE (.ref g.length) (g++[.lst (us.map λd=>.bl (P d))])=.ok (.bl (us.all P)) (g++[.lst (us.map λd=>.bl (P d))]):=by unfold XE;dsimp only;rw[QM];dsimp only;rw[V7]
theorem Mu{a e:ME}{σ σc:S3}{g:G}{x:D}{b:Bool}{us:List α}{f:α->D}{cap:List Nat}(P:α->Bool)(ha:a σ g=.ok x g)(hs:QK g x=some (b,us.map f))(hz:us.length<=SZ)(hc:X7 1 cap σ=none::σc)(he:∀u∈us,∀g1,Keeps [] g g1->∃g2,e (some (f u)::σc) g1=.ok (.bl (P u)) g2/\Keeps [] g1 g2):∃g',Qi XE (Zq (QL a) 1 cap (Ql 0) Zz e) σ g=.ok (.bl (us.all P)) g'/\Keeps [] g g':=by obtain⟨g',h1,h2⟩:=HS (F:=λd=>.bl (P d)) ha hs hz hc he;exact⟨_,Q5 h1 aD,h2.trans (.push _)⟩
theorem Mv{a e:ME}{σ σc:S3}{g:G}{x:D}{b:Bool}{ds:List D}{cap:List Nat}(P:D->Bool)(ha:a σ g=.ok x g)(hs:QK g x=some (b,ds))(hz:ds.length<=SZ)(hc:X7 1 cap σ=none::σc)(he:∀d∈ds,∀g1,Keeps [] g g1->∃g2,e (some d::σc) g1=.ok (.bl (P d)) g2/\Keeps [] g1 g2):∃g',Qi XE (Zq (QL a) 1 cap (Ql 0) Zz e) σ g=.ok (.bl (ds.all P)) g'/\Keeps [] g g':=Mu (f:=λd=>d) (b:=b) P ha (by rw[hs,List.map_id']) hz hc he
theorem HU(h1:a σ g=.ok (.bl true) g1)(h2:b σ g1=R):YN a b σ g=R:=by rw[Sm,h1];exact h2
theorem Mw(h1:a σ g=.ok (.bl false) g1):YN a b σ g=.ok (.bl false) g1:=by rw[Sm,h1];rfl
theorem K9(h1:a σ g=.ok true g1):ZV a b σ g=.ok true g1:=by rw[Gq,h1];rfl
theorem YR(h1:a σ g=.ok false g1)(h2:b σ g1=R):ZV a b σ g=R:=by rw[Gq,h1];exact h2
theorem QA(h1:a σ g=.ok (.bl x) g1):QR (Qf a) σ g=.ok (!x) g1:=by rw[Ml,D5,h1]
theorem aE(h:X8 g d=some t)(k:Keeps [] g g1):X8 g1 d=some t:=by
 cases d with
 |ref n=>
  unfold X8 at h ⊢;dsimp only at h ⊢;cases hg:g[n]? with
  |none=>rw[hg]at h;cases h|some o=>rw[k.at' n o (by simp) hg];rw[hg]at h;exact h
 |_=>exact h
theorem Mx(h:X8 g d=some t)(ht:t≠.tuple):YE .tuple d g=.ok (.bl false) g:=by unfold YE;rw[h];cases t<;>first|rfl|exact absurd rfl ht
def noT(g:G)(d:D):Prop:=∃t,X8 g d=some t/\t≠.tuple
theorem noT.keep(h:noT g d)(k:Keeps [] g g1):noT g1 d:=let ⟨t,a,b⟩:=h;⟨t,aE a k,b⟩
def Y8(W m:Int):D->Bool
 |.tup ds=>((ds.length:Int)==W)&&ds.all λx=>Yf x m
 |_=>false
def gOk(g:G):D->Prop
 |.tup ds=>(∀x∈ds,KF x=true)/\ds.length<=1000|d=>noT g d
theorem gOk.keep(h:gOk g d)(k:Keeps [] g g1):gOk g1 d:=by
 cases d with
 |tup ds=>exact h|_=>exact noT.keep h k
theorem VB(h:gOk g d):∃g',Yu [d,.int W,.int m] g=.ok (.bl (Y8 W m d)) g'/\Keeps [] g g':=by
 have no:noT g d->Y8 W m d=false->∃g',Yu [d,.int W,.int m] g=.ok (.bl (Y8 W m d)) g'/\Keeps [] g g':=λ⟨t,ht,hn⟩ e=>by rw[e];exact⟨g,Qq rfl (QP (Mw (Q5 (x:=d) (g1:=g) rfl (Mx ht hn)))),.refl⟩
 cases d with
 |tup ds=>
  obtain⟨g',e,k⟩:=Mv (a:=Qa 0) (e:=Qg QV (Qb (Qa 0) (Qb (Qa 1) Qd))) (cap:=[2]) (σ:=[some (.tup ds),vI W,vI m]) (σc:=[vI m]) (g:=g) (b:=false) (ds:=ds) (λx=>Yf x m) rfl rfl (Uk h.2 (by decide)) rfl λx hx g1 _=>by obtain⟨t,ht⟩:=Hz g1 (h.1 x hx);exact⟨g1,JE x m g1 t ht (h.1 x hx),.refl⟩
  cases hl:((ds.length:Int)==W) with
  |true=>exact⟨g',Qq rfl (QP (HU (g1:=g) rfl (HU (g1:=g) (by rw[<-hl];rfl) (e.trans (by unfold Y8;dsimp only;rw[hl];rfl))))),k⟩|false=>exact⟨g,Qq rfl (QP (HU (g1:=g) rfl ((Mw (g1:=g) (by rw[<-hl];rfl)).trans (by unfold Y8;dsimp only;rw[hl];rfl)))),.refl⟩
 |_=>exact no h rfl
theorem FC(hM:g[M]?=some (ZR rows))(ht:Tb rows n m):Ys [.ref M] g=.ok (.int n) g:=by refine Qq rfl (QP (Q5 (x:=.tup (rows.map .tup)) (g1:=g) (ZS (n:=M) rfl hM (by decide) Oq) ?_));show Res.ok (D.int (rows.map D.tup).length) g=_;rw[Ue,ht.ln]
theorem EI(hM:g[M]?=some (ZR rows))(ht:Tb rows n m)(hn:1<=n):QW [.ref M] g=.ok (.int m) g:=by obtain⟨r,hr⟩:∃r,rows[0]?=some r:=⟨_,UK (by have:=ht.ln;omega)⟩;refine Qq rfl (QP (Q5 (x:=.tup r) (g1:=g) (Qn (x:=.tup (rows.map .tup)) (y:=.int (0:Nat)) (ZS (n:=M) rfl hM (by decide) Oq) rfl (ix_tup (n:=0) (by rw[UL,hr];rfl))) ?_));show Res.ok (D.int r.length) g=_;rw[ht.lm r (TN hr)]
def Vb(W n m:Int):D->Bool
 |.tup [l,p,q,r]=>Yf p n&&Yf q m&&Y8 W m l&&Y8 W m r|_=>false
def cOk(g:G):D->Prop
 |.tup [l,p,q,r]=>gOk g l/\KF p=true/\KF q=true/\gOk g r|.tup _=>True|d=>noT g d
theorem cOk.keep(h:cOk g d)(k:Keeps [] g g1):cOk g1 d:=by
 cases d with
 |tup ds=>
  rcases ds with _|⟨l,_|⟨p,_|⟨q,_|⟨r,_|⟨z,ds⟩⟩⟩⟩⟩<;>try trivial
  exact⟨h.1.keep k,h.2.1,h.2.2.1,h.2.2.2.keep k⟩
 |_=>exact noT.keep h k
theorem VC(hx:KF x=true)(ha:a σ g=.ok x g)(hc:c σ g=.ok (.int N) g):Qg QV (Qb a (Qb c Qd)) σ g=.ok (.bl (Yf x N)) g:=by obtain⟨t,ht⟩:=Hz g hx;rw[Qo (Qh ha (Qh hc rfl)),JE x N g t ht hx]
theorem E6(hM:g[M]?=some (ZR rows))(ht:Tb rows n m)(hn:1<=n)(h:cOk g d):∃g',ZK [d,.int W,.ref M] g=.ok (.bl (Vb W n m d)) g'/\Keeps [] g g':=by
 have fst:∀{d:D},Vb W n m d=false->ZV (QR (Qf (Qi (YE .tuple) (Qa 0)))) (Qf (Qc Ik (Qi Zj (Qa 0)) (mI 4))) [some d,vI W,vR M] g=.ok true g->∃g',ZK [d,.int W,.ref M] g=.ok (.bl (Vb W n m d)) g'/\Keeps [] g g':=λ{d} e h=>by rw[e];exact⟨g,Qq rfl (ZC (Vl g h rfl)),.refl⟩
 have no:noT g d->Vb W n m d=false->∃g',ZK [d,.int W,.ref M] g=.ok (.bl (Vb W n m d)) g'/\Keeps [] g g':=λ⟨t,ht,hn⟩ e=>fst e (K9 (QA (x:=false) (Q5 (x:=d) (g1:=g) rfl (Mx ht hn))));cases d with
 |tup ds=>
  rcases ds with _|⟨l,_|⟨p,_|⟨q,_|⟨r,_|⟨z,ds⟩⟩⟩⟩⟩
  ·exact fst rfl rfl
  ·exact fst rfl rfl
  ·exact fst rfl rfl
  ·exact fst rfl rfl
  ·obtain⟨h1,h2,h3,h4⟩:=h;have st:∀{i:Nat},Qg Ys (Qb (Qa 2) Qd) [some (D.tup [l,p,q,r]),vI W,vR M] g=.ok (.int n) g:=(Qo rfl).trans (FC hM ht);have sg:∀{g1:G},Keeps [] g g1->Qg QW (Qb (Qa 2) Qd) [some (D.tup [l,p,q,r]),vI W,vR M] g1=.ok (.int m) g1:=λk=>(Qo rfl).trans (EI (k.at' M _ (by simp) hM) ht hn);have b1:=VC (a:=Qc QG (Qa 0) (mI 1)) h2 (by simp) (st (i:=0));have b2:=VC (a:=Qc QG (Qa 0) (mI 2)) h3 (by simp) (sg .refl);cases x1:Yf p n with
   |false =>rw[show Vb W n m (.tup [l,p,q,r])=false by simp[Vb,x1]];exact⟨g,Qq rfl (Qe _ g (ZF g rfl rfl) (ZC (Vl g (K9 (QA (x:=false) (by rw[<-x1];exact b1))) rfl))),.refl⟩|true=>
    rw[x1]at b1;cases x2:Yf q m with
    |false =>rw[show Vb W n m (.tup [l,p,q,r])=false by simp[Vb,x2]];exact⟨g,Qq rfl (Qe _ g (ZF g rfl rfl) (ZC (Vl g (YR (QA b1) (QA (x:=false) (by rw[<-x2];exact b2))) rfl))),.refl⟩|true=>
     rw[x2]at b2;obtain⟨g1,e1,k1⟩:=VB (W:=W) (m:=m) h1;have c1:Qg Yu (Qb (Qc QG (Qa 0) (mI 0)) (Qb (Qa 1) (Qb (Qg QW (Qb (Qa 2) Qd)) Qd))) [some (D.tup [l,p,q,r]),vI W,vR M] g=_:=(Qo (Qh (x:=l) (g1:=g) (by simp) (Qh (x:=.int W) (g1:=g) rfl (Qh (sg .refl) rfl)))).trans e1;cases x3:Y8 W m l with
     |false =>rw[show Vb W n m (.tup [l,p,q,r])=false by simp[Vb,x3]];exact⟨g1,Qq rfl (Qe _ g (ZF g rfl rfl) (Qe _ g (ZF g (Lj (Qy b1) (Qy b2)) rfl) (QP (Mw (by rw[<-x3];exact c1))))),k1⟩|true =>obtain⟨g2,e2,k2⟩:=VB (W:=W) (m:=m) (h4.keep k1);rw[show Vb W n m (.tup [l,p,q,r])=Y8 W m r by simp[Vb,x1,x2,x3]];exact⟨g2,Qq rfl (Qe _ g (ZF g rfl rfl) (Qe _ g (ZF g (Lj (Qy b1) (Qy b2)) rfl) (QP (HU (by rw[<-x3];exact c1) ((Qo (Qh (x:=r) (g1:=g1) (by simp) (Qh (x:=.int W) (g1:=g1) rfl (Qh (sg k1) rfl)))).trans e2))))),k1.trans k2⟩
  ·refine fst rfl ?_;have e:Qf (Qc Ik (Qi Zj (Qa 0)) (mI 4)) [some (D.tup (l::p::q::r::z::ds)),vI W,vR M] g=.ok true g:=by refine Qy (Qn (x:=.int ((l::p::q::r::z::ds).length:Nat)) (y:=.int 4) (g1:=g) (g2:=g) rfl rfl ?_);rw[nU];congr 2
   exact YR (QA (x:=true) (g1:=g) rfl) e
 |_=>exact no h rfl
def YX(g:G)(P:D->Bool)(x:D):Bool:=match QK g x with
 |some (_,ds)=>ds.all P|none=>false
def sOk(g:G)(ok:D->Prop)(x:D):Prop:=(∃b ds,QK g x=some (b,ds)/\(∀d∈ds,ok d)/\ds.length<=1000)\/x=.non
theorem Oe(h:QK g x=some (b,ds)):XM x g=.ok (.bl true) g:=by
 unfold QK at h;cases x with
 |ref n=>
  dsimp only at h;cases hg:g[n]? with
  |none=>rw[hg]at h;cases h|some o=>
   rw[hg]at h;cases o with
   |lst xs=>unfold XM X8;dsimp only;rw[hg];rfl|_=>cases h
 |tup xs=>rfl|fl xs=>rfl|_=>cases h
theorem Z2(h:QK g x=some p)(k:Keeps [] g g1):QK g1 x=some p:=by
 cases x with
 |ref n=>
  unfold QK at h ⊢;dsimp only at h ⊢;cases hg:g[n]? with
  |none=>rw[hg]at h;cases h|some o=>rw[k.at' n o (by simp) hg];rw[hg]at h;exact h
 |_=>exact h
theorem My(P:D->Bool)(ha:a σ g=.ok x g)(hs:sOk g ok x)(hc:X7 1 cap σ=none::σc)(he:∀d,ok d->∀g1,Keeps [] g g1->∃g2,e (some d::σc) g1=.ok (.bl (P d)) g2/\Keeps [] g1 g2):∃g',YN (Qi XM a) (Qi XE (Zq (QL a) 1 cap (Ql 0) Zz e)) σ g=.ok (.bl (YX g P x)) g'/\Keeps [] g g':=by
 rcases hs with⟨b,ds,h1,h2,h3⟩|rfl
 ·obtain⟨g',e1,k⟩:=Mv P ha h1 (Uk h3 (by decide)) hc λd hd=>he d (h2 d hd);refine⟨g',HU (Q5 ha (Oe h1)) ?_,k⟩;rw[e1];unfold YX;rw[h1]
 ·exact⟨g,Mw (Q5 ha rfl),.refl⟩
theorem Kd(hs:sOk g (gOk g) x):∃g',ZG [x,.int W,.int m] g=.ok (.bl (YX g (Y8 W m) x)) g'/\Keeps [] g g':=by obtain⟨g',e,k⟩:=My (a:=Qa 0) (e:=Qg Yu (Qb (Qa 0) (Qb (Qa 1) (Qb (Qa 2) Qd)))) (cap:=[1,2]) (σ:=[some x,vI W,vI m]) (σc:=[vI W,vI m]) (Y8 W m) rfl hs rfl λd hd g1 k=>VB (hd.keep k);exact⟨g',Qq rfl (QP e),k⟩
theorem Of(W:Int)(g:G):Zi [.int W] g=.ok (.bl (decide (0<=W))) g:=rfl
theorem EJ{x a b c:D}{R:Out}(h:(Qm (ZT (ZV (QR (Qf (Qg Zi (Qb (Qa 2) Qd)))) (Qf (Qc FZ (Qa 2) (mI 1)))) (Qz (Qp (.bl false))) Qv)
 (Qm (ZT (ZV (QR (Qf (Qg ZG (Qb (Qc QG (Qa 1) (mI 2)) (Qb (Qa 2) (Qb (Qg QW (Qb (Qa 0) Qd)) Qd)))))) (QR (Qf (Qg ZG (Qb (Qc QG (Qa 1) (mI 3)) (Qb (Qa 2) (Qb (Qg QW (Qb (Qa 0) Qd)) Qd))))))) (Qz (Qp (.bl false))) Qv)
 (Qz (YN (Qi XM (Qc QG (Qa 1) (mI 4))) (Qi XE (Zq (QL (Qc QG (Qa 1) (mI 4))) 1 [2,0] (Ql 0) Zz (Qg ZK (Qb (Qa 0) (Qb (Qa 1) (Qb (Qa 2) Qd)))))))))) [vR M,some (.tup [.str "wall",x,a,b,c]),some x] g=R):XB [vR M,some (.tup [.str "wall",x,a,b,c]),none] g=R:=by
 refine Qe _ g (ZF g (YR (QA (x:=true) (g1:=g) rfl) (YR (g1:=g) rfl (Qy ?_))) rfl) (Qe _ g (Qt (d:=x) (g':=g) rfl) h);show Res.ok (D.bl (!(Str.ofString "wall"==Str.ofString "wall"))) g=_;rw[show(Str.ofString "wall"==Str.ofString "wall")=true by simp];rfl
theorem sOk.up{ok:G->D->Prop}{x:D}(h:sOk g (ok g) x)(hk:∀{d:D},ok g d->ok g1 d)(k:Keeps [] g g1):sOk g1 (ok g1) x:=by
 rcases h with⟨b,ds,h1,h2,h3⟩|h
 ·exact .inl ⟨b,ds,Z2 h1 k,λd hd=>hk (h2 d hd),h3⟩
 ·exact .inr h
theorem sOk.all(h:sOk g ok x)(k:Keeps [] g g1)(P:D->Bool):YX g1 P x=YX g P x:=by
 rcases h with⟨b,ds,h1,h2,h3⟩|rfl
 ·unfold YX;rw[h1,Z2 h1 k]
 ·rfl
theorem aF(hM:g[M]?=some (ZR rows))(ht:Tb rows n m)(hn:1<=n)(hW:1<=W)(ha:sOk g (gOk g) a)(hb:sOk g (gOk g) b)(hc:sOk g (cOk g) c):
  ∃g',Yk [.ref M,QO W a b c] g=.ok (.bl (YX g (Y8 W m) a&&YX g (Y8 W m) b&&YX g (Vb W n m) c)) g'/\Keeps [] g g':=by
 have w1:ZV (QR (Qf (Qg Zi (Qb (Qa 2) Qd)))) (Qf (Qc FZ (Qa 2) (mI 1))) [vR M,some (QO W a b c),vI W] g=.ok false g:=bN (QA (x:=true) (by show Zi [.int W] g=_;rw[Of,Us (by omega)])) (Qy (Qn (x:=.int W) (y:=.int 1) (g1:=g) (g2:=g) rfl rfl (by rw[bO,Uv (by omega)])));have sg:∀{g1:G},Keeps [] g g1->Qg QW (Qb (Qa 0) Qd) [vR M,some (QO W a b c),vI W] g1=.ok (.int m) g1:=λk=>(Qo rfl).trans (EI (k.at' M _ (by simp) hM) ht hn);obtain⟨g1,e1,k1⟩:=Kd (W:=W) (m:=m) ha;have c1:Qg ZG (Qb (Qc QG (Qa 1) (mI 2)) (Qb (Qa 2) (Qb (Qg QW (Qb (Qa 0) Qd)) Qd))) [vR M,some (QO W a b c),vI W] g=_:=(Qo (Qh (x:=a) (g1:=g) (by simp) (Qh (x:=.int W) (g1:=g) rfl (Qh (sg .refl) rfl)))).trans e1;cases x1:YX g (Y8 W m) a with
 |false =>rw[x1]at c1;exact⟨g1,Qq rfl (EJ (Qe _ g (ZF g w1 rfl) (ZC (Vl g1 (K9 (QA c1)) rfl)))),k1⟩|true=>
  rw[x1]at c1;obtain⟨g2,e2,k2⟩:=Kd (W:=W) (m:=m) (hb.up (λh=>h.keep k1) k1);rw[hb.all k1]at e2;have c2:Qg ZG (Qb (Qc QG (Qa 1) (mI 3)) (Qb (Qa 2) (Qb (Qg QW (Qb (Qa 0) Qd)) Qd))) [vR M,some (QO W a b c),vI W] g1=_:=(Qo (Qh (x:=b) (g1:=g1) (by simp) (Qh (x:=.int W) (g1:=g1) rfl (Qh (sg k1) rfl)))).trans e2;cases x2:YX g (Y8 W m) b with
  |false =>rw[x2]at c2;exact⟨g2,Qq rfl (EJ (Qe _ g (ZF g w1 rfl) (ZC (Vl g2 (YR (QA c1) (QA c2)) rfl)))),k1.trans k2⟩|true =>rw[x2]at c2;have k12:=k1.trans k2;have hM2:=k12.at' M _ (by simp) hM;obtain⟨g3,e3,k3⟩:=My (g:=g2) (a:=Qc QG (Qa 1) (mI 4)) (e:=Qg ZK (Qb (Qa 0) (Qb (Qa 1) (Qb (Qa 2) Qd)))) (cap:=[2,0]) (σ:=[vR M,some (QO W a b c),vI W]) (σc:=[vI W,vR M]) (Vb W n m) (by simp;exact ix_tup (n:=4) rfl) (hc.up (λh=>h.keep k12) k12) rfl λd hd g3 k=>E6 (k.at' M _ (by simp) hM2) ht hn (hd.keep k);rw[hc.all k12]at e3;exact⟨g3,Qq rfl (EJ (Qe _ g (ZF g w1 rfl) (Qe _ g2 (ZF g2 (Lj (Qy c1) (Qy c2)) rfl) (QP e3)))),k12.trans k3⟩
def cont(us:List (List Int))(k:List Int):List (List Int):=us.filter λu=>decide (u.dropLast=k)
structure Gr(N:Nat)(g:G)(us ks:List (List Int))(adr:List Int->Nat):Prop where
 o:g[N]?=some (.ins 14 (Y9 (N+1)))
 d:g[N+1]?=some (.dcn false (ks.map λk=>(.inl k,.ref (adr k))))
 l:∀k∈ks,g[adr k]?=some (.lst ((cont us k).map QN))
 ge:∀k∈ks,N+2<=adr k
 inj:∀k∈ks,∀k'∈ks,adr k=adr k'->k=k'
 all:∀u∈us,u.dropLast∈ks
theorem Gr.keep(h:Gr N g us ks adr)(k:Keeps [] g g1):Gr N g1 us ks adr:=⟨k.at' _ _ (by simp) h.o,k.at' _ _ (by simp) h.d,λx hx=>k.at' _ _ (by simp) (h.l x hx),h.ge,h.inj,h.all⟩
theorem HV(h:Gr N g us ks adr)(hk:k∉ks):cont us k=[]:=WI.mpr λu hu z=>hk (UC z ▸ h.all u hu)
theorem Mz(h:Gr N g us ks adr)(hv:σ[i]?=some (vR N)):Qj [14] "by_seen" (Qa i) σ g=.ok (.ref (N+1)) g:=ZS (Zv hv) h.o (by decide) Oq
theorem SQ(h:Gr N g us ks adr)(k:List Int):∃a,QJ [.ref N,QN k] g=.ok (.ref a) (g++[.lst []])/\(g++[GO.lst []])[a]?=some (.lst ((cont us k).map QN)):=by
 have hp:=h.keep (.push (.lst []));have e1:=J6 (σ:=[vR N,vM k]) (f:=λ_ _ ks k z g=>.ok ((YF ks k).getD z) g) (Mz h (i:=0) rfl) h.d (k:=Qa 1) rfl XU hp.d (Ce k);rw[XT]at e1;by_cases hk:k∈ks
 ·rw[Uf hk]at e1;exact⟨_,Qq rfl (QP e1),hp.l k hk⟩
 ·rw[Uh hk]at e1;exact⟨_,Qq rfl (QP e1),by rw[QM,HV h hk];rfl⟩
theorem SR(h:Gr N g us ks adr)(u:List Int):QX [.ref N,QN u] g=.ok (.bl (decide (u∈us))) (g++[.lst []]):=by
 obtain⟨a,h1,h2⟩:=SQ h u.dropLast;refine Qq rfl (QP (Qn (x:=QN u) (y:=.ref a) (g1:=g) rfl ((QY (n:=N) (g1:=g) (xs:=[QN u.dropLast]) (g2:=g) rfl h.o (EC _) ?_).trans h1) ?_))
 ·simp only[CG,Yh,ZM,Y2,Ey];exact TY (λr=>match r with|Res.ok x g1=>Res.ok [x] g1 | .stuck=>.stuck) (JI u g)
 ·unfold IX;rw[Ce];dsimp only;rw[h2];dsimp only;rw[CH];dsimp only;rw[Gu];congr 2;exact Tj.mpr (by simp[cont])
theorem FD:cont (us++[u]) k=if u.dropLast=k then cont us k++[u] else cont us k:=by
 unfold cont;rw[RV];split
 ·next e=>simp[e]
 ·next e=>simp[e]
theorem iJ(h:Gr N g us ks adr)(hz:ks.length<=1000)(hl:us.length<=1000)(u:List Int):∃g' vs ks' adr',Zn [.ref N,QN u] g=.ok .non g'/\Gr N g' vs ks' adr'/\(∀v,v∈vs↔v∈us\/v=u)/\vs.length<=us.length+1/\ks'.length<=ks.length+1/\KeepsN N [] g g':=by
 have h1:=h.keep (.push (.lst []));have e2:QD 14 "has" QX (Qa 0) (Qb (Qa 1) Qd) [vR N,vM u] g=.ok (.bl (decide (u∈us))) (g++[.lst []]):=(QY (n:=N) (g1:=g) (xs:=[QN u]) (g2:=g) rfl h.o (ED _) rfl).trans (SR h u);have kp:KeepsN N [] g (g++[GO.lst []]):=(Keeps.push (S:=[]) _).n (by simp);by_cases hu:u∈us
 ·rw[Us hu]at e2;exact⟨_,us,ks,adr,Yp (σ:=[vR N,vM u]) rfl (ZF _ (QA e2) rfl),h1,λv=>⟨.inl,λz=>z.elim id λz=>z ▸ hu⟩,by omega,by omega,kp⟩
 rw[Uv hu]at e2;have h2:=h1.keep (.push (.lst []));have lN:N+1<g.length:=QB h.d;have sd:=J6 (σ:=[vR N,vM u]) (f:=λn τ ks k z g=>if ks.length<SZ then (match YF ks k with|some v=>.ok v g|none=>.ok z (g.set n (.dcn τ (ks++[(k,z)])))) else .stuck) (Mz h1 (i:=0) rfl) h1.d (k:=ZW (Qa 1) Zw (YQ (Qi JP (mI 1)))) (by simp only[Yh,ZM,Y2];exact JI u _) XU h2.d (Ce u.dropLast);have sd:Y4 (Qj [14] "by_seen" (Qa 0)) (ZW (Qa 1) Zw (YQ (Qi JP (mI 1)))) (QQ ZD Qd) [vR N,vM u] (g++[.lst []])=_:=sd;rw[Uf (by rw[Ue];exact Vk hz),XT]at sd;have fin:∀{a:Nat}{g3:G}{ds:List D},Y4 (Qj [14] "by_seen" (Qa 0)) (ZW (Qa 1) Zw (YQ (Qi JP (mI 1)))) (QQ ZD Qd) [vR N,vM u] (g++[.lst []])=.ok (.ref a) g3->g3[a]?=some (.lst ds)->ds.length<=1000->Zn [.ref N,QN u] g=.ok .non (g3.set a (.lst (ds++[QN u]))):=λh1 h2 h3=>Yp (σ:=[vR N,vM u]) rfl (Vl (g++[GO.lst []]) (QA e2) (Zc (d:=.non) (Jv h1 h2 rfl h3)));have cl:((cont us u.dropLast).map QN).length<=1000:=by rw[Ue];exact Uk (Wa ..) hl
 have mem:∀v,v∈us++[u]↔v∈us\/v=u:=λv=>by simp
 by_cases hk:u.dropLast∈ks
 ·rw[Uf hk]at sd;have gk:=h.ge _ hk;refine⟨_,us++[u],ks,adr,fin sd (h2.l _ hk) cl,⟨?_,?_,λk hk'=>?_,h.ge,h.inj,λv hv=>?_⟩,mem,by simp,by omega,kp.trans (((Keeps.push (S:=[]) _).n (by simp)).trans ((Keeps.set _ _).n λn hn=>(by rw[Ui.mp hn];omega)))⟩
  ·rw[Ud (by omega)];exact h2.o
  ·rw[Ud (by omega)];exact h2.d
  ·rw[FD];by_cases e:u.dropLast=k
   ·rw[Uf e,<-e,Zb (h2.l _ hk),UO];rfl
   ·rw[Uh e,Ud λz=>e (h.inj _ hk _ hk' z)];exact h2.l k hk'
  ·rcases Ut.mp hv with z|z
   ·exact h.all v z
   ·rw[Ui.mp z];exact hk
 ·rw[Uh hk]at sd;have ln:(g++[GO.lst []]).length=g.length+1:=by simp
  rw[ln]at sd;have new:((g++[GO.lst []]++[GO.lst []]).set (N+1) (.dcn false ((ks.map λk=>(Sum.inl k,D.ref (adr k)))++[(.inl u.dropLast,.ref (g.length+1))])))[g.length+1]?=some (.lst []):=by rw[Ud (by omega),<-ln];exact QM _
  have old:∀k∈ks,adr k<g.length+1:=λk hk=>by have:=QB (h.l k hk);omega
  refine⟨_,us++[u],ks++[u.dropLast],λk=>if k=u.dropLast then g.length+1 else adr k,fin sd new (by decide),⟨?_,?_,λk hk'=>?_,λk hk'=>?_,λk hk1 k' hk2 z=>?_,λv hv=>?_⟩,mem,by simp,by simp,kp.trans (((Keeps.push (S:=[]) _).n (by simp)).trans (((Keeps.set _ _).n λn hn=>(by rw[Ui.mp hn];omega)).trans ((Keeps.set _ _).n λn hn=>(by rw[Ui.mp hn];omega))))⟩
  ·rw[Ud (by omega),Ud (by omega)];exact h2.o
  ·rw[Ud (by omega),Zb h2.d,UO];have em:ks.map (λk=>((Sum.inl k:Ja),D.ref (if k=u.dropLast then g.length+1 else adr k)))=ks.map λk=>(.inl k,.ref (adr k)):=Tn λk hk'=>by rw[Uh λz:k=u.dropLast=>hk (z ▸ hk')]
   rw[em];simp
  ·rw[FD];by_cases e:u.dropLast=k
   ·rw[Uf e,Uf e.symm,Zb new,<-e,HV h hk];rfl
   ·have hk'':k∈ks:=(Ut.mp hk').elim id λz=>absurd (Ui.mp z).symm e;have:=old k hk'';have:=h.ge k hk'';rw[Uh e,Uh (Ne.symm e),Ud (by omega),Ud (by omega)];exact h2.l k hk''
  ·split
   ·omega
   ·next e=>exact h.ge k ((Ut.mp hk').elim id λz=>absurd (Ui.mp z) e)
  ·have mm:∀{k},k∈ks++[u.dropLast]->k≠u.dropLast->k∈ks:=λhk e=>(Ut.mp hk).elim id λz=>absurd (Ui.mp z) e;split at z
   ·next e=>
    split at z
    ·next e'=>rw[e,e']
    ·next e'=>have:=old k' (mm hk2 e');omega
   ·next e=>
    split at z
    ·have:=old k (mm hk1 e);omega
    ·next e'=>exact h.inj k (mm hk1 e) k' (mm hk2 e') z
  ·rcases Ut.mp hv with z|z
   ·exact Rz _ (h.all v z)
   ·rw[Ui.mp z];simp
theorem FE{x:D}{us:List (List Int)}(hs:QK g x=some (b,us.map QN))(hz:us.length<=1000):∃g' vs ks adr,Zd [x] g=.ok (.ref g.length) g'/\Gr g.length g' vs ks adr/\(∀u,u∈vs↔u∈us)/\vs.length<=us.length/\Keeps [] g g':=by
 have e1:YC 14 YI Qd [some x,none,none] g=.ok (.ref g.length) (g++[.ins 14 (Y9 (g.length+1)),.dcn false []]):=by unfold YC;rw[show Qd [some x,none,none] g=.ok [] g from rfl,Res.bind_ok,Vm,Res.bind_ok]
 have k1:Keeps [] g (g++[.ins 14 (Y9 (g.length+1)),.dcn false []]):=⟨by simp,λn o _ e=>by rw[Ul (QB e)];exact e⟩;obtain⟨src,s1,s2,s3⟩:=GB hs k1;rw[Ue]at s2;obtain⟨σ',g',e2,vs,ks,adr,x2,h1,h2,h3,h4,h5,h6⟩:=Mi (t:=Ql 2) (body:=JS) (n:=us.length) (σ:=[some x,vR g.length,none]) (g:=g++[.ins 14 (Y9 (g.length+1)),.dcn false []]) (src:=src) s2 (λi σ' g'=>∃vs ks adr x2,σ'=[some x,vR g.length,x2]/\Gr g.length g' vs ks adr/\(∀u,u∈vs↔u∈us.take i)/\vs.length<=i/\ks.length<=i/\Keeps [] g g')
  ⟨[],[],λ_=>0,none,rfl,⟨VA,Jx rfl,λ_ h=>(by cases h),λ_ h=>(by cases h),λ_ h=>(by cases h),λ_ h=>(by cases h)⟩,λu=>by simp,by simp,by simp,k1⟩ (λi σ' g' hi hh=>by
   obtain⟨vs,ks,adr,x2,h1,h2,h3,h4,h5,h6⟩:=hh;subst h1;obtain⟨g2,vs',ks',adr',a1,a2,a3,a4,a5,a6⟩:=iJ h2 (by omega) (by omega) us[i];exact⟨QN us[i],_,[some x,vR g.length,vM us[i]],g2,by rw[s3 _ _ h6];simp[hi],rfl,Zc (d:=.non) ((QY (n:=g.length) (g1:=g') (xs:=[QN us[i]]) (g2:=g') rfl h2.o (Lm _) rfl).trans a1),vs',ks',adr',vM us[i],rfl,a2,λu=>by rw[a3,h3,J8 (UK hi),Ut,Ui],by omega,by omega,((h6.n (by simp)).trans a6).keeps⟩) (λσ g2 hh=>by
   obtain⟨_,_,_,_,_,_,_,_,_,h6⟩:=hh;rw[s3 _ _ h6];simp)
 subst h1;rw[T8]at h3;refine⟨g',vs,ks,adr,Qq rfl ?_,h2,h3,h4,h6⟩;show Js [some x,none,none] g=_;unfold Js;exact Qe [some x,vR g.length,none] _ (Qt e1) (Qe _ g' ((JT (src:=src) (by unfold QL;rw[show Qa 0 [some x,vR g.length,none] (g++[.ins 14 (Y9 (g.length+1)),.dcn false []])=.ok x _ from rfl,Res.bind_ok,s1])).trans e2) rfl)
def Sds(g:G)(t:Nat)(sd:Bool->List (List Int)):Prop:=∃ad:Bool->Nat,g[t]?=some (.dct (Vz (ad false) (ad true)))/\∀y,∃ks adr,Gr (ad y) g (sd y) ks adr
theorem Sds.keep(h:Sds g t sd)(k:Keeps [] g g1):Sds g1 t sd:=let ⟨ad,h1,h2⟩:=h;⟨ad,k.at' _ _ (by simp) h1,λy=>let ⟨ks,adr,h3⟩:=h2 y;⟨ks,adr,h3.keep k⟩⟩
theorem bQ{ad:Bool->Nat}{a b:ME}{y:Bool}(h:g[t]?=some (.dct (Vz (ad false) (ad true))))(ha:a σ g=.ok (.ref t) g)(hb:b σ g=.ok (.str (wS y)) g):Qc ZA a b σ g=.ok (.ref (ad y)) g:=by refine Qn ha hb ((V9 h).trans ?_);cases y<;>rfl
theorem GC(h:Sds g t sd)(ha:a σ g=.ok (.ref t) g)(hb:b σ g=.ok (.str (wS y)) g)(he:e σ g=.ok (QN u) g):QD 14 "has" QX (Qc ZA a b) (Qb e Qd) σ g=.ok (.bl (decide (u∈sd y))) (g++[.lst []]):=by obtain⟨ad,h1,h2⟩:=h;obtain⟨ks,adr,h3⟩:=h2 y;exact(QY (n:=ad y) (g1:=g) (xs:=[QN u]) (g2:=g) (bQ h1 ha hb) h3.o (ED _) (Qh he rfl)).trans (SR h3 u)
theorem aG(h:Sds g t sd)(ha:a σ g=.ok (.ref t) g)(hb:b σ g=.ok (.str (wS y)) g)(he:e σ g=.ok (QN u) g):∃r,QD 14 "beginning" QJ (Qc ZA a b) (Qb e Qd) σ g=.ok (.ref r) (g++[.lst []])/\(g++[GO.lst []])[r]?=some (.lst ((cont (sd y) u).map QN)):=by obtain⟨ad,h1,h2⟩:=h;obtain⟨ks,adr,h3⟩:=h2 y;obtain⟨r,h4,h5⟩:=SQ h3 u;exact⟨r,(QY (n:=ad y) (g1:=g) (xs:=[QN u]) (g2:=g) (bQ h1 ha hb) h3.o (EC _) (Qh he rfl)).trans h4,h5⟩
def JK(T:HF)(sd:Bool->List (List Int))(cs:List Ct)(c:Ct):Bool:=match T c.2.1 c.2.2.1 with
 |none=>false|some (i,b,j)=>decide (Vy b c∈sd (!b))&&(cont (sd b) (J5 b c).tail).all λu=>decide (Cf i b j c u∈cs)
def Yg(cs:List Ct):List (Ja×D):=cs.map λc=>(.inr c,.bl true)
theorem HW(hM:g[M]?=some (ZR rows))(ht:Tb rows n m)(hw:1<=w)(hw2:w<=100)(okc:okC w n m c)(hs:Sds g t sd)(hl:∀y,(sd y).length<=1000)(hq:g[q]?=some (.dcf true (Yg cs))):
  ∃g',Xu [.ref M,.ref t,.ref q,Zg c] g=.ok (.bl (JK (TR rows) sd cs c)) g'/\Keeps [] g g':=by
 have e1:QF (Ql 4) (Qg Yn (Qb (Qa 0) (Qb (Qa 3) Qd))) [vR M,vR t,vR q,some (Zg c),none,none,none] g=.nx [vR M,vR t,vR q,some (Zg c),some (Mm rows c.2.1 c.2.2.1),none,none] g:=Qt ((Qo rfl).trans (JJ hM ht okc));obtain⟨_,_,_,eo⟩:=ht.at' okc.2.1.1 okc.2.1.2 okc.2.2.1.1 okc.2.2.1.2;rcases eo.cases with⟨a1,a2⟩|⟨i,b,j,a1,a2,_⟩
 ·rw[show JK (TR rows) sd cs c=false by unfold JK TR;rw[a2]];rw[a1]at e1;exact⟨g,Qq rfl (Qe _ g e1 (ZC (Vl g rfl rfl))),.refl⟩
 ·have hB:JK (TR rows) sd cs c=(decide (Vy b c∈sd (!b))&&(cont (sd b) (J5 b c).tail).all λu=>decide (Cf i b j c u∈cs)):=by unfold JK TR;rw[a2]
  rw[a1]at e1;rw[hB];have c3:∀{x5 x6:Option D}{g1:G},Qg Zu (Qb (Qa 4) (Qb (Qa 3) Qd)) [vR M,vR t,vR q,some (Zg c),some (Jf i b j),x5,x6] g1=.ok (QN (Vy b c)) g1:=(Qo rfl).trans (KJ ..);have c4:∀{x5 x6:Option D}{g1:G},ZW (Qg ZJ (Qb (Qa 4) (Qb (Qa 3) Qd))) (YQ (mI 1)) Zw [vR M,vR t,vR q,some (Zg c),some (Jf i b j),x5,x6] g1=.ok (QN (J5 b c).tail) g1:=λ{x5 x6 g1}=>by simp only[Yh,Y2,ZM,Sk];rw[Qo (ds:=[Jf i b j,Zg c]) (g':=g1) rfl,Ez];exact Mn _ _
  have c2:=GC (σ:=[vR M,vR t,vR q,some (Zg c),some (Jf i b j),some (.str (wS b)),none]) (a:=Qa 1) (b:=Qg Yt (Qb (Qa 5) Qd)) hs rfl ((Qo rfl).trans (HE b g)) (c3 (g1:=g));cases x1:decide (Vy b c∈sd (!b)) with
  |false =>rw[x1]at c2;exact⟨_,Qq rfl (Qe _ g e1 (Qe _ g (ZF g rfl rfl) (Qe _ g (Qt (d:=.str (wS b)) (g':=g) rfl) (ZC (Vl _ (QA c2) rfl))))),.push _⟩|true =>rw[x1]at c2;have k1:Keeps [] g (g++[GO.lst []]):=.push _;obtain⟨r,c5,c6⟩:=aG (σ:=[vR M,vR t,vR q,some (Zg c),some (Jf i b j),some (.str (wS b)),none]) (a:=Qa 1) (b:=Qa 5) (hs.keep k1) rfl rfl c4;have k2:=k1.trans (Keeps.push (S:=[]) (GO.lst []));obtain⟨g',c7,k3⟩:=Mu (σ:=[vR M,vR t,vR q,some (Zg c),some (Jf i b j),some (.str (wS b)),vR r]) (a:=Qa 6) (e:=Qc NP (Qg Q9 (Qb (Qa 2) (Qb (Qa 3) (Qb (Qa 0) Qd)))) (Qa 1)) (cap:=[2,4,3]) (σc:=[vR q,some (Jf i b j),some (Zg c)]) (λu=>decide (Cf i b j c u∈cs)) (g:=g++[GO.lst []]++[GO.lst []]) rfl (JG c6) (Uk (Uk (Wa ..) (hl b)) (by decide)) rfl λu hu g1 k=>⟨g1,by refine Qn (x:=Zg (Cf i b j c u)) (y:=.ref q) (g1:=g1) (g2:=g1) ((Qo rfl).trans (EB i b j c u g1 hw hw2 okc)) rfl ?_;unfold NP;dsimp only;rw[(k2.trans k).at' q _ (by simp) hq];dsimp only;rw[N1];dsimp only;rw[show YF (Yg cs) (.inr (Cf i b j c u))=_ from X1];split<;>next h=>simp[h],.refl⟩;refine⟨g',Qq rfl (Qe _ g e1 (Qe _ g (ZF g rfl rfl) (Qe _ g (Qt (d:=.str (wS b)) (g':=g) rfl) (Qe _ _ (ZF _ (QA c2) rfl) (Qe _ _ (Qt c5) (QP ?_)))))),k2.trans k3⟩;rw[Bool.true_and];exact c7
theorem Gr.set(h:Gr N g us ks adr)(hi:i<N)(o:GO):Gr N (g.set i o) us ks adr:=⟨by rw[Ud (by omega)];exact h.o,by rw[Ud (by omega)];exact h.d,λk hk=>by rw[Ud (by have:=h.ge k hk;omega)];exact h.l k hk,h.ge,h.inj,h.all⟩
theorem Og{ea eb:ME}{x y:D}{us vs:List (List Int)}(ha:∀g1,ea σ g1=.ok x g1)(hb:∀g1,eb σ g1=.ok y g1)(hx:QK g x=some (p,us.map QN))(hy:QK g y=some (p',vs.map QN))(hu:us.length<=1000)(hv:vs.length<=1000):
  ∃g' sd,JQ (Qb (Qp (.str "l")) (Qb (Qg Zd (Qb ea Qd)) (Qb (Qp (.str "r")) (Qb (Qg Zd (Qb eb Qd)) Qd)))) σ g=.ok (.ref g.length) g'/\Sds g' g.length sd/\(∀u,u∈sd false↔u∈us)/\(∀u,u∈sd true↔u∈vs)/\(∀y,(sd y).length<=1000)/\Keeps [] g g':=by
 have k0:Keeps [] g (g++[GO.dct []]):=.push _;have l0:(g++[GO.dct []]).length=g.length+1:=by simp
 obtain⟨g1,us',ks1,ad1,e1,r1,m1,n1,k1⟩:=FE (Z2 hx k0) hu;obtain⟨g2,vs',ks2,ad2,e2,r2,m2,n2,k2⟩:=FE (Z2 hy (k0.trans k1)) hv;have hd:g2[g.length]?=some (.dct []):=(k1.trans k2).at' _ _ (by simp) (QM _);have l1:=k1.len;refine⟨g2.set g.length (.dct (Vz (g++[GO.dct []]).length g1.length)),λy=>if y=true then vs' else us',?_,⟨λy=>if y=true then g1.length else (g++[GO.dct []]).length,?_,λy=>?_⟩,m1,m2,λy=>?_,⟨?_,λi o hi e=>?_⟩⟩
 ·unfold JQ;rw[Qh HN (Qh ((Qo (Qh (ha _) rfl)).trans e1) (Qh HQ (Qh ((Qo (Qh (hb _) rfl)).trans e2) rfl))),Res.bind_ok];unfold Fx;rw[show Vs [D.str (wS false),.ref (g++[GO.dct []]).length,.str (wS true),.ref g1.length]=some [(wS false,.ref (g++[GO.dct []]).length),(wS true,.ref g1.length)] from rfl,hd];show(if [(wS false,D.ref (g++[GO.dct []]).length),(wS true,.ref g1.length)].length<=15 then _ else _)=_;rw[Uf (by show 2<=15;decide),Mp]
 ·exact Zb hd
 ·cases y with
  |false=>exact⟨ks1,ad1,(r1.keep k2).set (by rw[l0];omega) _⟩|true=>exact⟨ks2,ad2,r2.set (by rw[l0]at l1;omega) _⟩
 ·cases y
  ·exact Uk n1 hu
  ·exact Uk n2 hv
 ·rw[UQ];exact(k0.trans (k1.trans k2)).len
 ·have:=QB e;rw[Ud (by omega)];exact(k0.trans (k1.trans k2)).at' i o hi e
theorem SS(cs:List Ct):Es (cs.map λc=>.tup [Zg c,.bl true])=some (Yg cs):=by
 rw[show(cs.map λc=>D.tup [Zg c,.bl true])=(Yg cs).map pC by unfold Yg;rw[Te];rfl];refine LP (λx y e a b=>?_) λk hk=>by obtain⟨_,_,rfl⟩:=UR.mp hk;rfl
 simp only[pC,D.tup.injEq,List.cons.injEq,and_true]at e;exact jC (IL e.1 (a.trans b.symm)) e.2
theorem aH(cs:List Ct)(c:Ct):Va (Yg cs) (.inr c) (.bl true)=Yg (if c∈cs then cs else cs++[c]):=by
 unfold Va;rw[show YF (Yg cs) (.inr c)=_ from X1];by_cases h:c∈cs
 ·rw[Uf h,Uf (show(some (D.bl true)).isSome=true from rfl),Uf h];unfold Yg;rw[Te];refine Tn λx _=>?_;show(if (Sum.inr x:Ja)=.inr c then ((Sum.inr x:Ja),D.bl true) else (.inr x,.bl true))=_;split<;>rfl
 ·rw[Uh h,Uh (by simp),Uh h];unfold Yg;rw[UO];rfl
theorem HX:∀(cs acc:List Ct),∃cs',(Yg cs).foldl (λks p=>Va ks p.1 p.2) (Yg acc)=Yg cs'/\(∀c,c∈cs'↔c∈acc\/c∈cs)/\cs'.length<=acc.length+cs.length
 |[],acc=>⟨acc,rfl,λc=>by simp,by simp⟩|c::cs,acc=>by
  obtain⟨cs',h1,h2,h3⟩:=HX cs (if c∈acc then acc else acc++[c]);refine⟨cs',?_,λx=>?_,?_⟩
  ·show(Yg cs).foldl _ (Va (Yg acc) (.inr c) (.bl true))=_;rw[aH];exact h1
  ·rw[h2];split
   ·next h=>simp only[UG];exact⟨λz=>z.imp id .inr,λz=>z.elim .inl λz=>z.elim (λe=>.inl (e ▸ h)) .inr⟩
   ·simp only[Ut,UG,List.not_mem_nil,or_false,or_assoc]
  ·split at h3
   ·simp only[UJ];omega
   ·simp only[Uq,UJ,Wt]at h3 ⊢;omega
theorem aI{a:ME}{x:D}{cs:List Ct}(ha:a σ g=.ok x g)(hs:QK g x=some (b,cs.map Zg))(hz:cs.length<=1000):∃g' cs',Qi Et (Zq (QL a) 1 [] (Ql 0) Zz (QQ Yy (Qb (Qa 0) (Qb (Qp (.bl true)) Qd)))) σ g=.ok (.ref g'.length) (g'++[.dcn true (Yg cs')])/\(∀c,c∈cs'↔c∈cs)/\cs'.length<=cs.length/\Keeps [] g g':=by obtain⟨g',h1,h2⟩:=HS (F:=λc=>.tup [Zg c,.bl true]) (σc:=[]) (cap:=[]) (e:=QQ Yy (Qb (Qa 0) (Qb (Qp (.bl true)) Qd))) ha hs (Uk hz (by decide)) rfl λc hc g1 k=>⟨g1,rfl,.refl⟩;obtain⟨cs',f1,f2,f3⟩:=HX cs [];refine⟨g'++[.lst (cs.map λc=>.tup [Zg c,.bl true])],cs',Q5 h1 ?_,λc=>by rw[f2];simp,by simpa using f3,h2.trans (.push _)⟩;unfold Et;dsimp only;rw[QM];dsimp only;rw[SS];dsimp only;rw[Uf (by unfold Yg;rw[Ue];exact Uk hz (by decide)),show(Yg cs).foldl (λks p=>Va ks p.1 p.2) []=Yg cs' from f1]
theorem ST(P:Ct->Bool)(hv:σ[i]?=some (vR q))(hq:g[q]?=some (.dcn true (Yg cs)))(hz:cs.length<=1000)(hc:X7 1 cap σ=none::σc)(he:∀c∈cs,∀g1,Keeps [] (g.set q (.dcf true (Yg cs))) g1->∃g2,e (some (Zg c)::σc) g1=.ok (.bl (P c)) g2/\Keeps [] g1 g2):
  ∃g',Qi XE (Er i 1 cap (Ql 0) Zz e) σ g=.ok (.bl (cs.all P)) g'/\Keeps [] g g':=by
 have ql:=QB hq;have e1:IW (Qa i) σ g=.ok ⟨λ_ i=>some (cs.map Zg)[i]?,cs.length⟩ (g.set q (.dcf true (Yg cs))):=by unfold IW Fw;rw[Zv hv,Res.bind_ok];unfold Hq;dsimp only;rw[hq];dsimp only;unfold Yg;rw[Te,Ue];rfl
 obtain⟨xs,σ',g',h1,h2,h3,_⟩:=Jm (src:=⟨λ_ i=>some (cs.map Zg)[i]?,cs.length⟩) (t:=Ql 0) (c:=Zz) (e:=e) (n:=cs.length)
  (λi σ' g1 acc=>acc=(cs.take i).map (λc=>.bl (P c))/\Keeps [] (g.set q (.dcf true (Yg cs))) g1/\∃u,σ'=u::σc) (λi σ' g1 acc hi ⟨h1,h2,u,h3⟩=>by obtain⟨g2,k1,k2⟩:=he cs[i] (Tk hi) g1 h2;subst h3;exact⟨Zg cs[i],some (Zg cs[i])::σc,g1,by simp[hi],rfl,.inl ⟨.bl (P cs[i]),g2,rfl,k1,by rw[h1,UZ hi,UO];rfl,h2.trans k2,_,rfl⟩⟩)
  (λσ g1 acc _=>by simp) (cs.length+1) 0 (none::σc) (g.set q (.dcf true (Yg cs))) [] (by omega) (by omega) ⟨by simp,.refl,none,rfl⟩
 rw[h2,T8]at h1;have c1:=CF (e:=e) (t:=Ql 0) (c:=Zz) e1 (Uk hz (by decide)) hc h1;have lg:=h3.len;rw[UQ]at lg;have qF:(g'++[GO.lst (cs.map λc=>.bl (P c))])[q]?=some (.dcf true (Yg cs)):=by rw[Ul (by omega)];exact h3.at' q _ (by simp) (Zb hq)
 refine⟨(g'++[GO.lst (cs.map λc=>.bl (P c))]).set q (.dcn true (Yg cs)),Q5 (x:=.ref g'.length) (g1:=(g'++[GO.lst (cs.map λc=>.bl (P c))]).set q (.dcn true (Yg cs))) ?_ ?_,⟨by rw[UQ,Uq];omega,λj o hj hg=>?_⟩⟩
 ·unfold Er;rw[Zv hv];dsimp only;rw[c1];dsimp only;rw[hq,qF]
 ·unfold XE;dsimp only;rw[Ud (by omega),QM];dsimp only;rw[V7]
 ·by_cases e:j=q
  ·subst e;rw[hq]at hg;cases hg;exact Zb qF
  ·rw[Ud (Ne.symm e),Ul (by have:=QB hg;omega)];exact h3.at' j o hj (by rw[Ud (Ne.symm e)];exact hg)
def iK(us vs:List (List Int))(b:Bool):List (List Int):=if b=true then vs else us
def clB(T:HF)(w:Nat)(us vs:List (List Int))(cs:List Ct):Bool:=decide (Yq w∈us)&&(decide (Yq w∈vs)&&(decide (Lr w∈cs)&&cs.all (JK T (iK us vs) cs)))
theorem Ls(h:∀y u,u∈sd y↔u∈sd' y)(hc:∀c,c∈cs↔c∈cs')(c:Ct):JK T sd cs c=JK T sd' cs' c:=by
 unfold JK;cases T c.2.1 c.2.2.1 with
 |none=>rfl|some e =>dsimp only;rw[Ri];simp only[UN,Tg,US,cont,U4,h,hc]
theorem aJ{cs cs':List α}{P:α->Bool}(hc:∀c,c∈cs↔c∈cs'):cs.all P=cs'.all P:=by rw[Ri];simp only[US,hc]
theorem MB(h:okG w m u)(hw:w<=100):gOk g (QN u):=⟨λx hx=>(by obtain⟨i,_,rfl⟩:=UR.mp hx;rfl),by rw[Ue,h.1];omega⟩
theorem aK(h:okG w m u):Y8 w m (QN u)=true:=by unfold Y8 QN;dsimp only;rw[UN,US];refine⟨by simp[h.1],λx hx=>?_⟩;obtain⟨i,hi,rfl⟩:=UR.mp hx;exact Us (h.2 i hi)
theorem oB(h:okC w n m c)(hw:w<=100):cOk g (Zg c):=⟨MB h.1 hw,rfl,rfl,MB h.2.2.2 hw⟩
theorem sE(h:okC w n m c):Vb w n m (Zg c)=true:=by show(decide _&&decide _&&_&&_)=true;rw[Us h.2.1,Us h.2.2.1,aK h.1,aK h.2.2.2];rfl
theorem EK{us:List α}{f:α->D}{P:D->Bool}{x:D}(h:QK g x=some (b,us.map f))(hP:∀u∈us,P (f u)=true):YX g P x=true:=by unfold YX;rw[h];exact US.mpr λd hd=>by obtain⟨u,hu,rfl⟩:=UR.mp hd;exact hP u hu
theorem Lu{us:List α}{f:α->D}{ok:D->Prop}{x:D}(h:QK g x=some (b,us.map f))(ho:∀u∈us,ok (f u))(hz:us.length<=1000):sOk g ok x:=.inl ⟨b,_,h,λd hd=>(by obtain⟨u,hu,rfl⟩:=UR.mp hd;exact ho u hu),by rw[Ue];exact hz⟩
theorem aL(h:QK g x=some (b,ds)):Zj x g=.ok (.int ds.length) g:=by
 unfold QK at h;cases x with
 |ref n=>
  dsimp only at h;cases hg:g[n]? with
  |none=>rw[hg]at h;cases h|some o=>
   rw[hg]at h;cases o with
   |lst xs=>cases h;exact Lk hg|_=>cases h
 |tup xs=>cases h;rfl|fl xs=>cases h;rfl|_=>cases h
theorem HY(hM:g[M]?=some (ZR rows))(ht:Tb rows n m)(hn:1<=n)(hw:1<=w)(hw2:w<=100)(ok:okP w n m us vs cs){a b c:D}(ha:QK g a=some (xa,us.map QN))(hb:QK g b=some (xb,vs.map QN))(hc:QK g c=some (xc,cs.map Zg)):
  ∃g',Z9 [.ref M,QO w a b c] g=.ok (.bl (clB (TR rows) w us vs cs)) g'/\Keeps [] g g':=by
 have lu:=ok.lu;have lv:=ok.lv;have lc:=ok.lc;obtain⟨g1,e1,k1⟩:=aF (W:=w) hM ht hn (by omega) (Lu ha (λu hu=>MB (ok.u u hu) hw2) (by omega)) (Lu hb (λu hu=>MB (ok.v u hu) hw2) (by omega)) (Lu hc (λu hu=>oB (ok.c u hu) hw2) (by omega));rw[EK ha λu hu=>aK (ok.u u hu),EK hb λu hu=>aK (ok.v u hu),EK hc λu hu=>sE (ok.c u hu)]at e1;have hc1:=Z2 hc k1;have c1:Qf (Qc VD (Qi Zj (Qc QG (Qa 1) (mI 4))) (mI 0)) [vR M,some (QO w a b c),none,none,none] g1=.ok (decide (cs=[])) g1:=by
  refine Qy (Qn (x:=.int cs.length) (y:=.int 0) (g1:=g1) (g2:=g1) (Q5 (x:=c) (g1:=g1) (by simp;exact ix_tup (n:=4) rfl) (by rw[aL hc1,Ue])) rfl ?_);rw[nT];cases cs with
  |nil=>rfl|cons x cs=>congr 2
 have c0:QR (Qf (Qg Yk (Qb (Qa 0) (Qb (Qa 1) Qd)))) [vR M,some (QO w a b c),none,none,none] g=.ok false g1:=QA (x:=true) ((Qo rfl).trans e1);by_cases hne:cs=[]
 ·rw[Us hne]at c1;rw[show clB (TR rows) w us vs cs=false by rw[hne];simp[clB]];exact⟨g1,Qq rfl (ZC (Vl g1 (YR c0 c1) rfl)),k1⟩
 rw[Uv hne]at c1;obtain⟨g2,sd,e2,s2,m1,m2,l2,k2⟩:=Og (g:=g1) (σ:=[vR M,some (QO w a b c),vM (Yq w),none,none]) (ea:=Qc QG (Qa 1) (mI 2)) (eb:=Qc QG (Qa 1) (mI 3)) (λg1=>by simp) (λg1=>by simp) (Z2 ha k1) (Z2 hb k1) (by omega) (by omega);obtain⟨g3,cs',e3,m3,l3,k3⟩:=aI (g:=g2) (σ:=[vR M,some (QO w a b c),vM (Yq w),vR g1.length,none]) (a:=Qc QG (Qa 1) (mI 4)) (x:=c) (by simp;exact ix_tup (n:=4) rfl) (Z2 hc1 k2) (by omega);have k4:Keeps [] g2 (g3++[.dcn true (Yg cs')]):=k3.trans (.push _);generalize hg4:g3++[GO.dcn true (Yg cs')]=g4 at k4 e3;have hq4:g4[g3.length]?=some (.dcn true (Yg cs')):=by rw[<-hg4];exact QM _
 have s4:=s2.keep k4;have h1:=GC (σ:=[vR M,some (QO w a b c),vM (Yq w),vR g1.length,vR g3.length]) (a:=Qa 3) (b:=Qp (.str "l")) (e:=Qa 2) (u:=Yq w) s4 rfl HN rfl;have k5:Keeps [] g4 (g4++[GO.lst []]):=.push _;have h2:=GC (σ:=[vR M,some (QO w a b c),vM (Yq w),vR g1.length,vR g3.length]) (a:=Qa 3) (b:=Qp (.str "r")) (e:=Qa 2) (u:=Yq w) (s4.keep k5) rfl HQ rfl;have k6:Keeps [] g4 (g4++[GO.lst []]++[GO.lst []]):=k5.trans (.push _);have hq6:=k6.at' _ _ (by simp) hq4;have h3:Qf (Qc ZP (QQ Yy (Qb (Qa 2) (Qb (mI 0) (Qb (mI 0) (Qb (Qa 2) Qd))))) (Qa 4)) [vR M,some (QO w a b c),vM (Yq w),vR g1.length,vR g3.length] (g4++[GO.lst []]++[GO.lst []])=.ok (!decide (Lr w∈cs)) (g4++[GO.lst []]++[GO.lst []]):=by refine Qy (Qn (x:=Zg (Lr w)) (y:=.ref g3.length) (g1:=g4++[GO.lst []]++[GO.lst []]) (g2:=g4++[GO.lst []]++[GO.lst []]) rfl rfl ?_);unfold ZP iY;dsimp only;rw[hq6];dsimp only;rw[N1];dsimp only;have hm:decide (Lr w∈cs)=decide (Lr w∈cs'):=Tj.mpr (m3 _).symm;rw[show YF (Yg cs') (.inr (Lr w))=_ from X1,hm];split<;>next h=>simp[h]
 refine Exists.imp (λ_=>And.imp (λh=>Qq rfl (Qe _ g1 (ZF g1 (bN c0 c1) rfl) (Qe _ g1 (Qt (Qn (x:=.tup [.int 0]) (y:=.int w) (g1:=g1) (g2:=g1) rfl rfl (Ms g1 hw hw2))) (Qe _ g2 (Qt e2) (Qe _ g4 (Qt e3) h))))) id) ?_;have kk:=(k1.trans k2).trans k4;unfold clB;rw[<-Tj.mpr (m1 (Yq w)),<-Tj.mpr (m2 (Yq w))];cases x1:decide (Yq w∈sd false) with
 |false =>rw[x1]at h1;exact⟨_,ZC (Vl _ (K9 (QA h1)) rfl),kk.trans k5⟩|true=>
  rw[x1]at h1;cases x2:decide (Yq w∈sd true) with
  |false =>rw[x2]at h2;exact⟨_,ZC (Vl _ (YR (QA h1) (K9 (QA h2))) rfl),kk.trans k6⟩|true=>
   rw[x2]at h2;cases x3:decide (Lr w∈cs) with
   |false =>rw[x3]at h3;exact⟨_,ZC (Vl _ (YR (QA h1) (YR (QA h2) h3)) rfl),kk.trans k6⟩|true=>
    rw[x3]at h3;have lg:=k3.len;have kS:Keeps [] g2 ((g4++[GO.lst []]++[GO.lst []]).set g3.length (.dcf true (Yg cs'))):=⟨by rw[UQ];exact(k4.trans k6).len,λj o hj e=>by rw[Ud (by have:=QB e;omega)];exact(k4.trans k6).at' j o hj e⟩;obtain⟨g8,e8,k8⟩:=ST (σ:=[vR M,some (QO w a b c),vM (Yq w),vR g1.length,vR g3.length]) (i:=4) (cap:=[0,3,4]) (σc:=[vR M,vR g1.length,vR g3.length]) (e:=Qg Xu (Qb (Qa 1) (Qb (Qa 2) (Qb (Qa 3) (Qb (Qa 0) Qd))))) (JK (TR rows) sd cs') rfl hq6 (by omega) rfl λx hx g7 k=>by exact HW (((k1.trans k2).trans (kS.trans k)).at' _ _ (by simp) hM) ht hw hw2 (ok.c x ((m3 x).mp hx)) (s2.keep (kS.trans k)) l2 (k.at' _ _ (by simp) (Zb hq6))
    refine⟨g8,Qe _ _ (ZF _ (YR (QA h1) (YR (QA h2) h3)) rfl) (QP ?_),(kk.trans k6).trans k8⟩;refine e8.trans ?_;rw[aJ m3,show JK (TR rows) sd cs'=JK (TR rows) (iK us vs) cs from funext λx=>Ls (λy u=>by cases y;exact m1 u;exact m2 u) m3 x];rfl
theorem Ke(h:Rp T g0 M g ad s gk)(ok:okS w n m T s)(f:Few w n m)(hv:σ[i]?=some (vR (ad .W))):Qi VZ (Qj [15] "contexts" (Qa i)) σ g=.ok (.int s.cs.length) g:=by refine Q5 (Xw h hv) ?_;unfold VZ iZ;dsimp only;rw[h.atC];dsimp only;rw[Ue,Uf (Uk (ok.cl f) (by decide))]
theorem HZ(h:Rp T g0 M g ad s gk)(hv:σ[i]?=some (vR (ad .W))):Qf (Qc GJ (Qi Zj (Qj [15] "pending" (Qa i))) (mI 0)) σ g=.ok (decide (s.pd≠[])) g:=by
 refine Qy (Qn (x:=.int (s.pd.map Zg).length) (y:=.int 0) (Q5 (XZ h hv) (Lk h.atP)) rfl ?_);rw[bP,Ue];congr 2;refine Tj.mpr ?_;cases s.pd with
 |nil=>simp|cons _ _=>simp
theorem FF(hM:g0[M]?=some (ZR rows))(ht:Tb rows n m)(f:Few w n m)  : ∀(fuel:Nat)(g:G)(ad:Ky->Nat)(s:PSt)(gk:GK),Rp (TR rows) g0 M g ad s gk->okS w n m (TR rows) s->KB w m gk->Cpl (TR rows) (Yq w) s->ad .W=W->900-s.dn.length<fuel->(∃g',ZH (Qf (Qc GJ (Qi Zj (Qj [15] "pending" (Qa 3))) (mI 0))) ZL fuel [vR M,vI w,vI most,vR W] g=.rt .non g'/\Keeps [] g0 g')\/(∃g' ad' s' gk',ZH (Qf (Qc GJ (Qi Zj (Qj [15] "pending" (Qa 3))) (mI 0))) ZL fuel [vR M,vI w,vI most,vR W] g=.nx [vR M,vI w,vI most,vR W] g'/\Rp (TR rows) g0 M g' ad' s' gk'/\okS w n m (TR rows) s'/\Cpl (TR rows) (Yq w) s'/\s'.pd=[]/\ad' .W=W)
 |0,_,_,_,_,_,_,_,_,_,h=>by omega
 |fuel+1,g,ad,s,gk,h,ok,kb,ne,hW,hf=>by
  subst hW;unfold ZH;rw[HZ h (σ:=[vR M,vI w,vI most,vR (ad .W)]) (i:=3) rfl];by_cases hp:s.pd=[]
  ·rw[Uv (λz=>z hp)];exact .inr ⟨g,ad,s,gk,rfl,h,ok,ne,hp,rfl⟩
  ·rw[Us hp];dsimp only;obtain⟨r,c,hpc⟩:∃r c,s.pd=r++[c]:=⟨_,_,(List.dropLast_concat_getLast hp).symm⟩;have e1:Qf (Qc GJ (Qi VZ (Qj [15] "contexts" (Qa 3))) (Qa 2)) [vR M,vI w,vI most,vR (ad .W)] g=.ok (decide (most<s.cs.length)) g:=Qy (Qn (x:=.int s.cs.length) (y:=.int most) (Ke h ok f rfl) rfl bP);have eb:∀{t:Bool}{g':G},Q2 [.ref (ad .W)] g=.ok (.bl t) g'->decide (most<s.cs.length)=false->ZL [vR M,vI w,vI most,vR (ad .W)] g=if t=true then .nx [vR M,vI w,vI most,vR (ad .W)] g' else .rt .non g':=λ{t g'} he hl=>by
    have e2:ZV (Qf (Qc GJ (Qi VZ (Qj [15] "contexts" (Qa 3))) (Qa 2))) (QR (Qf (QD 15 "went_on" Q2 (Qa 3) Qd))) [vR M,vI w,vI most,vR (ad .W)] g=.ok (!t) g':=by rw[Gq,e1,hl];dsimp only;rw[Uh Uj,Ml,Qy ((QY (n:=ad .W) (xs:=[]) (g2:=g) rfl h.atW (aA ..) rfl).trans he)]
    unfold ZL;cases t
    ·exact Vl _ e2 rfl
    ·exact ZF _ e2 rfl
   by_cases hl:most<s.cs.length
   ·have:ZL [vR M,vI w,vI most,vR (ad .W)] g=.rt .non g:=by unfold ZL;refine Vl g ?_ rfl;rw[Gq,e1,Us hl];rfl
    rw[this];exact .inl ⟨g,rfl,h.old⟩
   ·cases hT:TR rows c.2.1 c.2.2.1 with
    |none =>obtain⟨g',e2,k2⟩:=N7 hM ht h ok hpc hT;rw[eb e2 (Uv hl)];exact .inl ⟨g',rfl,k2⟩|some e=>
     obtain⟨i,b,j⟩:=e;obtain⟨g',ad',gk',e2,h2,ok2,kb2,oW⟩:=N8 hM ht h ok f kb hpc hT;rw[eb e2 (Uv hl),Uf rfl];have hdn:(Yw (TR rows) s c i b j).dn=s.dn++[c]:=by unfold Yw;dsimp only;rw[(J9 _ _).1];show(Zo (TR rows) (Jw s) (!b) (Vy b c)).dn++[c]=_;rw[(Kb _ _ _ _).1];rfl
     have l1:=ok2.l;have l2:=ok2.cl f;rw[hdn,Uq,Tq]at l1;exact FF hM ht f fuel g' ad' _ gk' h2 ok2 kb2 (Od ne hpc hT) oW (by rw[hdn,Uq,Tq];omega)
theorem Cpl.clB{s:PSt}(h:Cpl T (Yq w) s)(hp:s.pd=[])(hd:∀c∈s.dn,T c.2.1 c.2.2.1≠none){us vs:List (List Int)}{cs:List Ct}(mu:∀u,u∈us↔u∈s.gs false)(mv:∀u,u∈vs↔u∈s.gs true)(mc:∀c,c∈cs↔c∈s.cs):clB T w us vs cs=true:=by
 have ms:∀y u,u∈iK us vs y↔u∈s.gs y:=λy u=>by cases y;exact mu u;exact mv u
 have k:=h.cl hp;unfold L3.clB;simp only[UN,Tg,US];refine⟨(mu _).mpr (k.g0 _),(mv _).mpr (k.g0 _),(mc _).mpr k.c0,λc hc=>?_⟩;have hc:=(mc c).mp hc;have hn:=hd c ((h.all c hc).elim id λz=>by rw[hp]at z;cases z);unfold JK;cases hT:T c.2.1 c.2.2.1 with
 |none=>exact absurd hT hn|some e =>obtain⟨i,b,j⟩:=e;dsimp only;simp only[UN,Tg,US];exact⟨(ms _ _).mpr (k.bh c i b j hc hT),λu hu=>(mc _).mpr (k.nx c i b j u hc hT ((ms _ _).mp (U4.mp hu).1) (UC (U4.mp hu).2))⟩
theorem aM(hM:g0[M]?=some (ZR rows))(ht:Tb rows n m)(f:Few w n m):∃d g',XY [.ref M,.int w,.int 120] g0=.ok d g'/\Keeps [] g0 g'/\(d=.non\/∃us vs cs,Wl g' w d us vs cs/\okP w n m us vs cs/\clB (TR rows) w us vs cs=true):=by
 obtain⟨most,hmo⟩:∃most:Int,most=120:=⟨_,rfl⟩;rw[<-hmo];obtain⟨g1,e1,h1⟩:=SJ (T:=TR rows) (g0:=g0) (M:=M) (σ:=[vR M,vI w,vI most,none]) (a:=Qb (Qa 0) (Qb (Qa 1) Qd)) f rfl;have ok1:okS w n m (TR rows) (ask (Oa (Yq w)) (Lr w)):=(SH f).ask (iF f);have c1:Qf (Qc FZ (Qa 1) (mI 1)) [vR M,vI w,vI most,none] g0=.ok false g0:=by refine Qy (Qn (x:=.int w) (y:=.int 1) rfl rfl ?_);rw[bO,Uv (by have:=f.w1;omega)]
 rcases FF hM ht f (most:=most) (W:=g0.length) 1000 g1 (Cg g0.length) _ _ h1 ok1 (iG f) ⟨λy=>Ui.mpr rfl,(GA _ _ _).mpr (.inr rfl),λc _ _ _ hc=>(by cases hc),λc _ _ _ _ hc=>(by cases hc),λc hc=>.inr (by rcases(GA _ _ _).mp hc with z|rfl;(· cases z);exact Ui.mpr rfl)⟩ rfl (by omega) with⟨g',e2,k2⟩|⟨g',ad',s',gk',e2,h2,ok2,ne,hp,oW⟩
 ·refine⟨.non,g',Qq rfl ?_,k2,.inl rfl⟩;show JZ [vR M,vI w,vI most,none] g0=_;unfold JZ;refine Qe [vR M,vI w,vI most,none] g0 (ZF _ c1 rfl) ?_;refine Qe [vR M,vI w,vI most,vR g0.length] g1 (Qt e1) ?_;exact ZC (EH e2 (λz=>by cases z))
 ·have c2:Qf (Qc Ar (Qi VZ (Qj [15] "contexts" (Qa 3))) (Qa 2)) [vR M,vI w,vI most,vR g0.length] g'=.ok (decide ((s'.cs.length:Int)<=most)) g':=Qy (Qn (x:=.int s'.cs.length) (y:=.int most) (Ke h2 ok2 f (by rw[oW];rfl)) rfl nS);have st:∀{R:Out},Qz (ET (Qf (Qc Ar (Qi VZ (Qj [15] "contexts" (Qa 3))) (Qa 2))) (QD 15 "paper" ZQ (Qa 3) (Qb (Qa 1) Qd)) (Qp .non)) [vR M,vI w,vI most,vR g0.length] g'=R->JZ [vR M,vI w,vI most,none] g0=R:=λ{R} hR=>by unfold JZ;refine Qe [vR M,vI w,vI most,none] g0 (ZF _ c1 rfl) ?_;refine Qe [vR M,vI w,vI most,vR g0.length] g1 (Qt e1) ?_;exact Qe [vR M,vI w,vI most,vR g0.length] g' (EH e2 (λz=>by cases z)) hR
  by_cases hl:(s'.cs.length:Int)<=most
  ·obtain⟨d,g2,us,vs,cs,e3,q1,q2,q3,q4,q5,k3⟩:=SM h2 ok2 f (by omega);rw[oW]at e3;refine⟨_,g2,Qq rfl (st (QP (d:=d) (g':=g2) ?_)),k3,.inr ⟨us,vs,cs,q1,q2,ne.clB hp (λc hc=>(ok2.d c hc).2) q3 q4 q5⟩⟩;rw[Sl,c2,Us hl];dsimp only;rw[Uf rfl,QY (n:=g0.length) (xs:=[.int w]) (g2:=g') rfl (by rw[<-oW];exact h2.atW) (SC ..) rfl,e3]
  ·refine⟨.non,g',Qq rfl (st (QP (d:=.non) (g':=g') ?_)),h2.old,.inl rfl⟩;rw[Sl,c2,Uv hl];rfl
theorem BG{w:Int}{a b c:D}{s:Str}:Xs [QO w a b c,.str s] g=.ok (.bl false) g:=Qq rfl (ZC (Vl g (YR (QA (x:=true) (g1:=g) rfl) (K9 rfl)) rfl))
theorem Lv{M:Nat}{w:Int}{a b c:D}{g':G}(h:Z9 [.ref M,QO w a b c] g=.ok (.bl t) g'):Gj [.ref M,QO w a b c] g=.ok (.bl t) g':=by have e1:Xt [.ref M,QO w a b c] g=.ok (.bl false) g:=Qq rfl (ZC (Vl g (QA (x:=false) ((Qo (ds:=[QO w a b c,.str "same"]) (g':=g) rfl).trans BG)) rfl));have e2:Jc [.ref M,QO w a b c] g=.ok (.bl false) g:=Qq rfl (ZC (Vl g (QA (x:=false) ((Qo (ds:=[QO w a b c,.str "shifted"]) (g':=g) rfl).trans BG)) rfl));have e3:Jk [.ref M,QO w a b c] g=.ok (.bl false) g:=Qq rfl (ZC (Vl g (QA (x:=false) ((Qo (ds:=[QO w a b c]) (g':=g) rfl).trans (Qq rfl (ZC (Vl g (YR (QA (x:=true) (g1:=g) rfl) (K9 rfl)) rfl))))) rfl));refine Qq rfl (Qe _ g (ZF g (YR (Qy ((Qo rfl).trans e1)) (Qy ((Qo rfl).trans e2))) rfl) (QP ?_));have e4:Qg Jk (Qb (Qa 0) (Qb (Qa 1) Qd)) (List.map some [D.ref M,QO w a b c]++List.replicate 0 none) g=.ok (.bl false) g:=(Qo rfl).trans e3;unfold qU;rw[e4];show Qg Z9 (Qb (Qa 0) (Qb (Qa 1) Qd)) [some (D.ref M),some (QO w a b c)] g=_;exact(Qo rfl).trans h
def sg(b:Bool):Int:=if b=true then 1 else -1
def gw(C:Int->Int)(e x:Int)(w:Nat):List Int:=(List.range w).map λk:Nat=>C (x+e*k)
theorem X4(C:Int->Int)(e x:Int)(w:Nat):gw C e x (w+1)=C x::gw C e (x+e) w:=by
 unfold gw;rw[List.range_succ_eq_map,UH,Te];congr 1
 ·simp
 ·refine Tn λk _=>TY C ?_;simp only[Int.natCast_succ,Bd];omega
theorem CK(C:Int->Int)(e x:Int)(w:Nat):(gw C e x (w+1)).dropLast=gw C e x w:=by unfold gw;rw[List.range_succ,UO];simp
theorem Ia{C C':Int->Int}{e x:Int}{w:Nat}(h:∀k:Nat,k<w->C (x+e*k)=C' (x+e*k)):gw C e x w=gw C' e x w:=Tn λk hk=>h k (Wi.mp hk)
abbrev aN(C:Int->Int)(w:Nat)(p x:Int):Ct:=(gw C (-1) (x-1) w,p,C x,gw C 1 (x+1) w)
structure Sd(w:Nat)(us vs:List (List Int))(cs:List Ct)(C:Int->Int)(p x:Int):Prop where
 c:aN C w p x∈cs
 l:∀y,y<=x-2->gw C (-1) y w∈us
 r:∀y,x+2<=y->gw C 1 y w∈vs
theorem Sd.step(hc:clB T w us vs cs=true)(hw:1<=w)(h:Sd w us vs cs C p x):∃i b j,T p (C x)=some (i,b,j)/\Sd w us vs cs (λy=>if y=x then i else C y) j (x+sg b):=by
 unfold clB at hc;simp only[UN,Tg,US]at hc;have hh:=hc.2.2.2 _ h.c;unfold JK at hh;dsimp only at hh;cases hT:T p (C x) with
 |none=>rw[hT]at hh;cases hh|some e=>
  obtain⟨i,b,j⟩:=e;rw[hT]at hh;simp only[UN,Tg,US]at hh;refine⟨i,b,j,rfl,?_⟩;obtain⟨v,rfl⟩:∃v,w=v+1:=⟨w-1,by omega⟩;have ne:∀{e y:Int},(∀k:Nat,k<v+1->y+e*k≠x)->gw (λy=>if y=x then i else C y) e y (v+1)=gw C e y (v+1):=λhk=>Ia λk h=>Uh (hk k h);have ne':∀{e y:Int},(∀k:Nat,k<v+1->y+e*k≠x)->gw (λy=>if y=x then i else C y) e y v=gw C e y v:=λhk=>Ia λk h=>Uh (hk k (by omega));cases b with
  |true=>
   have h2:=hh.2 (gw C 1 (x+2) (v+1)) (U4.mpr ⟨h.r _ (Tw _),Us (by show _=(gw C 1 (x+1) (v+1)).tail;rw[CK,X4,show x+1+1=x+2 by omega];rfl)⟩);have e1:sg true=1:=rfl;rw[e1];refine⟨?_,λy hy=>?_,λy hy=>?_⟩
   ·have:aN (λy=>if y=x then i else C y) (v+1) j (x+1)=Cf i true j (aN C (v+1) p x) (gw C 1 (x+2) (v+1)):=by
     unfold Cf;rw[Uf rfl];show(_,_,_,_)=(_,_,_,_);rw[CK];congr 1
     ·rw[X4,ne' λk _=>by omega,show x+1-1 + -1=x-1 by omega];exact TY (· :: _) (Uf (by omega))
     ·congr 1;congr 1
      ·exact(Uh (by omega)).trans (by show _=(gw C 1 (x+1) (v+1)).headD 0;rw[X4];rfl)
      ·rw[ne λk _=>by omega,show x+1+1=x+2 by omega]
    rw[this];exact h2
   ·rw[ne λk _=>by omega];by_cases z:y=x-1
    ·rw[z];exact hh.1
    ·exact h.l y (by omega)
   ·rw[ne λk _=>by omega];exact h.r y (by omega)
  |false=>
   have h2:=hh.2 (gw C (-1) (x-2) (v+1)) (U4.mpr ⟨h.l _ (Tw _),Us (by show _=(gw C (-1) (x-1) (v+1)).tail;rw[CK,X4,show x-1 + -1=x-2 by omega];rfl)⟩);have e1:sg false = -1:=rfl;rw[e1];refine⟨?_,λy hy=>?_,λy hy=>?_⟩
   ·have:aN (λy=>if y=x then i else C y) (v+1) j (x + -1)=Cf i false j (aN C (v+1) p x) (gw C (-1) (x-2) (v+1)):=by
     unfold Cf;rw[Uh Uj];show(_,_,_,_)=(_,_,_,_);rw[CK];congr 1
     ·rw[ne λk _=>by omega,show x + -1-1=x-2 by omega]
     ·congr 1;congr 1
      ·exact(Uh (by omega)).trans (by show _=(gw C (-1) (x-1) (v+1)).headD 0;rw[X4,show x + -1=x-1 by omega];rfl)
      ·rw[X4,ne' λk _=>by omega,show x + -1+1+1=x+1 by omega];exact TY (· :: _) (Uf (by omega))
    rw[this];exact h2
   ·rw[ne λk _=>by omega];exact h.l y (by omega)
   ·rw[ne λk _=>by omega];by_cases z:y=x+1
    ·rw[z];exact hh.1
    ·exact h.r y (by omega)
theorem CL(e x:Int)(w:Nat):gw (λ_=>0) e x w=Yq w:=by unfold gw Yq;simp[List.map_const']
theorem Sd.start(hc:clB T w us vs cs=true):Sd w us vs cs (λ_=>0) 0 0:=by unfold clB at hc;simp only[UN,Tg]at hc;exact⟨by unfold aN;rw[CL,CL];exact hc.2.2.1,λy _=>by rw[CL];exact hc.1,λy _=>by rw[CL];exact hc.2.1⟩
def dk(kv:List (Int×Int)):List (DK×D):=kv.map λp=>(.inl p.1,.int p.2)
def cv(kv:List (Int×Int))(y:Int):Int:=((kv.find? λp=>decide (p.1=y)).map (·.2)).getD 0
def pz(kv:List (Int×Int))(x i:Int):List (Int×Int):=if (kv.any λp=>decide (p.1=x))=true then kv.map λp=>if p.1=x then (p.1,i) else p else kv++[(x,i)]
theorem X5(p:Int×Int)(r:List (Int×Int))(y:Int):cv (p::r) y=if p.1=y then p.2 else cv r y:=by
 unfold cv;rw[Td];by_cases h:p.1=y
 ·rw[Us h,Uf h];rfl
 ·rw[Uv h,Uh h]
theorem SU:∀(kv:List (Int×Int))(y:Int),(E1 (dk kv) (.inl y)).getD (.int 0)=.int (cv kv y)
 |[],y=>rfl|p::r,y=>by
  rw[X5];have ih:=SU r y;unfold E1 dk at ih ⊢;rw[UH,Td];by_cases h:p.1=y
  ·rw[Us (show(Sum.inl p.1:DK)=.inl y by rw[h]),Uf h];rfl
  ·rw[Uv (show ¬(Sum.inl p.1:DK)=.inl y from λz=>h (Sum.inl.inj z)),Uh h];exact ih
theorem iL(kv:List (Int×Int))(x i:Int):E2 (dk kv) (.inl x) (.int i)=dk (pz kv x i):=by
 have e:((dk kv).any λp=>decide (p.1=.inl x))=kv.any λp=>decide (p.1=x):=by unfold dk;rw[List.any_map];congr 1;funext p;exact Tj.mpr ⟨Sum.inl.inj,λz=>TY Sum.inl z⟩
 unfold E2 pz;rw[e];split
 ·unfold dk;rw[Te,Te];refine Tn λp _=>?_;show(if (Sum.inl p.1:DK)=.inl x then ((Sum.inl p.1:DK),D.int i) else (.inl p.1,.int p.2))=_;by_cases h:p.1=x
  ·rw[Uf (by rw[h])];simp[h]
  ·rw[Uh λz=>h (Sum.inl.inj z)];simp[h]
 ·unfold dk;rw[UO];rfl
theorem SV:∀(kv:List (Int×Int))(x i y:Int),cv (kv.map λp=>if p.1=x then (p.1,i) else p) y=if y=x/\(kv.any λp=>decide (p.1=x))=true then i else cv kv y
 |[],x,i,y=>by simp[cv]
 |p::r,x,i,y=>by
  rw[UH,X5,X5,SV r,Tu];by_cases h:p.1=x
  ·by_cases h2:y=x
   ·simp[h,h2]
   ·have:¬x=y:=λz=>h2 z.symm;simp[h,h2,this]
  ·rw[Uh h,Uv h,Bool.false_or];by_cases h2:y=x
   ·have:¬p.1=y:=λz=>h (z.trans h2);simp[h2,h]
   ·simp[h2]
theorem SW:∀(kv:List (Int×Int))(x i y:Int),(kv.any λp=>decide (p.1=x))=false->cv (kv++[(x,i)]) y=if y=x then i else cv kv y
 |[],x,i,y,_=>by
  rw[RC,X5];by_cases h:y=x
  ·simp[h]
  ·simp[h,show ¬x=y from λz=>h z.symm]
 |p::r,x,i,y,h=>by
  rw[Tu,Bool.or_eq_false_iff]at h;have hp:p.1≠x:=T4 h.1;rw[List.cons_append,X5,X5,SW r x i y h.2];by_cases h2:y=x
  ·subst h2;simp[hp]
  ·simp[h2]
theorem oE(kv:List (Int×Int))(x i:Int):cv (pz kv x i)=λy=>if y=x then i else cv kv y:=by
 funext y;unfold pz;cases h:kv.any λp=>decide (p.1=x) with
 |true=>rw[Uf rfl,SV];simp[h]|false=>rw[Uh Uj,SW _ _ _ _ h]
theorem aO{P:Int->Prop}{kv:List (Int×Int)}(h:∀p∈kv,P p.1)(hx:P x):∀p∈pz kv x i,P p.1:=λp hp=>by
 unfold pz at hp;split at hp
 ·obtain⟨q,hq,rfl⟩:=UR.mp hp;split<;>exact h q hq
 ·rcases Ut.mp hp with z|z
  ·exact h p z
  ·rw[Ui.mp z];exact hx
theorem iM:(pz kv x i).length<=kv.length+1:=by
 unfold pz;split
 ·rw[Ue];omega
 ·simp
theorem GD{o k:ME}(ho:o σ g=.ok (.ref n) g)(h:g[n]?=some (.dct (dk kv)))(hk:k σ g=.ok (.int y) g):XH o k (mI 0) σ g=.ok (.int (cv kv y)) g:=by unfold XH;rw[ho,Res.bind_ok];dsimp only;rw[h];dsimp only;rw[hk,Res.bind_ok];show(Res.ok (D.int 0) g).bind _=_;rw[Res.bind_ok];dsimp only;rw[h];dsimp only;rw[SU]
theorem iN{x y:Int}(h:cM x):XD (.int x) (.int y) g=.ok (.int (x*y)) g:=Uf (.inl h)
theorem GE(h:g[d]?=some (.dct (dk kv)))(he:cM e)(hw:w<=100)(x:Int):∃g',Y5 [.ref d,.int x,.int e,.int (w:Nat)] g=.ok (QN (gw (cv kv) e x w)) g'/\Keeps [] g g':=by
 obtain⟨g',e1,k1⟩:=HC (src:=Zs 0 w) (ds:=(List.range w).map λk:Nat=>.int k) (e:=XH (Qa 1) (Qc ZE (Qa 2) (Qc XD (Qa 3) (Qa 0))) (mI 0)) (no:=0) (σ:=[vR d,vI x,vI e]) (g:=g) (f:=λd=>match d with | .int k=>.int (cv kv (x+e*k))|d=>d) (by simp[Zs]) (λg1 i _=>by
   show some (if i<w then some (D.int (0+i)) else none)=_;by_cases hi:i<w
   ·rw[Uf hi];simp[hi]
   ·rw[Uh hi];simp[hi]) (λy hy g1 k1=>by
   obtain⟨k,_,rfl⟩:=UR.mp hy;exact⟨g1,GD (n:=d) rfl (k1.at' _ _ (by simp) h) (Qn (x:=.int x) (y:=.int (e*k)) (g1:=g1) (g2:=g1) rfl (Qn (x:=.int e) (y:=.int k) (g1:=g1) (g2:=g1) rfl rfl (iN he)) rfl),.refl⟩)
 have e2:=CF (it:=Zh (Qa 3)) (σ:=[vR d,vI x,vI e,vI w]) (g:=g) (n:=1) (cap:=[0,1,2]) (Jn rfl (KH (by omega))) (by show w<=SZ;unfold SZ;omega) rfl e1;refine⟨g'++[.lst (((List.range w).map λk:Nat=>D.int k).map λd=>match d with | .int k=>.int (cv kv (x+e*k))|d=>d)],Qq rfl (QP (Q5 e2 ?_)),k1.trans (Keeps.push _)⟩;unfold YD;dsimp only;rw[QM];dsimp only;rw[Te];unfold QN gw;rw[Te];rfl
def tk(ks:List Ja):List (Ja×D):=ks.map λk=>(k,.bl true)
def inK(k:Ja)(ks:List Ja):Bool:=ks.any λc=>decide (c=k)
theorem inK_iff:inK k ks=true↔k∈ks:=by unfold inK;rw[List.any_eq_true];exact⟨λ⟨x,h1,h2⟩=>UC h2 ▸ h1,λh=>⟨k,h,Us rfl⟩⟩
theorem Lw{k:Ja}:∀{ks:List Ja},YF (tk ks) k=if inK k ks=true then some (.bl true) else none
 |[]=>rfl|x::r=>by
  have ih:=Lw (k:=k) (ks:=r);unfold YF tk at ih ⊢;rw[UH,Td];unfold inK at ih ⊢;rw[Tu];by_cases h:x=k
  ·rw[Us (show(x,D.bl true).1=k from h)];rfl
  ·rw[Uv (show ¬(x,D.bl true).1=k from h),Bool.false_or];exact ih
theorem Ic{k:Ja}(h:g[q]?=some (.dcn τ (tk ks)))(hs:Yl τ d=some k):ZP d (.ref q) g=.ok (.bl (!inK k ks)) g:=by unfold ZP iY;dsimp only;rw[h];dsimp only;rw[hs];dsimp only;rw[Lw];cases inK k ks<;>rfl
theorem iO{k:Ja}(h:g[q]?=some (.dcn τ (tk ks)))(ho:o σ g=.ok (.ref q) g)(he:e σ g=.ok d g)(hs:Yl τ d=some k)(hz:ks.length<=1000):XI o e (Qp (.bl true)) σ g=.nx σ (g.set q (.dcn τ (tk (if inK k ks=true then ks else ks++[k])))):=by
 unfold XI;rw[Sk];dsimp only;rw[ho];dsimp only;rw[he];dsimp only;rw[h];dsimp only;rw[hs];dsimp only;rw[Uf (by unfold tk;rw[Ue];exact Vk hz)];congr 3;unfold Va;rw[Lw];by_cases h:inK k ks=true
 ·rw[Uf h,Uf (show(some (D.bl true)).isSome=true from rfl),Uf h];unfold tk;rw[Te];refine Tn λx _=>?_;show(if x=k then (x,D.bl true) else (x,.bl true))=_;split<;>rfl
 ·rw[Uh h,Uh (by simp),Uh h];unfold tk;rw[UO];rfl
theorem MC:∀kv:List (Int×Int),El (dk kv)=some (kv.map (·.1))
 |[]=>rfl|p::r=>by show(El (dk r)).map (p.1 :: ·)=_;rw[MC r];rfl
theorem EL:∀is:List Int,Ve (is.map .int)=some is
 |[]=>rfl|i::r=>by show(Ve (r.map .int)).map (i :: ·)=_;rw[EL r];rfl
theorem SX:∀{is:List Int},is≠[]->∃M,Kt is=some M
 |[],h=>absurd rfl h|i::r,_=>by unfold Kt;cases Kt r<;>exact⟨_,rfl⟩
theorem SY:∀{is:List Int},is≠[]->∃M,Ku is=some M
 |[],h=>absurd rfl h|i::r,_=>by unfold Ku;cases Ku r<;>exact⟨_,rfl⟩
theorem Oh(hd:g[d]?=some (.dct (dk kv)))(hl:kv.length<=100)(h3:σ[3]?=some (vR d))(h2:σ[2]?=some (vI x)):∃r g',Qc ZE (Qi KU (Qa 3)) (QQ ZD (Qb (Qa 2) Qd)) σ g=.ok (.ref r) g'/\g'[r]?=some (.lst ((kv.map (·.1)++[x]).map .int))/\Keeps [] g g':=by
 have e1:Qi KU (Qa 3) σ g=.ok (.ref g.length) (g++[.lst ((kv.map (·.1)).map .int)]):=by refine Q5 (Zv h3) ?_;unfold KU;dsimp only;rw[hd];dsimp only;rw[MC];dsimp only;rw[Uf (by rw[Ue];omega)]
 generalize hg1:g++[GO.lst ((kv.map (·.1)).map .int)]=g1 at e1;have l1:g1[g.length]?=some (.lst ((kv.map (·.1)).map .int)):=by rw[<-hg1];exact QM _
 have e2:QQ ZD (Qb (Qa 2) Qd) σ g1=.ok (.ref g1.length) (g1++[.lst [.int x]]):=by rw[Xv,Qh (Zv h2) (show Qd σ g1=.ok [] g1 from rfl)];exact Uf (show 1<=SZ by decide)
 generalize hg2:g1++[GO.lst [.int x]]=g2 at e2;have l2:g2[g1.length]?=some (.lst [.int x]):=by rw[<-hg2];exact QM _
 have l3:g2[g.length]?=some (.lst ((kv.map (·.1)).map .int)):=by rw[<-hg2,Ul (QB l1)];exact l1
 refine⟨g2.length,g2++[.lst ((kv.map (·.1)++[x]).map .int)],Qn e1 e2 ?_,QM _,((hg1 ▸ Keeps.push _:Keeps [] g g1).trans (hg2 ▸ Keeps.push _:Keeps [] g1 g2)).trans (Keeps.push _)⟩;unfold ZE;dsimp only;rw[l3,l2];dsimp only;rw[Uf (by simp;unfold SZ;omega),UO];rfl
theorem bR{j:Int}(h1:-1000<=j)(h2:j<=1000):On j:=⟨U2 (by decide) h1,Int.lt_of_le_of_lt h2 (by decide)⟩
theorem S0{f:D->G->Res D}{Z:List Int->Option Int}(hf:∀r g is,g[r]?=some (.lst (is.map .int))->∀M,Z is=some M->f (.ref r) g=.ok (.int M) g)(hz:∀{is},is≠[]->∃M,Z is=some M)(hm:∀{is M},Z is=some M->M∈is)(hd:g[d]?=some (.dct (dk kv)))(hl:kv.length<=100)(hk:∀q∈kv,-100<=q.1/\q.1<=100)(h3:σ[3]?=some (vR d))(h2:σ[2]?=some (vI x))(hx:-100<=x/\x<=100):∃M g',Qi f (Qc ZE (Qi KU (Qa 3)) (QQ ZD (Qb (Qa 2) Qd))) σ g=.ok (.int M) g'/\-100<=M/\M<=100/\Keeps [] g g':=by
 obtain⟨r,g',e1,l1,k1⟩:=Oh hd hl h3 h2;obtain⟨M,hM⟩:=hz (is:=kv.map (·.1)++[x]) (by simp);have:=hm hM;have hb : -100<=M/\M<=100:=by
  rcases Ut.mp this with z|z
  ·obtain⟨q,hq,rfl⟩:=UR.mp z;exact hk q hq
  ·rw[Ui.mp z];exact hx
 exact⟨M,g',Q5 e1 (hf r g' _ l1 M hM),hb.1,hb.2,k1⟩
theorem iP(h:g[r]?=some (.lst (is.map .int)))(hM:Kt is=some M):He (.ref r) g=.ok (.int M) g:=by unfold He;dsimp only;rw[h];dsimp only;rw[EL];dsimp only;rw[hM]
theorem iQ(h:g[r]?=some (.lst (is.map .int)))(hM:Ku is=some M):Hf (.ref r) g=.ok (.int M) g:=by unfold Hf;dsimp only;rw[h];dsimp only;rw[EL];dsimp only;rw[hM]
theorem FG{a b:ME}{i j:Int}(ha:a σ g=.ok (.int i) g)(hb:b σ g=.ok (.int j) g)(hi:-1000<=i/\i<=1000)(hj:-1000<=j/\j<=1000):Yr a b σ g=.ok (Zs i (j-i).toNat) g:=by unfold Yr;rw[ha,Res.bind_ok,hb,Res.bind_ok];exact Uf ⟨bR hi.1 hi.2,bR hj.1 hj.2⟩
abbrev E7(w:Nat)(A B Q:Nat):D:=.tup [.str "wall",.int w,.ref A,.ref B,.ref Q]
structure Kn(g:G)(us vs:List (List Int))(cs:List Ct)(A B Q:Nat):Prop where
 a:∃ks,g[A]?=some (.dcn false (tk ks))/\∀u∈us,inK (.inl u) ks=true
 b:∃ks,g[B]?=some (.dcn false (tk ks))/\∀u∈vs,inK (.inl u) ks=true
 c:∃ks,g[Q]?=some (.dcn true (tk ks))/\∀c∈cs,inK (.inr c) ks=true
theorem Kn.keep(h:Kn g us vs cs A B Q)(k:Keeps S g g1)(hA:A∉S)(hB:B∉S)(hQ:Q∉S):Kn g1 us vs cs A B Q:=⟨let ⟨ks,p,q⟩:=h.a;⟨ks,k.at' _ _ hA p,q⟩,let ⟨ks,p,q⟩:=h.b;⟨ks,k.at' _ _ hB p,q⟩,let ⟨ks,p,q⟩:=h.c;⟨ks,k.at' _ _ hQ p,q⟩⟩
theorem Id{body:MS}{a b:ME}{σ:S3}{g:G}{e i j:Int}{w:Nat}(hb:∀y g1,Keeps [] g g1->∃g2,body (σ.set 13 (vI y)) g1=(if inK (.inl (gw (cv kv) e y w)) ks=true then Out.nx (σ.set 13 (vI y)) g2 else .rt (.bl false) g2)/\Keeps [] g1 g2)(hr:Yr a b σ g=.ok (Zs i (j-i).toNat) g)(hin:∀y,i<=y->y<j->inK (.inl (gw (cv kv) e y w)) ks=true):∃y g',YT (Yr a b) (Ql 13) body σ g=.nx (σ.set 13 y) g'/\Keeps [] g g':=by
 obtain⟨σ',g',e1,⟨y,rfl⟩,k1⟩:=J4 (t:=Ql 13) (body:=body) (lo:=i) (n:=(j-i).toNat) (σ:=σ) (g:=g) (λ_ σ' g'=>(∃y,σ'=σ.set 13 y)/\Keeps [] g g') ⟨⟨(σ[13]?).getD none,by
   apply BM;intro k;by_cases h:k=13
   ·subst h;by_cases hl:13<σ.length
    ·rw[UT hl];simp[hl]
    ·rw[TZ (by omega),TZ (by rw[UQ];omega)]
   ·rw[Ud (Ne.symm h)]⟩,.refl⟩ (λk σ' g1 hk ⟨⟨y,q1⟩,q2⟩=>by
  obtain⟨g2,h1,h2⟩:=hb (i+k) g1 q2;rw[Uf (hin _ (by omega) (by omega))]at h1;refine⟨σ.set 13 (vI (i+k)),_,g2,?_,h1,⟨_,rfl⟩,q2.trans h2⟩;unfold Ql;rw[q1,Wp])
 exact⟨y,g',(JT hr).trans e1,k1⟩
theorem MD{σ:S3}{g:G}{ma mb:ME}{w:Nat}(hd:g[d]?=some (.dct (dk kv)))(hA:g[A]?=some (.dcn false (tk ks)))(he:cM e)(hw:w<=100)(h3:σ[3]?=some (vR d))(h5:σ[5]?=some (vI w))(hy:σ[13]?=some (vI y))(hm:∀g1,ma σ g1=.ok (.int e) g1)(hA':∀g1,mb σ g1=.ok (.ref A) g1):
  ∃g2,ZT (Qf (Qc ZP (Qg Y5 (Qb (Qa 3) (Qb (Qa 13) (Qb ma (Qb (Qa 5) Qd))))) mb)) (Qz (Qp (.bl false))) Qv σ g=(if inK (.inl (gw (cv kv) e y w)) ks=true then Out.nx σ g2 else .rt (.bl false) g2)/\Keeps [] g g2:=by
 obtain⟨g2,e1,k1⟩:=GE hd he hw y;have e2:Qg Y5 (Qb (Qa 3) (Qb (Qa 13) (Qb ma (Qb (Qa 5) Qd)))) σ g=.ok (QN (gw (cv kv) e y w)) g2:=(Qo (Qh (Zv h3) (Qh (Zv hy) (Qh (hm g) (Qh (Zv h5) (show Qd σ g=.ok [] g from rfl)))))).trans e1;have e3:=Qy (Qn e2 (hA' g2) (Ic (k1.at' _ _ (by simp) hA) (Ce _)));refine⟨g2,?_,k1⟩;cases h:inK (.inl (gw (cv kv) e y w)) ks with
 |true=>rw[h]at e3;exact ZF g2 e3 rfl|false=>rw[h]at e3;exact Vl g2 e3 rfl
theorem sX:cM 1:=by unfold cM;decide
theorem sY:cM (-1):=by unfold cM;decide
theorem FH(hk:Kn g us vs cs A B Q)(hd:g[d]?=some (.dct (dk kv)))(s:Sd w us vs cs (cv kv) p x)(hw:w<=100)(hx:-100<=x/\x<=100)(hq:∀q∈kv,-100<=q.1/\q.1<=100)(hl:kv.length<=100):∃g',Xm [E7 w A B Q,.int p,.int x,.ref d] g=.ok (.bl true) g'/\Keeps [] g g':=by
 obtain⟨ka,hA,ia⟩:=hk.a;obtain⟨kb,hB,ib⟩:=hk.b;obtain⟨kc,hQ,ic⟩:=hk.c;obtain⟨g1,e1,k1⟩:=GE hd sY hw (x-1);obtain⟨g2,e2,k2⟩:=GE (k1.at' _ _ (by simp) hd) sX hw (x+1);have K2:=k1.trans k2;have d2:=K2.at' _ _ (by simp) hd;obtain⟨lo,g3,e3,b1,b2,k3⟩:=S0 (f:=He) (λr g is h M hM=>iP h hM) SX (λh=>(Em h).1) d2 hl hq (σ:=[some (E7 w A B Q),vI p,vI x,vR d,some (.str "wall"),vI w,vR A,vR B,vR Q,vM (gw (cv kv) (-1) (x-1) w),vM (gw (cv kv) 1 (x+1) w),none,none,none]) rfl rfl hx;have K3:=K2.trans k3;obtain⟨hi,g4,e4,b3,b4,k4⟩:=S0 (f:=Hf) (λr g is h M hM=>iQ h hM) SY (λh=>(En h).1) (K3.at' _ _ (by simp) hd) hl hq (σ:=[some (E7 w A B Q),vI p,vI x,vR d,some (.str "wall"),vI w,vR A,vR B,vR Q,vM (gw (cv kv) (-1) (x-1) w),vM (gw (cv kv) 1 (x+1) w),vI lo,none,none]) rfl rfl hx;have K4:=K3.trans k4;have d4:=K4.at' _ _ (by simp) hd;obtain⟨y5,g5,e5,k5⟩:=Id (kv:=kv) (ks:=ka) (w:=w) (e:=-1) (i:=lo-1) (j:=x-1) (body:=Vg) (a:=Qc FY (Qa 11) (mI 1)) (b:=Qc FY (Qa 2) (mI 1)) (σ:=[some (E7 w A B Q),vI p,vI x,vR d,some (.str "wall"),vI w,vR A,vR B,vR Q,vM (gw (cv kv) (-1) (x-1) w),vM (gw (cv kv) 1 (x+1) w),vI lo,vI hi,none]) (g:=g4)
  (λy g1 q=>MD (q.at' _ _ (by simp) d4) ((K4.trans q).at' _ _ (by simp) hA) sY hw rfl rfl rfl (λ_=>rfl) λ_=>rfl) (FG rfl rfl ⟨by omega,by omega⟩ ⟨by omega,by omega⟩) λy _ hy=>ia _ (s.l y (by omega))
 have K5:=K4.trans k5;obtain⟨y6,g6,e6,k6⟩:=Id (kv:=kv) (ks:=kb) (w:=w) (e:=1) (i:=x+2) (j:=hi+2) (body:=Vh) (a:=Qc ZE (Qa 2) (mI 2)) (b:=Qc ZE (Qa 12) (mI 2)) (σ:=[some (E7 w A B Q),vI p,vI x,vR d,some (.str "wall"),vI w,vR A,vR B,vR Q,vM (gw (cv kv) (-1) (x-1) w),vM (gw (cv kv) 1 (x+1) w),vI lo,vI hi,y5]) (g:=g5)
  (λy g1 q=>MD (q.at' _ _ (by simp) (k5.at' _ _ (by simp) d4)) ((K5.trans q).at' _ _ (by simp) hB) sX hw rfl rfl rfl (λ_=>rfl) λ_=>rfl) (FG rfl rfl ⟨by omega,by omega⟩ ⟨by omega,by omega⟩) λy hy _=>ib _ (s.r y (by omega))
 refine⟨g6,Qq rfl ?_,K5.trans k6⟩;show Vt [some (E7 w A B Q),vI p,vI x,vR d,none,none,none,none,none,none,none,none,none,none] g=_;unfold Vt;refine Qe [some (E7 w A B Q),vI p,vI x,vR d,some (.str "wall"),vI w,vR A,vR B,vR Q,none,none,none,none,none] g rfl ?_;refine Qe [some (E7 w A B Q),vI p,vI x,vR d,some (.str "wall"),vI w,vR A,vR B,vR Q,vM (gw (cv kv) (-1) (x-1) w),none,none,none,none] g1 (Qt ((Qo rfl).trans e1)) ?_;refine Qe [some (E7 w A B Q),vI p,vI x,vR d,some (.str "wall"),vI w,vR A,vR B,vR Q,vM (gw (cv kv) (-1) (x-1) w),vM (gw (cv kv) 1 (x+1) w),none,none,none] g2 (Qt ((Qo rfl).trans e2)) ?_;refine Qe [some (E7 w A B Q),vI p,vI x,vR d,some (.str "wall"),vI w,vR A,vR B,vR Q,vM (gw (cv kv) (-1) (x-1) w),vM (gw (cv kv) 1 (x+1) w),none,none,none] g2 (ZF g2 (Qy (Qn (x:=Zg (aN (cv kv) w p x)) (y:=.ref Q) (g1:=g2) (g2:=g2) ?_ rfl (by rw[Ic (K2.at' _ _ (by simp) hQ) (N1 _),ic _ s.c];rfl))) rfl) ?_
 ·show QQ Yy _ _ _=_;rw[Xv,Qh (x:=QN (gw (cv kv) (-1) (x-1) w)) (g1:=g2) rfl (Qh (x:=.int p) (g1:=g2) rfl (Qh (GD (n:=d) rfl d2 (y:=x) rfl) (Qh (x:=QN (gw (cv kv) 1 (x+1) w)) (g1:=g2) rfl (show Qd _ g2=.ok [] g2 from rfl))))];exact EA _ _ (by show 4<=100;decide)
 refine Qe _ g3 (Qt e3) ?_;refine Qe _ g4 (Qt e4) ?_;refine Qe _ g5 e5 ?_;refine Qe _ g6 e6 ?_;rfl
theorem GF{a:ME}{σ:S3}{g:G}{L q:Nat}{τ:Bool}{ks:List Ja}(hL:g[L]?=some (.lst (ks.map kD)))(hq:g[q]?=some (.dcn τ []))(hks:∀k∈ks,Yl τ (kD k)=some k)(hz:ks.length<=1000)(h1:a σ g=.ok (.ref L) g)(l7:7<σ.length)(ho:∀y g1,Keeps [q] g g1->Qc QG (Qa 5) (Qa 6) (σ.set 7 y) g1=.ok (.ref q) g1):∃y g' acc,YT (QL a) (Ql 7) JR σ g=.nx (σ.set 7 y) g'/\g'[q]?=some (.dcn τ (tk acc))/\(∀k∈ks,inK k acc=true)/\Keeps [q] g g':=by
 have ne:L≠q:=λz=>by rw[z,hq]at hL;cases hL
 obtain⟨σ',g',e1,acc,y,q1,q2,q3,_,q4⟩:=CI (t:=Ql 7) (body:=JR) h1 hL (λi σ' g'=>∃acc y,σ'=σ.set 7 y/\g'[q]?=some (.dcn τ (tk acc))/\(∀k∈ks.take i,inK k acc=true)/\acc.length<=i/\Keeps [q] g g')
  ⟨[],σ[7],by simp,hq,by simp,Ug _,.refl⟩ (λi σ' g' ⟨_,_,_,_,_,_,k⟩=>k.at' _ _ (by simp[ne]) hL) (λi x σ' g' hx ⟨acc,y,q1,q2,q3,q5,q4⟩=>by
   rw[UL]at hx;obtain⟨k,hk,rfl⟩:=TW.mp hx;have hi:=(Um.mp hk).1;refine⟨σ.set 7 (some (kD k)),_,_,by unfold Ql;rw[q1,Wp],iO q2 (ho _ _ q4) (Zv (i:=7) (by rw[UT l7])) (hks k (TN hk)) (by omega),_,_,rfl,Zb q2,λk' hk'=>?_,?_,q4.trans ⟨by rw[UQ];exact Ug _,λn o hn e=>by rw[Ud (λz=>hn (by simp[z]))];exact e⟩⟩
   ·rw[J8 hk]at hk';refine inK_iff.mpr ?_;rcases Ut.mp hk' with z|z
    ·have:=inK_iff.mp (q3 k' z);split
     ·exact this
     ·exact Rz _ this
    ·rw[Ui.mp z];split
     ·next h=>exact inK_iff.mp h
     ·exact UX _ (Ui.mpr rfl)
   ·split
    ·omega
    ·rw[Uq];show acc.length+1<=_;omega)
 subst q1;exact⟨y,g',acc,e1,q2,λk hk=>q3 k (by rw[Ue,T8];exact hk),q4⟩
theorem GG(h1:src.at' g i=some (some d))(h2:t d σ=some σ1)(h3:body σ1 g=.nx σ2 g2):YS src t body (f+1) i σ g=YS src t body f (i+1) σ2 g2:=by rw[YS,h1];dsimp only;rw[h2];dsimp only;rw[h3]
theorem Oi(k:Keeps [] g0 g)(hd:g0.length<=d)(o:GO):Keeps [] g0 (g.set d o):=⟨by rw[UQ];exact k.len,λn u hn e=>by have:=QB e;rw[Ud (by omega)];exact k.at' n u hn e⟩
theorem S4{σ:S3}{i j:Nat}{e:ME}{p q:Int}(hr:tabOf N g t rows)(ht:Tb rows n m)(h0:0<=p)(h1:p<n)(h2:0<=q)(h3:q<m)(hi:σ[i]?=some (vR t))(hj:σ[j]?=some (vI p))(hk:e σ g=.ok (.int q) g):Qc QG (Qc QG (Qa i) (Qa j)) e σ g=.ok (Mm rows p q) g:=by
 obtain⟨r,r1,r2,_⟩:=ht.at' h0 h1 h2 h3;obtain⟨_,ds,d1,d2,d3⟩:=hr;have l1:p.toNat<ds.length:=by rw[d2];exact(Um.mp r1).1
 obtain⟨a,a1,_,_,a2⟩:=d3 p.toNat ds[p.toNat] r (by simp[l1]) r1;exact Qn (Qn (Zv hi) (Zv hj) (Sj d1 h0 (d:=.ref a) (by rw[<-a1];simp[l1]))) hk (Sj a2 h2 r2)
theorem tabOf.keep{rows:List (List D)}(h:tabOf N g t rows)(k:Keeps [] g g1):tabOf N g1 t rows:=h.mono k (by simp)
theorem aP{o k v:ME}(hv:v σ g=.ok (.int i) g)(ho:o σ g=.ok (.ref n) g)(hk:k σ g=.ok (.int x) g)(h:g[n]?=some (.dct (dk kv)))(hz:kv.length<=1000):Hd o k v σ g=.nx σ (g.set n (.dct (dk (pz kv x i)))):=by unfold Hd;rw[hv];dsimp only;rw[ho];dsimp only;rw[hk];dsimp only;rw[h];dsimp only;rw[Uf (by unfold dk;rw[Ue];exact Vk hz),iL]
structure Wk(g0:G)(w:Nat)(us vs:List (List Int))(cs:List Ct)(A B Q d i:Nat)(kv:List (Int×Int))(p x:Int)(g:G):Prop where
 s:Sd w us vs cs (cv kv) p x
 k:Kn g us vs cs A B Q
 d:g[d]?=some (.dct (dk kv))
 x : -(i:Int)<=x/\x<=i
 q:∀q∈kv,-(i:Int)<=q.1/\q.1<=i
 l:kv.length<=i
 o:Keeps [] g0 g
theorem Oj(hr:tabOf N g0 t rows)(ht:Tb rows n m)(ok:okP w n m us vs cs)(hc:clB (TR rows) w us vs cs=true)(hw:1<=w)(hw2:w<=100)(hd:g0.length<=d)(nA:A≠d)(nB:B≠d)(nQ:Q≠d)(h:Wk g0 w us vs cs A B Q d i kv p x g)(hi:i<60)(sh y5 y6 y7 y9:Option D):
  ∃kv' p' x' z9 g',Y1 [vR t,sh,vI p,vI x,vR d,y5,y6,y7,some (E7 w A B Q),y9] g=.nx [vR t,sh,vI p',vI x',vR d,y5,y6,y7,some (E7 w A B Q),z9] g'/\Wk g0 w us vs cs A B Q d (i+1) kv' p' x' g':=by
 obtain⟨s,k,dd,hx,hq,hl,o⟩:=h;obtain⟨a,b,j,hT,s'⟩:=s.step hc hw;obtain⟨_,⟨p0,p1⟩,⟨q0,q1⟩,_⟩:=ok.c _ s.c;obtain⟨a',b',j',hT',hE,_⟩:=Ka (c:=aN (cv kv) w p x) ht (ok.c _ s.c) (by show TR rows p (cv kv x)≠none;rw[hT];simp);have hT':TR rows p (cv kv x)=some (a',b',j'):=hT';rw[hT]at hT';cases hT';have hE:Mm rows p (cv kv x)=Jf a b j:=hE;obtain⟨g1,e1,k1⟩:=FH k dd s hw2 ⟨by omega,by omega⟩ (λz hz=>by have:=hq z hz;omega) (by omega);have d1:=k1.at' _ _ (by simp) dd;have e2:=S4 (σ:=[vR t,sh,vI p,vI x,vR d,y5,y6,y7,some (E7 w A B Q),y9]) (i:=0) (j:=2) (e:=XH (Qa 4) (Qa 3) (mI 0)) (hr.keep (o.trans k1)) ht p0 p1 q0 q1 rfl rfl (GD (n:=d) rfl d1 rfl);rw[hE]at e2;generalize hg2:g1.set d (.dct (dk (pz kv x a)))=g2;have hK:Keeps [d] g1 g2:=hg2 ▸ ⟨by rw[UQ];exact Ug _,λn u hn e=>by rw[Ud (λz=>hn (by simp[z]))];exact e⟩;have d2:g2[d]?=some (.dct (dk (pz kv x a))):=hg2 ▸ Zb d1;refine⟨pz kv x a,j,x+sg b,some (Jf a b j),g2++[.lst [.int (-1),.int 1]],?_,⟨by rw[oE];exact s',((k.keep k1 (by simp) (by simp) (by simp)).keep hK (by simpa using nA) (by simpa using nB) (by simpa using nQ)).keep (S:=[]) (Keeps.push _) (by simp) (by simp) (by simp),by rw[Ul (QB d2)];exact d2,?_,aO (P:=λy=>-((i+1:Nat):Int)<=y/\y<=((i+1:Nat):Int)) (λz hz=>by have:=hq z hz;omega) (by omega),Uk iM (by omega),((by rw[<-hg2];exact Oi (o.trans k1) hd _:Keeps [] g0 g2)).trans (Keeps.push _)⟩⟩
 ·unfold Y1;refine Qe [vR t,sh,vI p,vI x,vR d,y5,y6,y7,some (E7 w A B Q),y9] g1 (ZF g1 (QA (x:=true) ((Qo rfl).trans e1)) rfl) ?_;refine Qe [vR t,sh,vI p,vI x,vR d,y5,y6,y7,some (E7 w A B Q),some (Jf a b j)] g1 (Qt e2) ?_;refine Qe [vR t,sh,vI p,vI x,vR d,y5,y6,y7,some (E7 w A B Q),some (Jf a b j)] g1 (ZF g1 rfl rfl) ?_;refine Qe [vR t,sh,vI p,vI x,vR d,y5,y6,y7,some (E7 w A B Q),some (Jf a b j)] g2 (by rw[<-hg2];exact aP (n:=d) (Qn (x:=Jf a b j) (y:=.int 0) (g1:=g1) (g2:=g1) rfl rfl (ix_tup (n:=0) rfl)) rfl rfl d1 (by omega)) ?_;refine Qe [vR t,sh,vI j,vI x,vR d,y5,y6,y7,some (E7 w A B Q),some (Jf a b j)] g2 (Qt (Qn (x:=Jf a b j) (y:=.int 2) (g1:=g2) (g2:=g2) rfl rfl (ix_tup (n:=2) rfl))) ?_;refine Qt (Qn (x:=.int x) (y:=.int (sg b)) (g1:=g2) rfl (Qn (x:=.ref g2.length) (y:=.int (if b=true then 1 else 0)) (g1:=g2++[.lst [.int (-1),.int 1]]) (g2:=g2++[.lst [.int (-1),.int 1]]) ?_ (Q5 (x:=.bl b) (Qn (x:=.str (wS b)) (y:=.str "r") (Qn (x:=Jf a b j) (y:=.int 1) rfl rfl (ix_tup (n:=1) rfl)) rfl (by rw[bM];exact Ss b _)) rfl) ?_) rfl)
  ·rfl
  ·cases b
   ·exact XS (p:=0) (QM _) rfl
   ·exact XS (p:=1) (QM _) rfl
 ·cases b
  ·show _<=x + -1/\x + -1<=_;omega
  ·show _<=x+1/\x+1<=_;omega
theorem Ol(hr:tabOf N g t rows)(ht:Tb rows n m)(hw:1<=w)(hw2:w<=100)(ok:okP w n m us vs cs)(hc:clB (TR rows) w us vs cs=true)(hW:Wl g w d us vs cs):∃g',Vv [.ref t,d] g=.ok (.bl true) g'/\Keeps [] g g':=by
 obtain⟨a,b,c,rfl,ha,hb,hcc⟩:=hW;have lu:=ok.lu;have lv:=ok.lv;have lc:=ok.lc;obtain⟨N0,hN⟩:∃N0,N0=g.length:=⟨_,rfl⟩;generalize hg1:g++[GO.dct [],.dcn false [],.dcn false [],.dcn true [],.lst [.ref (N0+1),.ref (N0+2),.ref (N0+3)]]=g1;have at1:∀{k:Nat}{o:GO},[GO.dct [],.dcn false [],.dcn false [],.dcn true [],.lst [.ref (N0+1),.ref (N0+2),.ref (N0+3)]][k]?=some o->g1[N0+k]?=some o:=λh=>by rw[<-hg1];generalize [GO.dct [],.dcn false [],.dcn false [],.dcn true [],.lst [.ref (N0+1),.ref (N0+2),.ref (N0+3)]]=l at h ⊢;rw[hN];exact Jx h
 have K1:Keeps [] g g1:=hg1 ▸ ⟨by simp,λn o _ e=>by rw[Ul (QB e)];exact e⟩;have la:=QB ha;have lb:=QB hb;have lc':=QB hcc;have sd:∀{n:Nat}{g2 g3:G},n<N0->Keeps [N0+1] g1 g2->Keeps [N0+2] g2 g3->∀{o:GO},g[n]?=some o->g3[n]?=some o:=λ{n g2 g3} hn k2 k3 {o} e=>k3.at' _ _ (by simp;omega) (k2.at' _ _ (by simp;omega) (K1.at' _ _ (by simp) e));obtain⟨y1,g2,ka,e2,q2,i2,k2⟩:=GF (a:=Qc QG (Qa 1) (Qc ZE (mI 2) (Qa 6))) (σ:=[vR t,some (QO w (.ref a) (.ref b) (.ref c)),vI 0,vI 0,vR N0,vR (N0+4),vI 0,none,none,none]) (g:=g1) (L:=a) (q:=N0+1) (τ:=false) (ks:=us.map .inl) (by rw[K1.at' _ _ (by simp) ha,Te];rfl) (at1 rfl) (λk hk=>by obtain⟨u,_,rfl⟩:=UR.mp hk;exact Ce u) (by rw[Ue];omega) rfl (WZ rfl) (λy g3 k=>Qn (x:=.ref (N0+4)) (y:=.int 0) (g1:=g3) (g2:=g3) rfl rfl (XS (p:=0) (k.at' _ _ (by simp) (at1 (k:=4) rfl)) rfl));obtain⟨y2,g3,kb,e3,q3,i3,k3⟩:=GF (a:=Qc QG (Qa 1) (Qc ZE (mI 2) (Qa 6))) (σ:=[vR t,some (QO w (.ref a) (.ref b) (.ref c)),vI 0,vI 0,vR N0,vR (N0+4),vI 1,y1,none,none]) (g:=g2) (L:=b) (q:=N0+2) (τ:=false) (ks:=vs.map .inl) (by rw[k2.at' _ _ (by simp;omega) (K1.at' _ _ (by simp) hb),Te];rfl) (k2.at' _ _ (by simp) (at1 rfl)) (λk hk=>by obtain⟨u,_,rfl⟩:=UR.mp hk;exact Ce u) (by rw[Ue];omega) rfl (WZ rfl) (λy g3 k=>Qn (x:=.ref (N0+4)) (y:=.int 1) (g1:=g3) (g2:=g3) rfl rfl (XS (p:=1) (k.at' _ _ (by simp) (k2.at' _ _ (by simp) (at1 (k:=4) rfl))) rfl));have g34:g3[N0+4]?=some (.lst [.ref (N0+1),.ref (N0+2),.ref (N0+3)]):=k3.at' _ _ (by simp) (k2.at' _ _ (by simp) (at1 (k:=4) rfl));obtain⟨y3,g4,kc,e4,q4,i4,k4⟩:=GF (a:=Qc QG (Qa 1) (Qc ZE (mI 2) (Qa 6))) (σ:=[vR t,some (QO w (.ref a) (.ref b) (.ref c)),vI 0,vI 0,vR N0,vR (N0+4),vI 2,y2,none,none]) (g:=g3) (L:=c) (q:=N0+3) (τ:=true) (ks:=cs.map .inr) (by rw[sd (by omega) k2 k3 hcc,Te];rfl) (k3.at' _ _ (by simp) (k2.at' _ _ (by simp) (at1 rfl))) (λk hk=>by obtain⟨u,_,rfl⟩:=UR.mp hk;exact N1 u) (by rw[Ue];omega) rfl (WZ rfl) (λy g3 k=>Qn (x:=.ref (N0+4)) (y:=.int 2) (g1:=g3) (g2:=g3) rfl rfl (XS (p:=2) (k.at' _ _ (by simp) g34) rfl));have K4:Keeps [] g g4:=⟨Uk K1.len (Uk k2.len (Uk k3.len k4.len)),λn o _ e=>by have:=QB e;exact k4.at' _ _ (by simp;omega) (sd (by omega) k2 k3 e)⟩;have g44:=k4.at' (N0+4) _ (by simp) g34;have d4:g4[N0]?=some (.dct (dk [])):=k4.at' _ _ (by simp) (k3.at' _ _ (by simp) (k2.at' _ _ (by simp) (at1 (k:=0) rfl)));have kn:Kn g4 us vs cs (N0+1) (N0+2) (N0+3):=⟨⟨ka,k4.at' _ _ (by simp) (k3.at' _ _ (by simp) q2),λu hu=>i2 _ (Bm hu)⟩,⟨kb,k4.at' _ _ (by simp) q3,λu hu=>i3 _ (Bm hu)⟩,⟨kc,q4,λu hu=>i4 _ (Bm hu)⟩⟩;obtain⟨σ5,g5,e5,kv,p,x,z6,z9,q5,wk⟩:=J4 (t:=Ql 6) (body:=Y1) (lo:=0) (n:=60) (σ:=[vR t,some (QO w (.ref a) (.ref b) (.ref c)),vI 0,vI 0,vR N0,vR (N0+4),vI 2,y3,some (E7 w (N0+1) (N0+2) (N0+3)),none]) (g:=g4)
  (λi σ' g'=>∃kv p x z6 z9,σ'=[vR t,some (QO w (.ref a) (.ref b) (.ref c)),vI p,vI x,vR N0,vR (N0+4),z6,y3,some (E7 w (N0+1) (N0+2) (N0+3)),z9]/\Wk g w us vs cs (N0+1) (N0+2) (N0+3) N0 i kv p x g')
  ⟨[],0,0,_,_,rfl,Sd.start hc,kn,d4,⟨by omega,by omega⟩,by simp,Ug _,K4⟩ (λi σ' g' hi hh=>by obtain⟨kv,p,x,z6,z9,rfl,wk⟩:=hh;obtain⟨kv',p',x',z9',g2,h1,h2⟩:=Oj hr ht ok hc hw hw2 (by omega) (by omega) (by omega) (by omega) wk hi (some (QO w (.ref a) (.ref b) (.ref c))) (vR (N0+4)) (vI (0+i)) y3 z9;exact⟨_,_,g2,rfl,h1,kv',p',x',_,z9',rfl,h2⟩)
 subst q5;obtain⟨g6,e6,k6⟩:=FH wk.k wk.d wk.s hw2 ⟨by have:=wk.x;omega,by have:=wk.x;omega⟩ (λz hz=>by have:=wk.q z hz;omega) (by have:=wk.l;omega);refine⟨g6,Qq rfl ?_,wk.o.trans k6⟩;show Vu [vR t,some (QO w (.ref a) (.ref b) (.ref c)),none,none,none,none,none,none,none,none] g=_;unfold Vu;refine Qe [vR t,some (QO w (.ref a) (.ref b) (.ref c)),vI 0,none,none,none,none,none,none,none] g rfl ?_;refine Qe [vR t,some (QO w (.ref a) (.ref b) (.ref c)),vI 0,vI 0,none,none,none,none,none,none] g rfl ?_;refine Qe [vR t,some (QO w (.ref a) (.ref b) (.ref c)),vI 0,vI 0,vR N0,none,none,none,none,none] (g++[.dct []]) (Qt (by rw[hN];rfl)) ?_;refine Qe [vR t,some (QO w (.ref a) (.ref b) (.ref c)),vI 0,vI 0,vR N0,vR (N0+4),none,none,none,none] g1 (Qt ?_) ?_
 ·subst hN;rw[<-hg1,Xv];simp[Qb,Ym,Qd,Res.bind,ZD,SZ]
 refine Qe [vR t,some (QO w (.ref a) (.ref b) (.ref c)),vI 0,vI 0,vR N0,vR (N0+4),vI 2,y3,none,none] g4 ((JT (Jn (n:=3) rfl (KH (by omega)))).trans ?_) ?_
 ·exact(GG (σ1:=[vR t,some (QO w (.ref a) (.ref b) (.ref c)),vI 0,vI 0,vR N0,vR (N0+4),vI 0,none,none,none]) rfl rfl e2).trans ((GG (σ1:=[vR t,some (QO w (.ref a) (.ref b) (.ref c)),vI 0,vI 0,vR N0,vR (N0+4),vI 1,y1,none,none]) rfl rfl e3).trans ((GG (σ1:=[vR t,some (QO w (.ref a) (.ref b) (.ref c)),vI 0,vI 0,vR N0,vR (N0+4),vI 2,y2,none,none]) rfl rfl e4).trans rfl))
 refine Qe [vR t,some (QO w (.ref a) (.ref b) (.ref c)),vI 0,vI 0,vR N0,vR (N0+4),vI 2,y3,some (E7 w (N0+1) (N0+2) (N0+3)),none] g4 (Qt ?_) ?_
 ·have e:∀(p k:Nat)(i:Int),i=p->[D.ref (N0+1),.ref (N0+2),.ref (N0+3)][p]?=some (.ref k)->Qc QG (Qa 5) (Qp (.int i)) [vR t,some (QO w (.ref a) (.ref b) (.ref c)),vI 0,vI 0,vR N0,vR (N0+4),vI 2,y3,none,none] g4=.ok (.ref k) g4:=λp k i z h=>by subst z;exact Qn (x:=.ref (N0+4)) (y:=.int p) (g1:=g4) (g2:=g4) rfl rfl (XS g44 h)
  rw[Xv,Qh (x:=.str "wall") (g1:=g4) rfl (Qh (x:=.int w) (g1:=g4) (Qn (x:=QO w (.ref a) (.ref b) (.ref c)) (y:=.int 1) (g1:=g4) (g2:=g4) rfl rfl (ix_tup (n:=1) rfl)) (Qh (e 0 _ 0 rfl rfl) (Qh (e 1 _ 1 rfl rfl) (Qh (e 2 _ 2 rfl rfl) (show Qd _ g4=.ok [] g4 from rfl)))))];exact EA _ _ (by show 5<=100;decide)
 refine Qe _ g5 ((JT (Jn (n:=60) rfl (KH (by omega)))).trans e5) (QP ((Qo rfl).trans e6))
abbrev vT(xs:List D):Option D:=some (.tup xs)
abbrev vL(xs:List D):Option GO:=some (.lst xs)
def XC(t s p l r:D):List (Str×D):=[("table",t),("state",s),("place",p),("left_marks",l),("right_marks",r)]
theorem S5(t s p l r:D):(XC t s p l r).lookup (Str.ofString "table")=some t:=rfl
theorem S6(t s p l r:D):(XC t s p l r).lookup (Str.ofString "state")=some s:=rfl
theorem S8(t s p l r v:D):BQ "state" v (XC t s p l r)=XC t v p l r:=rfl
theorem S9(t s p l r:D):(XC t s p l r).lookup (Str.ofString "place")=some p:=rfl
theorem Aa(t s p l r v:D):BQ "place" v (XC t s p l r)=XC t s v l r:=rfl
theorem E8(t s p l r:D):(XC t s p l r).lookup (Str.ofString "left_marks")=some l:=rfl
theorem EM(t s p l r:D):(XC t s p l r).lookup (Str.ofString "right_marks")=some r:=rfl
def XF(L:List (Int×Nat)):List D:=L.map λp=>D.tup [.int p.1,.int (p.2:Nat)]
def Jy(rows:List (List D))(st:Nat)(pl:Int)(l r:Nat):GO:=.ins 12 (XC (.tup (rows.map .tup)) (.int st) (.int pl) (.ref l) (.ref r))
structure WRep(rows:List (List D))(w l r:Nat)(g:G)(st:Nat)(pl:Int)(L R:List (Int×Nat)):Prop where
 w':g[w]?=some (Jy rows st pl l r)
 l':g[l]?=vL (XF L)
 r':g[r]?=vL (XF R)
 wl:w≠l
 wr:w≠r
 lr:l≠r
theorem Kf(hv:σ[i]?=some (some (.ref w)))(h:g[w]?=some (.ins c fs))(hc:c∈cs)(hf:fs.lookup f=some d):Qj cs f (Qa i) σ g=.ok d g:=by unfold Qj Qi Qa;rw[hv];dsimp only;rw[Res.bind_ok];dsimp only;rw[h];dsimp only;rw[Uf hc,hf]
theorem WRep.place(W:WRep rows w l r g st pl L R)(hv:σ[i]?=some (some (.ref w))):Qj [12] "place" (Qa i) σ g=.ok (.int pl) g:=Kf hv W.w' (by simp) (S9 ..)
theorem WRep.state(W:WRep rows w l r g st pl L R)(hv:σ[i]?=some (some (.ref w))):Qj [12] "state" (Qa i) σ g=.ok (.int st) g:=Kf hv W.w' (by simp) (S6 ..)
theorem WRep.table(W:WRep rows w l r g st pl L R)(hv:σ[i]?=some (some (.ref w))):Qj [11,12] "table" (Qa i) σ g=.ok (.tup (rows.map .tup)) g:=Kf hv W.w' (by simp) (S5 ..)
theorem WRep.left(W:WRep rows w l r g st pl L R)(hv:σ[i]?=some (some (.ref w))):Qj [12] "left_marks" (Qa i) σ g=.ok (.ref l) g:=Kf hv W.w' (by simp) (E8 ..)
theorem WRep.right(W:WRep rows w l r g st pl L R)(hv:σ[i]?=some (some (.ref w))):Qj [12] "right_marks" (Qa i) σ g=.ok (.ref r) g:=Kf hv W.w' (by simp) (EM ..)
theorem JM(hv:σ[i]?=some (some (.ref w)))(h:g[w]?=some (.ins 12 fs))(hm:fs.lookup m=none)(ha:a σ g=.ok xs g2):QD 12 m f (Qa i) a σ g=f (.ref w::xs) g2:=by unfold QD Qa;rw[hv];dsimp only;rw[Res.bind_ok];dsimp only;rw[h];dsimp only;rw[Uf ⟨rfl,hm⟩,ha,Res.bind_ok]
def QT(L:List (Int×Nat))(x:Int):Option Nat:=match L.getLast? with
 |some (y,s)=>if y=x then some s else none
 |none=>none
theorem Xy(L:List (Int×Nat)):(XF L).length=L.length:=by simp[XF]
theorem Ab(h:L.getLast?=some p):EU (XF L) (-1)=some (.tup [.int p.1,.int (p.2:Nat)]):=by
 have hne:L≠[]:=λz=>by rw[z]at h;cases h
 have hpos:0<L.length:=List.length_pos_iff.mpr hne;unfold EU Nk;rw[Uh (by decide),Xy,Uf (by omega)];show(XF L)[((-1:Int)+(L.length:Int)).toNat]?=_;rw[show((-1:Int)+(L.length:Int)).toNat=L.length-1 by omega];rw[BH]at h;simp[XF,h]
theorem Ac(h:L.getLast?=none):L=[]:=by simpa using h
theorem Ad(ha:a σ g=.ok (.ref x) g)(hx:g[x]?=vL (XF L)):Qc GJ (Qi Zj a) (mI 0) σ g=.ok (.bl (decide (0<L.length))) g:=by refine Qn (x:=.int L.length) (g1:=g) (Q5 ha (by simp[Zj,hx,Xy])) rfl ?_;show Res.ok (D.bl (decide ((0:Int)<(L.length:Int)))) g=_;rw[show decide ((0:Int)<(L.length:Int))=decide (0<L.length) from Tj.mpr (by omega)]
theorem EN(ha:a σ g=.ok (.ref x) g)(hx:g[x]?=vL (XF L))(h:L.getLast?=some p)(hk:k=0\/k=1):Qc QG (Qc QG a (Qi JP (mI 1))) (Qp (.int k)) σ g=.ok (.int (if k=0 then p.1 else (p.2:Nat))) g:=by
 refine Qn (x:=.tup [.int p.1,.int (p.2:Nat)]) (g1:=g) (Qn (x:=.ref x) (y:=.int (-1)) (g1:=g) (g2:=g) ha rfl ?_) rfl ?_
 ·unfold QG;dsimp only;rw[hx];dsimp only;rw[Ab h]
 ·rcases hk with rfl|rfl<;>rfl
theorem MH(ha:a σ g=.ok (.ref x) g)(hx:g[x]?=vL (XF L))(hb:b σ g=.ok (.int y) g):
  YN (Qc GJ (Qi Zj a) (mI 0)) (Qc VD (Qc QG (Qc QG a (Qi JP (mI 1))) (mI 0)) b) σ g=.ok (.bl (QT L y).isSome) g:=by
 unfold YN;rw[Ad ha hx,Res.bind_ok];dsimp only;cases h:L.getLast? with
 |none =>have:=Ac h;subst this;rfl|some p=>
  have hne:L≠[]:=λz=>by rw[z]at h;cases h
  rw[Us (List.length_pos_iff.mpr hne),Uf rfl,Qn (EN ha hx h (.inl rfl)) hb rfl,Uf rfl,eq_int];unfold QT;rw[h];obtain⟨z,s⟩:=p;dsimp only;by_cases e:z=y
  ·rw[Uf e,e];simp
  ·rw[Uh e,Ta.mpr e];rfl
theorem Lx(W:WRep rows w l r g st pl L R):QS [.ref w] g=.ok (.bl (QT R pl).isSome) g:=Qq rfl (QP (MH (W.right rfl) W.r' (W.place rfl)))
theorem Kg(W:WRep rows w l r g st pl L R)(hv:σ[i]?=some (some (.ref w))):Qf (QD 12 "is_on_mark" QS (Qa i) Qd) σ g=.ok (QT R pl).isSome g:=Qy (by rw[JM hv W.w' rfl rfl];exact Lx W)
theorem Ae(W:WRep rows w l r g st pl L R)(hr:rows[st]?=some row)(hd:row[(QT R pl).getD 0]?=some d):Ji [.ref w] g=.ok d g:=by
 have hst:st<rows.length:=(Um.mp hr).1;have hs:(QT R pl).getD 0<row.length:=(Um.mp hd).1;refine Qq rfl ?_;show Xn [vR w,none] g=_;unfold Xn;refine Qe [vR w,vI ((QT R pl).getD 0:Nat)] g (Qt ?_) (QP ?_)
 ·unfold ET;rw[Kg W rfl,Res.bind_ok];cases h:QT R pl with
  |none=>rfl|some s=>
   have hl:R.getLast?=some (pl,s):=by
    unfold QT at h;cases hq:R.getLast? with
    |none=>rw[hq]at h;cases h|some p=>
     obtain⟨z,s'⟩:=p;rw[hq]at h;dsimp only at h;by_cases e:z=pl
     ·rw[Uf e]at h;cases h;rw[e]
     ·rw[Uh e]at h;cases h
   rw[show(some s).isSome=true from rfl,Uf rfl,EN (W.right rfl) W.r' hl (.inr rfl)];rfl
 ·have e1:QG (.tup (rows.map .tup)) (.int st) g=.ok (.tup row) g:=by unfold QG;dsimp only;unfold EU Nk;rw[Uf (by omega),Uf (by simp;omega)];simp[hr]
  have e2:QG (.tup row) (.int ((QT R pl).getD 0:Nat)) g=.ok d g:=by unfold QG;dsimp only;unfold EU Nk;rw[Uf (by omega),Uf (by omega)];simp[hd]
  exact Qn (Qn (W.table rfl) (W.state rfl) e1) rfl e2
theorem GH(h:QT R pl=some s):R.getLast?=some (pl,s):=by
 unfold QT at h;cases hq:R.getLast? with
 |none=>rw[hq]at h;cases h|some p=>
  obtain⟨z,s'⟩:=p;rw[hq]at h;dsimp only at h;by_cases e:z=pl
  ·rw[Uf e]at h;cases h;rw[e]
  ·rw[Uh e]at h;cases h
theorem MJ(ha:a σ g=.ok (.ref x) g)(hx:g[x]?=vL (XF L))(h:L.getLast?=some p):Qi Kp a σ g=.ok (.tup [.int p.1,.int (p.2:Nat)]) (g.set x (.lst (XF L.dropLast))):=by
 refine Q5 ha ?_;unfold Kp;dsimp only;rw[hx];dsimp only;have e:(XF L)[(XF L).length-1]?=some (.tup [.int p.1,.int (p.2:Nat)]):=by rw[BH]at h;rw[Xy];simp[XF,h]
 rw[e];dsimp only;have:(XF L).dropLast=XF L.dropLast:=by simp[XF,List.map_dropLast]
 rw[this]
theorem Ie(L:List (Int×Nat))(x:Int)(s:Nat):XF L++[.tup [.int x,.int s]]=XF (L++[(x,s)]):=by simp[XF]
theorem WRep.setR(W:WRep rows w l r g st pl L R):WRep rows w l r (g.set r (.lst (XF R'))) st pl L R':=⟨by rw[Ud (Ne.symm W.wr)];exact W.w',by rw[Ud (Ne.symm W.lr)];exact W.l',Zb W.r',W.wl,W.wr,W.lr⟩
theorem WRep.setL(W:WRep rows w l r g st pl L R):WRep rows w l r (g.set l (.lst (XF L'))) st pl L' R:=⟨by rw[Ud (Ne.symm W.wl)];exact W.w',Zb W.l',by rw[Ud W.lr];exact W.r',W.wl,W.wr,W.lr⟩
theorem WRep.setW(W:WRep rows w l r g st pl L R):WRep rows w l r (g.set w (Jy rows st' pl' l r)) st' pl' L R:=⟨Zb W.w',by rw[Ud W.wl];exact W.l',by rw[Ud W.wr];exact W.r',W.wl,W.wr,W.lr⟩
abbrev KW(w l r:Nat)(g g':G):Prop:=Keeps [w,l,r] g g'
theorem Xz(h:x=w\/x=l\/x=r):KW w l r g (g.set x o):=(Keeps.set x o).mono λn hn=>by rw[Ui.mp hn];rcases h with rfl|rfl|rfl<;>simp
def Yi(R:List (Int×Nat))(pl:Int):List (Int×Nat):=if (QT R pl).isSome=true then R.dropLast else R
def wrt(R:List (Int×Nat))(pl:Int)(s:Nat):List (Int×Nat):=Yi R pl++(if s=0 then [] else [(pl,s)])
theorem Af{s:Nat}(W:WRep rows w l r g st pl L R)(hz:R.length<1000):∃g',Jj [.ref w,.int s] g=.ok .non g'/\WRep rows w l r g' st pl L (wrt R pl s)/\KW w l r g g':=by
 have a1:∃g1,ZT (Qf (QD 12 "is_on_mark" QS (Qa 0) Qd)) (Q6 (Qi Kp (Qj [12] "right_marks" (Qa 0)))) Qv [vR w,vI s] g=.nx [vR w,vI s] g1/\WRep rows w l r g1 st pl L (Yi R pl)/\KW w l r g g1:=by
  unfold Yi;cases h:QT R pl with
  |none=>exact⟨g,ZF g ((Kg W rfl).trans (by rw[h];rfl)) rfl,by simpa using W,.refl⟩|some s'=>exact⟨_,Vl g ((Kg W rfl).trans (by rw[h];rfl)) (Zc (MJ (W.right rfl) W.r' (GH h))),by simpa using W.setR,Xz (.inr (.inr rfl))⟩
 obtain⟨g1,e1,W1,k1⟩:=a1;have hz1:(Yi R pl).length<1000:=by
  unfold Yi;split
  ·rw[Rb];omega
  ·exact hz
 by_cases hs:s=0
 ·refine⟨g1,Yp (σ:=[vR w,vI s]) rfl ?_,by unfold wrt;rw[Uf hs,U6];exact W1,k1⟩;show YH [vR w,vI s] g=_;unfold YH;exact Qe _ _ e1 (ZF g1 (Qy (Qn (x:=.int s) (y:=.int 0) (g1:=g1) (g2:=g1) rfl rfl (by rw[ne_int,hs];rfl))) rfl)
 ·refine⟨g1.set r (.lst (XF (Yi R pl++[(pl,s)]))),Yp (σ:=[vR w,vI s]) rfl ?_,by unfold wrt;rw[Uh hs];exact W1.setR,k1.trans (Xz (.inr (.inr rfl)))⟩;show YH [vR w,vI s] g=_;unfold YH;refine Qe _ _ e1 (Vl g1 (Qy (Qn (x:=.int s) (y:=.int 0) (g1:=g1) (g2:=g1) rfl rfl (by rw[ne_int,Ta.mpr (by omega)];rfl))) ?_);rw[<-Ie];refine NY (W1.right rfl) W1.r' ?_ (Vk (by rw[Xy];omega));have:(Qb (Qj [12] "place" (Qa 0)) (Qb (Qa 1) Qd)) [vR w,vI s] g1=.ok [.int pl,.int s] g1:=Qh (W1.place rfl) rfl;unfold QQ;rw[this,Res.bind_ok];rfl
theorem Ig(W:WRep rows w l r g st pl L R)(hv:σ[0]?=some (some (.ref w)))(he:e σ g=.ok (.int v) g):Qw [12] "place" (Qa 0) e σ g=.nx σ (g.set w (Jy rows st v l r)):=by unfold Qw Qa;rw[he];dsimp only;rw[hv];dsimp only;rw[W.w'];unfold Jy;dsimp only;rw[Uf ⟨by simp,by simp[XC]⟩,Aa]
theorem Ag(W:WRep rows w l r g st pl L R)(hv:σ[0]?=some (some (.ref w)))(he:e σ g=.ok (.int v) g):Qw [12] "state" (Qa 0) e σ g=.nx σ (g.set w (Jy rows v pl l r)):=by unfold Qw Qa;rw[he];dsimp only;rw[hv];dsimp only;rw[W.w'];unfold Jy;dsimp only;rw[Uf ⟨by simp,by simp[XC]⟩,S8]
def putAt(L:List (Int×Nat))(x:Int):Option Nat->List (Int×Nat)
 |some s=>L++[(x,s)]|none=>L
theorem Ih(ho:o σ g=.ok (.ref x) g)(ha:a σ g=.ok (.ref y) g)(hx:g[x]?=vL (XF A))(hy:g[y]?=vL (XF B))(hxy:x≠y)(h:B.getLast?=some p)(hz:A.length<1000):
  Q6 (Zp o (Qi Kp a)) σ g=.nx σ ((g.set y (.lst (XF B.dropLast))).set x (.lst (XF (A++[p])))):=by
 refine Zc (d:=.non) ?_;have hx1:(g.set y (.lst (XF B.dropLast)))[x]?=vL (XF A):=by rw[Ud (Ne.symm hxy)];exact hx
 have hz':(XF A).length<SZ:=Vk (by rw[Xy];omega);unfold Zp;rw[ho,Res.bind_ok];dsimp only;rw[hx];dsimp only;rw[MJ ha hy h,Res.bind_ok];rw[hx1];dsimp only;rw[Uf hz',Ie]
theorem Ii(W:WRep rows w l r g st pl L R)(hz:L.length<1000):∃g',Yj [.ref w] g=.ok .non g'/\WRep rows w l r g' st (pl+1) (putAt L pl (QT R pl)) (Yi R pl)/\KW w l r g g':=by
 have a1:∃g1,ZT (Qf (QD 12 "is_on_mark" QS (Qa 0) Qd)) (Q6 (Zp (Qj [12] "left_marks" (Qa 0)) (Qi Kp (Qj [12] "right_marks" (Qa 0))))) Qv [vR w] g=.nx [vR w] g1/\WRep rows w l r g1 st pl (putAt L pl (QT R pl)) (Yi R pl)/\KW w l r g g1:=by
  unfold Yi;cases h:QT R pl with
  |none=>exact⟨g,ZF g ((Kg W rfl).trans (by rw[h];rfl)) rfl,by simpa[putAt]using W,.refl⟩|some s'=>exact⟨_,Vl g ((Kg W rfl).trans (by rw[h];rfl)) (Ih (W.left rfl) (W.right rfl) W.l' W.r' W.lr (GH h) hz),by simpa[putAt]using (W.setR (R':=R.dropLast)).setL,(Xz (.inr (.inr rfl))).trans (Xz (.inr (.inl rfl)))⟩
 obtain⟨g1,e1,W1,k1⟩:=a1;refine⟨_,Yp (σ:=[vR w]) rfl ?_,W1.setW,k1.trans (Xz (.inl rfl))⟩;show Jb [vR w] g=_;unfold Jb;exact Qe _ _ e1 (Ig W1 rfl (Qn (W1.place rfl) rfl rfl))
theorem Ly(W:WRep rows w l r g st pl L R)(hz:R.length<1000):∃g',YG [.ref w] g=.ok .non g'/\WRep rows w l r g' st (pl-1) (Yi L (pl-1)) (putAt R (pl-1) (QT L (pl-1)))/\KW w l r g g':=by
 have W1:WRep rows w l r (g.set w (Jy rows st (pl-1) l r)) st (pl-1) L R:=W.setW;have k1:KW w l r g (g.set w (Jy rows st (pl-1) l r)):=Xz (.inl rfl);have e1:Qw [12] "place" (Qa 0) (Qc FY (Qj [12] "place" (Qa 0)) (mI 1)) [vR w] g=.nx [vR w] (g.set w (Jy rows st (pl-1) l r)):=Ig W rfl (Qn (W.place rfl) rfl rfl);generalize g.set w (Jy rows st (pl-1) l r)=g1 at W1 k1 e1;have t1:Vd (Qf (Qc GJ (Qi Zj (Qj [12] "left_marks" (Qa 0))) (mI 0))) (Qf (Qc VD (Qc QG (Qc QG (Qj [12] "left_marks" (Qa 0)) (Qi JP (mI 1))) (mI 0)) (Qj [12] "place" (Qa 0)))) [vR w] g1=.ok (QT L (pl-1)).isSome g1:=by
  have:=MH (σ:=[vR w]) (W1.left (i:=0) rfl) W1.l' (W1.place (i:=0) rfl);unfold YN at this;unfold Vd Qf;rw[Ad (W1.left rfl) W1.l',Res.bind_ok]at this ⊢;dsimp only at this ⊢;rw[Res.bind_ok];by_cases hp:0<L.length
  ·rw[Us hp,Uf rfl]at this ⊢;rw[this,Res.bind_ok]
  ·rw[Uv hp,Uh Uj]at this ⊢;injection this with a b;injection a with a;rw[<-a]
 have a2:∃g2,Jr [vR w] g=.nx [vR w] g2/\WRep rows w l r g2 st (pl-1) (Yi L (pl-1)) (putAt R (pl-1) (QT L (pl-1)))/\KW w l r g g2:=by
  unfold Jr Yi;cases h:QT L (pl-1) with
  |none=>exact⟨g1,Qe _ _ e1 (ZF g1 (t1.trans (by rw[h];rfl)) rfl),by simpa[putAt]using W1,k1⟩|some s'=>exact⟨_,Qe _ _ e1 (Vl g1 (t1.trans (by rw[h];rfl)) (Ih (W1.right rfl) (W1.left rfl) W1.r' W1.l' (Ne.symm W1.lr) (GH h) hz)),by simpa[putAt]using (W1.setL (L':=L.dropLast)).setR,k1.trans ((Xz (.inr (.inl rfl))).trans (Xz (.inr (.inr rfl))))⟩
 obtain⟨g2,e2,W2,k2⟩:=a2;exact⟨g2,Yp rfl e2,W2,k2⟩
def pF(d:D)(pl:Int)(L R:List (Int×Nat)):Option (Nat×Int×List (Int×Nat)×List (Int×Nat)):=match d with
 |.tup [.int a,.str y,.int b]=>some (if y=rS then (b.toNat,pl+1,putAt L pl (QT (wrt R pl a.toNat) pl),Yi (wrt R pl a.toNat) pl) else (b.toNat,pl-1,Yi L (pl-1),putAt (wrt R pl a.toNat) (pl-1) (QT L (pl-1))))|_=>none
theorem MK(R:List (Int×Nat))(pl:Int)(s:Nat):(wrt R pl s).length<=R.length+1:=by unfold wrt Yi;rw[Uq];split<;>split<;>simp<;>omega
theorem Lz{row:List D}{d:D}{n m:Nat}(W:WRep rows w l r g st pl L R)(hr:rows[st]?=some row)(hd:row[(QT R pl).getD 0]?=some d)(ho:entOk d n m)(hzL:L.length<900)(hzR:R.length<900):
  (d=.non/\Zm [.ref w] g=.ok (.bl false) g)\/∃st' pl' L' R' g',pF d pl L R=some (st',pl',L',R')/\Zm [.ref w] g=.ok (.bl true) g'/\WRep rows w l r g' st' pl' L' R'/\KW w l r g g':=by
 have e0:QF (Ql 1) (QD 12 "entry" Ji (Qa 0) Qd) [vR w,none] g=.nx [vR w,some d] g:=Qt (by rw[JM rfl W.w' rfl rfl];exact Ae W hr hd);rcases ho with rfl|⟨a,b,y,rfl,a1,a2,b1,b2,yy⟩
 ·refine .inl ⟨rfl,Qq rfl ?_⟩;show ZY [vR w,none] g=_;unfold ZY;exact Qe _ _ e0 (ZC (Vl g rfl rfl))
 ·right;obtain⟨g1,e1,W1,k1⟩:=Af (s:=a.toNat) W (by omega);have ea:((a.toNat:Nat):Int)=a:=by omega
  have eb:((b.toNat:Nat):Int)=b:=by omega
  rw[ea]at e1;have hl1:=MK R pl a.toNat;have hw:Q6 (QD 12 "write" Jj (Qa 0) (Qb (Qc QG (Qa 1) (mI 0)) Qd)) [vR w,vT [.int a,.str y,.int b]] g=.nx [vR w,vT [.int a,.str y,.int b]] g1:=Zc (d:=.non) (by rw[JM rfl W.w' rfl (xs:=[.int a]) (g2:=g) rfl];exact e1);have fin:∀{pl' L' R' g2},ZT (Qf (Qc VD (Qc QG (Qa 1) (mI 1)) (Qp (.str "r")))) (Q6 (QD 12 "go_right" Yj (Qa 0) Qd)) (Q6 (QD 12 "go_left" YG (Qa 0) Qd)) [vR w,vT [.int a,.str y,.int b]] g1=.nx [vR w,vT [.int a,.str y,.int b]] g2->WRep rows w l r g2 st pl' L' R'->KW w l r g1 g2->∃g',Zm [.ref w] g=.ok (.bl true) g'/\WRep rows w l r g' b.toNat pl' L' R'/\KW w l r g g':=λ{pl' L' R' g2} h W2 k2=>by refine⟨g2.set w (Jy rows b.toNat pl' l r),Qq rfl ?_,W2.setW,(k1.trans k2).trans (Xz (.inl rfl))⟩;show ZY [vR w,none] g=_;unfold ZY;refine Qe _ _ e0 (Qe _ g (ZF g rfl rfl) (Qe _ _ hw (Qe _ _ h (Qe _ _ (Ag W2 rfl ?_) rfl))));rw[eb];rfl
  have t:Qf (Qc VD (Qc QG (Qa 1) (mI 1)) (Qp (.str "r"))) [vR w,vT [.int a,.str y,.int b]] g1=.ok (y==rS) g1:=by rw[bM];exact Qy (Qn (x:=.str y) (Qn rfl rfl rfl) rfl rfl)
  by_cases hy:y=rS
  ·obtain⟨g2,e2,W2,k2⟩:=Ii W1 (by omega);obtain⟨g',e3,W3,k3⟩:=fin (Vl g1 (t.trans (by simp[hy])) (Zc (d:=.non) (by rw[JM rfl W1.w' rfl rfl];exact e2))) W2 k2;exact⟨_,_,_,_,g',by unfold pF;dsimp only;rw[Uf hy],e3,W3,k3⟩
  ·obtain⟨g2,e2,W2,k2⟩:=Ly W1 (by omega);obtain⟨g',e3,W3,k3⟩:=fin (ZF g1 (t.trans (by simp[hy])) (Zc (d:=.non) (by rw[JM rfl W1.w' rfl rfl];exact e2))) W2 k2;exact⟨_,_,_,_,g',by unfold pF;dsimp only;rw[Uh hy],e3,W3,k3⟩
def Rt(e:Int)(C:Int->Int):List (Int×Nat)->Int->Prop
 |[],x=>∀k:Nat,C (x+e*k)=0| (p,s)::M,x=>s≠0/\C p=s/\(∃k:Nat,p=x+e*k/\∀j:Nat,j<k->C (x+e*j)=0)/\Rt e C M (p+e)
theorem Rt.congr{e:Int}{C C':Int->Int}:∀{M:List (Int×Nat)}{x:Int},Rt e C M x->(∀k:Nat,C' (x+e*k)=C (x+e*k))->Rt e C' M x
 |[],_,h,hc=>λk=>(hc k).trans (h k)
 | (p,s)::M,x,⟨h1,h2,⟨k,h3,h4⟩,h5⟩,hc=>⟨h1,by rw[h3,hc,<-h3];exact h2,⟨k,h3,λj hj=>(hc j).trans (h4 j hj)⟩,h5.congr λj=>by have:=hc (k+1+j);rw[h3,show x+e*k+e+e*j=x+e*((k+1+j:Nat):Int) by simp only[RX,Wv,Bd];omega];exact this⟩
theorem Rt.next{e x:Int}(he:e≠0):∀{M:List (Int×Nat)},Rt e C M x->(M.head?.bind (λp=>if p.1=x then some p.2 else none))=(if C x=0 then none else some (C x).toNat)/\Rt e C (if (M.head?.bind (λp=>if p.1=x then some p.2 else none)).isSome=true then M.tail else M) (x+e)
 |[],h=>by
  have h0:C x=0:=by simpa using h 0
  refine⟨by rw[h0];rfl,λk=>?_⟩;have:=h (k+1);rw[show x+e+e*k=x+e*((k+1:Nat):Int) by simp only[RX,Wv,Bd];omega];exact this
 | (p,s)::M,⟨h1,h2,⟨k,h3,h4⟩,h5⟩=>by
  cases k with
  |zero=>
   have hp:p=x:=by simpa using h3
   subst hp;show((if p=p then some s else none)=_)/\_;simp only[Bh,Option.bind_some,W6];rw[h2];exact⟨by rw[Uh (by omega)];simp,h5⟩
  |succ k=>
   have h0:C x=0:=by simpa using h4 0 (by omega)
   have hp:p≠x:=λz=>by
    rw[h3]at z;have:e*((k+1:Nat):Int)=0:=by omega
    rcases Int.mul_eq_zero.mp this with z|z
    ·exact he z
    ·omega
   simp only[Bh,Option.bind_some,Uh hp];refine⟨by rw[h0];rfl,?_⟩;show Rt e C ((p,s)::M) (x+e);refine⟨h1,h2,⟨k,by rw[h3];simp only[RX,Wv,Bd];omega,λj hj=>?_⟩,h5⟩;have:=h4 (j+1) (by omega);rw[show x+e+e*j=x+e*((j+1:Nat):Int) by simp only[RX,Wv,Bd];omega];exact this
theorem Rt.put{e x:Int}{M:List (Int×Nat)}(h:Rt e C M (x+e))(h0:0<=C x):Rt e C ((if C x=0 then [] else [(x,(C x).toNat)])++M) x:=by
 have sh:∀k:Nat,x+e*((k+1:Nat):Int)=x+e+e*k:=λk=>by simp only[RX,Wv,Bd];omega
 by_cases hz:C x=0
 ·rw[Uf hz,RC];cases M with
  |nil=>
   intro k;cases k with
   |zero=>simpa using hz
   |succ k=>rw[sh];exact h k
  |cons q M=>
   obtain⟨p,s⟩:=q;obtain⟨h1,h2,⟨k,h3,h4⟩,h5⟩:=h;refine⟨h1,h2,⟨k+1,by rw[sh];exact h3,λj hj=>?_⟩,h5⟩;cases j with
   |zero=>simpa using hz
   |succ j=>rw[sh];exact h4 j (by omega)
 ·rw[Uh hz];exact⟨by omega,by omega,⟨0,by simp,λj hj=>by omega⟩,h⟩
theorem Ah(L:List (Int×Nat))(x:Int):L.reverse.head?.bind (λp=>if p.1=x then some p.2 else none)=QT L x:=by rw[List.head?_reverse];unfold QT;cases L.getLast? <;> rfl
structure Mk(C:Int->Int)(x:Int)(L R:List (Int×Nat)):Prop where
 l:Rt (-1) C L.reverse (x-1)
 r:Rt 1 C R.reverse x
theorem EO{e x:Int}{R:List (Int×Nat)}(he:e≠0)(h:Rt e C R.reverse x):QT R x=(if C x=0 then none else some (C x).toNat)/\Rt e C (Yi R x).reverse (x+e):=by
 have:=h.next he;rw[Ah]at this;refine⟨this.1,?_⟩;unfold Yi;have h2:=this.2;split
 ·next hs=>rw[Uf hs]at h2;simpa using h2
 ·next hs=>rw[Uh hs]at h2;exact h2
theorem Ai{e x:Int}{M:List (Int×Nat)}(h:Rt e C M.reverse (x+e))(h0:0<=C x):Rt e C (putAt M x (if C x=0 then none else some (C x).toNat)).reverse x:=by
 have:=h.put h0;by_cases hz:C x=0
 ·rw[Uf hz]at this ⊢;exact this
 ·rw[Uh hz]at this ⊢;show Rt e C (M++[(x,(C x).toNat)]).reverse x;rw[Ro];exact this
theorem Mk.wrt(h:Mk C x L R)(a:Nat):Rt 1 (λy=>if y=x then (a:Int) else C y) (wrt R x a).reverse x:=by
 have h1:=(EO (by decide) h.r).2;have h2:=Rt.put (C:=λy=>if y=x then (a:Int) else C y) (x:=x) (h1.congr λk=>Uh (by omega)) (by show(0:Int)<=if x=x then (a:Int) else C x;rw[Uf rfl];omega);simp only[W6]at h2;unfold L3.wrt;rw[Ro];by_cases hz:a=0
 ·subst hz;simpa using h2
 ·rw[Uh (by omega)]at h2;rw[Uh hz];simpa using h2
theorem Mk.step{C:Int->Int}(h:Mk C x L R)(h0:∀y,0<=C y){a b:Nat}{bb:Bool}:∃L' R',pF (Jf a bb b) x L R=some (b,x+sg bb,L',R')/\Mk (λy=>if y=x then (a:Int) else C y) (x+sg bb) L' R'/\L'.length<=L.length+1/\R'.length<=R.length+2:=by
 have hw:=h.wrt a;have wl:=MK R x a;have cut_len:∀(M:List (Int×Nat)) y,(Yi M y).length<=M.length:=λM y=>by unfold Yi;split<;>simp
 have V2:∀(M:List (Int×Nat)) y o,(putAt M y o).length<=M.length+1:=λM y o=>by cases o<;>simp[putAt]
 cases bb with
 |true=>
  refine⟨putAt L x (QT (L3.wrt R x ((a:Int)).toNat) x),Yi (L3.wrt R x ((a:Int)).toNat) x,?_,⟨?_,?_⟩,V2 _ _ _,Uk (cut_len _ _) (by rw[TH];omega)⟩
  ·show some (if wS true=rS then _ else _)=_;rw[Uf (by decide)];rfl
  ·show Rt (-1) _ (putAt L x (QT (L3.wrt R x ((a:Int)).toNat) x)).reverse (x+1-1);rw[TH,(EO (by decide) hw).1,show x+1-1=x by omega];exact Ai (C:=λy=>if y=x then (a:Int) else C y) (by rw[show x + -1=x-1 by omega];exact h.l.congr λk=>Uh (by omega)) (by show(0:Int)<=if x=x then (a:Int) else C x;rw[Uf rfl];omega)
  ·rw[TH];exact(EO (by decide) hw).2
 |false=>
  have hl:=EO (by decide) h.l;refine⟨Yi L (x-1),putAt (L3.wrt R x ((a:Int)).toNat) (x-1) (QT L (x-1)),?_,⟨?_,?_⟩,Uk (cut_len _ _) (by omega),Uk (V2 _ _ _) (by rw[TH];omega)⟩
  ·show some (if wS false=rS then _ else _)=_;rw[Uh (by decide)];rfl
  ·show Rt (-1) _ _ (x + -1-1);rw[show x + -1-1=x-1 + -1 by omega];exact hl.2.congr λk=>Uh (by omega)
  ·show Rt 1 _ (putAt (L3.wrt R x ((a:Int)).toNat) (x-1) (QT L (x-1))).reverse (x-1);rw[hl.1,TH];have e:(if x-1=x then (a:Int) else C (x-1))=C (x-1):=Uh (by omega);have:=Ai (C:=λy=>if y=x then (a:Int) else C y) (x:=x-1) (e:=1) (by rw[show x-1+1=x by omega];exact hw) (by rw[e];exact h0 _);rw[e]at this;exact this
def Yx:D:=.tup [.int 0,.int 0,.tup []]
theorem LA(he:e σ g=.ok v g1)(hv:σ[0]?=some (some (.ref w)))(h:g1[w]?=some (.ins c fs))(hc:c∈cs)(hl:fs.length<100):Qw cs f (Qa 0) e σ g=.nx σ (g1.set w (.ins c (BQ f v fs))):=by unfold Qw Qa;rw[he];dsimp only;rw[hv];dsimp only;rw[h];dsimp only;rw[Uf ⟨hc,hl⟩]
theorem Aj(h1:it σ g=.ok src g)(h2:src.top=0)(h3:src.at' g 0=some none):Zq it n cap t c e σ g=.ok (.ref g.length) (g++[.lst []]):=by refine CF h1 (by rw[h2];exact Tv _) rfl ?_;rw[h2];unfold YB;rw[h3]
theorem Om(ha:a σ g0=.ok [.ref M,Yx] g)(hM:g[M]?=some (ZR rows)):YC 12 Y6 a σ g0=.ok (.ref g.length) (g++[Jy rows 0 0 (g.length+1) (g.length+2),.lst [],.lst []]):=by
 have st:∀{cs:List Nat}{f:Str}{e:ME}{v:D}{fs fs':List (Str×D)}{l l':G},e [vR g.length,vR M,some Yx] (g++.ins 12 fs::l)=.ok v (g++.ins 12 fs::l')->12∈cs->fs.length<100->BQ f v fs=fs'->Qw cs f (Qa 0) e [vR g.length,vR M,some Yx] (g++.ins 12 fs::l)=.nx [vR g.length,vR M,some Yx] (g++.ins 12 fs'::l'):=λh1 h2 h3 h4=>(LA h1 rfl VA h2 h3).trans (by rw[HL,h4]);have cm:∀{fs:List (Str×D)}{l:G}{it:MI}{c:MT}{e:ME}{src:Src},it [vR g.length,vR M,some Yx] (g++.ins 12 fs::l)=.ok src (g++.ins 12 fs::l)->src.top=0->src.at' (g++.ins 12 fs::l) 0=some none->Zq it 2 [0] (Eb [(Ql 0),(Ql 1)]) c e [vR g.length,vR M,some Yx] (g++.ins 12 fs::l)=.ok (.ref (g.length+(l.length+1))) (g++.ins 12 fs::(l++[.lst []])):=λh1 h2 h3=>(Aj h1 h2 h3).trans (by simp);have:Y6 [.ref g.length,.ref M,Yx] (g++[.ins 12 []])=.ok .non (g++[Jy rows 0 0 (g.length+1) (g.length+2),.lst [],.lst []]):=by refine Yp (σ:=[vR g.length,vR M,some Yx]) rfl ?_;show XQ [vR g.length,vR M,some Yx] _=_;unfold XQ;refine Qe _ _ (st (Li rfl (by rw[Ul (QB hM)];exact hM)) (by simp) (by simp) rfl) ?_;refine Qe _ _ (st (v:=.int 0) rfl (by simp) (show 1<100 by decide) rfl) ?_;refine Qe _ _ (st (v:=.int 0) rfl (by simp) (show 2<100 by decide) rfl) ?_;refine Qe _ _ (st (cm (src:=⟨λ_ i=>some ([]:List D)[i]?,0⟩) rfl rfl rfl) (by simp) (show 3<100 by decide) rfl) ?_;exact st (cm rfl rfl rfl) (by simp) (show 4<100 by decide) rfl
 unfold YC;rw[ha,Res.bind_ok,this,Res.bind_ok]
theorem Ij(hr:Tb rows n m)(ok:okP w n m us vs cs)(hc:clB (TR rows) w us vs cs=true)(hw:1<=w):∀(k:Nat)(done:Int)(g:G)(C:Int->Int)(p x:Int)(L R:List (Int×Nat)),done+k=60->Sd w us vs cs C p x->(∀y,0<=C y)->Mk C x L R->WRep rows W l r g p.toNat x L R->L.length+3*k<400->R.length+3*k<400->∃g' p' x' L' R',ZH (Vd (Qf (Qc FZ (Qa 2) (Qa 1))) (Qf (QD 12 "stepped" Zm (Qa 0) Qd))) Vi (k+1) [vR W,vI 60,vI done] g=.nx [vR W,vI 60,vI 60] g'/\WRep rows W l r g' p' x' L' R'/\L'.length<400/\R'.length<400/\KW W l r g g'
 |0,done,g,C,p,x,L,R,hd,_,_,_,Wr,z1,z2=>by
  obtain rfl:done=60:=by omega
  exact⟨g,_,_,L,R,rfl,Wr,by omega,by omega,.refl⟩
 |k+1,done,g,C,p,x,L,R,hd,s,h0,mk,Wr,z1,z2=>by
  obtain⟨a,b,j,hT,s'⟩:=s.step hc hw;obtain⟨_,⟨p0,p1⟩,⟨q0,q1⟩,_⟩:=ok.c _ s.c;have p0:0<=p:=p0;have q0:0<=C x:=q0;obtain⟨a',b',j',hT',hE,a0,_,j0,_⟩:=Ka (c:=aN C w p x) hr (ok.c _ s.c) (by show TR rows p (C x)≠none;rw[hT];simp);have hT':TR rows p (C x)=some (a',b',j'):=hT';rw[hT]at hT';cases hT';have hE:Mm rows p (C x)=Jf a b j:=hE;obtain⟨row,r1,r2,r3⟩:=hr.at' p0 p1 q0 q1;rw[hE]at r2 r3;have hl:(QT R x).getD 0=(C x).toNat:=by
   rw[(EO (by decide) mk.r).1];split
   ·next z=>rw[z];rfl
   ·rfl
  have na:((a.toNat:Nat):Int)=a:=To a0;have nj:((j.toNat:Nat):Int)=j:=To j0;obtain⟨L',R',hg,mk',l1,l2⟩:=mk.step h0 (a:=a.toNat) (b:=j.toNat) (bb:=b);rw[na,nj]at hg;rw[na]at mk';rcases Lz Wr r1 (by rw[hl];exact r2) r3 (by omega) (by omega) with⟨z,_⟩|⟨st',pl',L2,R2,g1,eg,e,W1,k1⟩
  ·cases z
  ·rw[hg]at eg;cases eg;obtain⟨g',p',x',L3,R3,e2,W2,m1,m2,k2⟩:=Ij hr ok hc hw k (done+1) g1 _ j _ _ _ (by omega) s' (λy=>by show 0<=if y=x then a else C y;split;exact a0;exact h0 y) mk' W1 (by omega) (by omega);refine⟨g',p',x',L3,R3,?_,W2,m1,m2,k1.trans k2⟩;have lt:Qf (Qc FZ (Qa 2) (Qa 1)) [vR W,vI 60,vI done] g=.ok true g:=by have:Qf (Qc FZ (Qa 2) (Qa 1)) [vR W,vI 60,vI done] g=.ok (decide (done<60)) g:=rfl;rw[this,Us (by omega)]
   unfold ZH;rw[show Vd (Qf (Qc FZ (Qa 2) (Qa 1))) (Qf (QD 12 "stepped" Zm (Qa 0) Qd)) [vR W,vI 60,vI done] g=.ok true g1 by unfold Vd;rw[lt,Res.bind_ok,Uf rfl];exact Qy (by rw[JM rfl Wr.w' rfl rfl];exact e)];exact e2
theorem Ak(hM:g[M]?=some (ZR rows))(ht:Tb rows n m)(hn:1<=n):Xp [.ref M,Yx] g=.ok .non g:=by have e1:QR (Qf (Qg QV (Qb (Qc QG (Qa 1) (mI 0)) (Qb (Qg Ys (Qb (Qa 0) Qd)) Qd)))) [vR M,some Yx,none,none,none,none,none,none] g=.ok false g:=QA (x:=true) (by rw[VC (x:=.int 0) (N:=n) rfl rfl ((Qo rfl).trans (FC hM ht))];show Res.ok (D.bl (decide ((0:Int)<=0/\(0:Int)<n))) g=_;rw[Us (show(0:Int)<=0/\(0:Int)<n by omega)]);refine Yp (σ:=[vR M,some Yx,vT [],vI m,none,none,none,none]) rfl ?_;show Xo [vR M,some Yx,none,none,none,none,none,none] g=_;unfold Xo;refine Qe _ g (ZF g e1 rfl) (Qe [vR M,some Yx,vT [],none,none,none,none,none] g rfl (Qe [vR M,some Yx,vT [],vI m,none,none,none,none] g (Qt ((Qo rfl).trans (EI hM ht hn))) (Qe _ g rfl rfl)))
theorem An(hM:g[M]?=some (ZR rows))(ht:Tb rows n m)(hn:1<=n)(hw:1<=w)(ok:okP w n m us vs cs)(hc:clB (TR rows) w us vs cs=true):∃d g',Gd [.ref M,.int 60] g=.ok (.tup [d,.int 60]) g'/\Keeps [] g g':=by
 have e1:YC 12 Y6 (Qb (Qa 0) (Qb (Qa 1) Qd)) [vR M,some Yx,vI 60,none,none] g=_:=Om (g:=g) rfl hM;have W0:WRep rows g.length (g.length+1) (g.length+2) (g++[Jy rows 0 0 (g.length+1) (g.length+2),.lst [],.lst []]) (0:Int).toNat 0 [] []:=⟨VA,Jx (i:=1) rfl,Jx (i:=2) rfl,by omega,by omega,by omega⟩;generalize hg1:g++[Jy rows 0 0 (g.length+1) (g.length+2),.lst [],.lst []]=g1 at e1 W0;have k0:Keeps [] g g1:=hg1 ▸ ⟨by simp,λn o _ e=>by rw[Ul (QB e)];exact e⟩;obtain⟨g2,p,x,L,R,e2,W2,z1,z2,k2⟩:=Ij ht ok hc hw 60 0 g1 (λ_=>0) 0 0 [] [] (by omega) (Sd.start hc) (λ_=>Tw 0) ⟨λ_=>rfl,λ_=>rfl⟩ W0 (by simp) (by simp);have K2:Keeps [] g g2:=⟨Uk k0.len k2.len,λn o _ e=>by have:=QB e;exact k2.at' _ _ (by simp;omega) (k0.at' _ _ (by simp) e)⟩;have e3:Vx [.ref g.length,.int 60] g1=.ok (.int 60) g2:=by refine Qq rfl ?_;show Vw [vR g.length,vI 60,none] g1=_;unfold Vw;exact Qe [vR g.length,vI 60,vI 0] g1 rfl (Qe _ g2 (EH e2 (by intro z;cases z)) rfl)
 obtain⟨d,e4⟩:∃d,XR [.ref g.length] g2=.ok d g2:=by
  refine⟨.tup [.int p,.int x,.tup (XF L++(XF R).reverse)],Qq rfl (QP ?_)⟩;have e5:Qc ZE (Qi YD (Qj [12] "left_marks" (Qa 0))) (Qi JX (Qj [12] "right_marks" (Qa 0))) [vR g.length] g2=.ok (.tup (XF L++(XF R).reverse)) g2:=by
   refine Qn (x:=.tup (XF L)) (y:=.tup (XF R).reverse) (g1:=g2) (g2:=g2) (Q5 (W2.left rfl) (by simp[YD,W2.l'])) (Q5 (W2.right rfl) ?_) ?_
   ·unfold JX QK;dsimp only;rw[W2.r']
   ·exact Uf (by rw[Bk,Xy,Xy];unfold SZ;omega)
  show QQ Yy _ [vR g.length] g2=_;rw[Xv,Qh (W2.state rfl) (Qh (W2.place rfl) (Qh e5 (show Qd _ g2=.ok [] g2 from rfl)))];exact EA _ _ (by show 3<=100;decide)
 have e6:Xr [.ref M,Yx,.int 60] g=.ok (.tup [d,.int 60]) g2:=by refine Qq rfl ?_;show Xq [vR M,some Yx,vI 60,none,none] g=_;unfold Xq;refine Qe _ g (Zc ((Qo rfl).trans (Ak hM ht hn))) (Qe [vR M,some Yx,vI 60,vR g.length,none] g1 (Qt e1) (Qe [vR M,some Yx,vI 60,vR g.length,vI 60] g2 (Qt (by rw[JM (w:=g.length) (xs:=[.int 60]) (g2:=g1) rfl W0.w' rfl rfl];exact e3)) (QP ?_)));rw[Xv,Qh (x:=d) (g1:=g2) (by rw[JM (w:=g.length) (xs:=[]) (g2:=g2) rfl W2.w' rfl rfl];exact e4) (Qh (x:=.int 60) (g1:=g2) rfl (show Qd _ g2=.ok [] g2 from rfl))];exact EA _ _ (by show 2<=100;decide)
 exact⟨d,g2,Qq rfl (QP ((Qo rfl).trans e6)),K2⟩
theorem oF{w n m:Nat}(h1:1<=n)(h3:n<=3)(h:(w=1\/w=2)/\(m=2\/m=3)\/w=3/\m=2):Few w n m:=by
 obtain rfl|rfl|rfl:n=1\/n=2\/n=3:=by omega
 all_goals rcases h with⟨rfl|rfl,rfl|rfl⟩|⟨rfl,rfl⟩
 all_goals exact⟨by decide,by decide,by decide,by decide,by decide,by decide,by decide +kernel,by decide +kernel,by decide +kernel⟩
theorem Ao{σ:S3}(hr:tabOf N g t rows)(ht:Tb rows n m)(hn:1<=n)(hi:σ[3]?=some (vR t)):Qi Zj (Qc QG (Qa 3) (mI 0)) σ g=.ok (.int m) g:=by
 have l0:0<rows.length:=by rw[ht.1];omega
 obtain⟨_,ds,d1,d2,d3⟩:=hr;have l1:0<ds.length:=by omega
 obtain⟨a,a1,_,_,a2⟩:=d3 0 ds[0] rows[0] (UK l1) (UK l0);refine Q5 (Qn (x:=.ref t) (y:=.int 0) (g1:=g) (g2:=g) (Zv hi) rfl (XS (p:=0) (d:=.ref a) d1 (by rw[<-a1];exact UK l1))) ?_;rw[Lk a2,ht.2 rows[0] (Tk l0)]
abbrev S7(ns:List Int)(a:Nat)(mm:Int)(t M:Nat)(x5 x6:Option D):S3:=[some (.fl (ns.map .int)),vR a,vI mm,vR t,vR M,x5,x6]
theorem EQ(ns:List Int)(hM:g[M]?=some (ZR rows))(hr:tabOf N g t rows)(ht:Tb rows n m)(n1:1<=n)(n3:n<=3)(m23:m=2\/m=3)(hw:w=1\/w=2\/w=3)(a:Nat)(mm:Int)(x6:Option D):
  ∃g' y,(Ju (S7 ns a mm t M (vI (w:Nat)) x6) g=.nx (S7 ns a mm t M (vI w) y) g'\/Ju (S7 ns a mm t M (vI w) x6) g=.ct (S7 ns a mm t M (vI w) y) g')/\Keeps [] g g':=by
 have t1:Qf (Qc FZ (Qa 5) (mI 3)) (S7 ns a mm t M (vI w) (some .non)) g=.ok (decide ((w:Int)<3)) g:=rfl;have t2:Qf (Qc VD (Qi Zj (Qc QG (Qa 3) (mI 0))) (mI 2)) (S7 ns a mm t M (vI w) (some .non)) g=.ok ((m:Int)==2) g:=Qy (Qn (x:=.int m) (y:=.int 2) (Ao hr ht n1 rfl) rfl rfl);by_cases hb:w<3\/m=2
 ·have f:Few w n m:=oF n1 n3 (by omega);obtain⟨d,g1,e1,k1,hd⟩:=aM hM ht f;have e2:ZT (ZV (Qf (Qc FZ (Qa 5) (mI 3))) (Qf (Qc VD (Qi Zj (Qc QG (Qa 3) (mI 0))) (mI 2)))) (QF (Ql 6) (Qg XY (Qb (Qa 4) (Qb (Qa 5) (Qb (mI 120) Qd))))) Qv (S7 ns a mm t M (vI w) (some .non)) g=.nx (S7 ns a mm t M (vI w) (some d)) g1:=by
   refine Vl g ?_ (Qt ((Qo rfl).trans e1));by_cases h3:w<3
   ·exact K9 (t1.trans (by rw[Us (show(w:Int)<3 by omega)]))
   ·refine YR (t1.trans (by rw[Uv (show ¬(w:Int)<3 by omega)])) (t2.trans ?_);rw[show m=2 by omega];rfl
  rcases hd with rfl|⟨us,vs,cs,hW,ok,hc⟩
  ·exact⟨g1,_,.inr (Qe (S7 ns a mm t M (vI w) (some .non)) g rfl (Qe _ g1 e2 rfl)),k1⟩
  ·obtain⟨A,B,Q,rfl,hA,hB,hQ⟩:=id hW;have hM1:=k1.at' _ _ (by simp) hM;have w1:1<=w:=by omega
   obtain⟨g2,e3,k2⟩:=HY hM1 ht n1 w1 (by omega) ok (JG hA) (JG hB) (JG hQ);obtain⟨g3,e4,k3⟩:=HY (k2.at' _ _ (by simp) hM1) ht n1 w1 (by omega) ok (Z2 (JG hA) k2) (Z2 (JG hB) k2) (Z2 (JG hQ) k2);rw[hc]at e3 e4;have K3:=(k1.trans k2).trans k3;have k23:=k2.trans k3;obtain⟨g4,e5,k4⟩:=Ol (hr.keep K3) ht w1 (by omega) ok hc ⟨A,B,Q,rfl,k23.at' _ _ (by simp) hA,k23.at' _ _ (by simp) hB,k23.at' _ _ (by simp) hQ⟩;have K4:=K3.trans k4;obtain⟨d,g5,e6,k5⟩:=An (K4.at' _ _ (by simp) hM) ht n1 w1 ok hc;refine⟨g5,some (QO w (.ref A) (.ref B) (.ref Q)),.inl (Qe (S7 ns a mm t M (vI w) (some .non)) g rfl (Qe _ g1 e2 ?_)),K4.trans k5⟩;refine Qe _ g1 (ZF g1 rfl rfl) (Qe _ g3 (ZF g3 (YR (Qy (Qn (x:=.bl true) (y:=.bl true) ((Qo rfl).trans e3) rfl rfl)) (Qy (Qn (x:=.bl true) (y:=.bl true) ((Qo rfl).trans (Lv e4)) rfl rfl))) rfl) (ZF g5 (YR (QA (x:=true) ((Qo rfl).trans e5)) (QA (x:=true) ?_)) rfl));exact(Qo (Qh (x:=.int 60) (Qn (x:=.tup [d,.int 60]) (y:=.int 1) ((Qo rfl).trans e6) rfl (ix_tup (n:=1) rfl)) (Qh (x:=.int 60) (g1:=g5) rfl (show Qd _ g5=.ok [] g5 from rfl)))).trans rfl
 ·refine⟨g,_,.inr (Qe (S7 ns a mm t M (vI w) (some .non)) g rfl (Qe (S7 ns a mm t M (vI w) (some .non)) g (ZF g ?_ rfl) rfl)),.refl⟩;refine YR (t1.trans (by rw[Uv (show ¬(w:Int)<3 by omega)])) (t2.trans ?_);rw[show m=3 by omega];rfl
theorem GI(h1:src.at' g i=some (some d))(h2:t d σ=some σ1)(h3:body σ1 g=.nx σ2 g2\/body σ1 g=.ct σ2 g2):YS src t body (f+1) i σ g=YS src t body f (i+1) σ2 g2:=by rw[YS,h1];dsimp only;rw[h2];dsimp only;rcases h3 with h3|h3<;>rw[h3]
theorem iR(ns:List Int)(a:Nat)(k:Int)(g:G)(ga:g[a]?=some (.lst [.int k]))(k0:0<=k)(hk2:k<50000):∃g' k',Gm [.fl (ns.map .int),.ref a] g=.ok (.bl true) g'/\g'[a]?=some (.lst [.int k'])/\0<=k'/\k'<=k+5000:=by
 obtain⟨mm,m0,m1,e1⟩:=Mj ns a k g ga k0 (by omega);have ga1:=Zb (u:=.lst [.int (k+1)]) ga;generalize hg1:g.set a (.lst [.int (k+1)])=g1 at e1 ga1;have s0:=RF mm (show(3:Int)≠0 by decide);have s1:=T5 mm (show(0:Int)<3 by decide);have t0:=RF (mm/3) (show(2:Int)≠0 by decide);have t1:=T5 (mm/3) (show(0:Int)<2 by decide);obtain⟨n,hn⟩:∃n:Nat,1+mm%3=(n:Int):=⟨_,(To (by omega)).symm⟩;obtain⟨m,hm⟩:∃m:Nat,2+mm/3%2=(m:Int):=⟨_,(To (by omega)).symm⟩;have n1:1<=n:=by omega
 have n3:n<=3:=by omega
 have m23:m=2\/m=3:=by omega
 obtain⟨rows,g2,e2,k2,ga2,tb,r1,r2,r3⟩:=Si ns a (k+1) n m g1 (by omega) (by omega) (by omega) (by omega) ga1 (by omega) (by omega);have ht:Tb rows n m:=⟨r1,r2,r3⟩;have nm:(n:Int)*(m:Int)<=9:=by
  have:n*m<=3*3:=Nat.mul_le_mul n3 (by omega)
  exact_mod_cast this
 have nm0:(0:Int)<=(n:Int)*(m:Int):=Int.mul_nonneg (by omega) (by omega);generalize hk':k+1+(n:Int)*(m:Int)=k' at ga2;have good:=entOk.good (show 0<n by omega) (by omega) r1 r2 r3;obtain⟨g3,k3,e3,mach⟩:=D4 (.ref g1.length) rows g2 tb.rows (λr hr=>by rw[r2 r hr];exact Uk (show m<=3 by omega) (by decide)) (by rw[r1];exact Uk n3 (by decide)) (λr hr d hd=>(r3 r hr d hd).thing) (Qb (Qa 3) Qd) (S7 ns a mm g1.length 0 none none |>.set 4 none) g2 rfl;rw[Uf good]at e3;have hM:=mach good;generalize g2.length=M at e3 hM;have hr3:=tb.keep k3;generalize g1.length=t at e2 e3 hr3;have gl:(g3++[GO.lst [.int 1,.int 2,.int 3]])[g3.length]?=some (.lst [.int 1,.int 2,.int 3]):=QM _;have k4:Keeps [] g3 (g3++[GO.lst [.int 1,.int 2,.int 3]]):=Keeps.push _;generalize hg4:g3++[GO.lst [.int 1,.int 2,.int 3]]=g4 at gl k4;obtain⟨g5,y5,e5,k5⟩:=EQ ns (k4.at' _ _ (by simp) hM) (hr3.keep k4) ht n1 n3 m23 (w:=1) (.inl rfl) a mm none;have K5:=k4.trans k5;obtain⟨g6,y6,e6,k6⟩:=EQ ns (K5.at' _ _ (by simp) hM) (hr3.keep K5) ht n1 n3 m23 (w:=2) (.inr (.inl rfl)) a mm y5;have K6:=K5.trans k6;obtain⟨g7,y7,e7,k7⟩:=EQ ns (K6.at' _ _ (by simp) hM) (hr3.keep K6) ht n1 n3 m23 (w:=3) (.inr (.inr rfl)) a mm y6;have K7:=K6.trans k7;obtain⟨src,q1,q2,q3⟩:=GB (JG gl) .refl;have at5:src.at' g4 0=some (some (.int 1)):=by rw[q3 _ _ .refl];rfl
 have at6:src.at' g5 1=some (some (.int 2)):=by rw[q3 _ _ k5];rfl
 have at7:src.at' g6 2=some (some (.int 3)):=by rw[q3 _ _ (k5.trans k6)];rfl
 have at8:src.at' g7 3=some none:=by rw[q3 _ _ ((k5.trans k6).trans k7)];rfl
 have eF:YT (QL (QQ ZD (Qb (mI 1) (Qb (mI 2) (Qb (mI 3) Qd))))) (Ql 5) Ju (S7 ns a mm t M none none) g3=.nx (S7 ns a mm t M (vI 3) y7) g7:=by rw[JT (src:=src) (g':=g4) (by unfold QL;rw[show QQ ZD (Qb (mI 1) (Qb (mI 2) (Qb (mI 3) Qd))) (S7 ns a mm t M none none) g3=.ok (.ref g3.length) g4 by rw[<-hg4];rfl,Res.bind_ok];exact q1),q2];refine(GI at5 rfl e5).trans ((GI at6 rfl e6).trans ((GI at7 rfl e7).trans ?_));show YS src (Ql 5) Ju (0+1) 3 (S7 ns a mm t M (vI 3) y7) g7=_;rw[YS,at8]
 refine⟨g7,k',Qq rfl ?_,K7.at' _ _ (by simp) (k3.at' _ _ (by simp) ga2),by omega,by omega⟩;show Gk [some (.fl (ns.map .int)),vR a,none,none,none,none,none] g=_;unfold Gk;refine Qe [some (.fl (ns.map .int)),vR a,vI mm,none,none,none,none] g1 (Qt ((Qo rfl).trans e1)) (Qe _ g2 (Qt ((Qo (ds:=[.fl (ns.map .int),.ref a,.int n,.int m]) (g':=g1) ?_).trans e2)) (Qe _ g3 (Qt e3) (Qe _ g7 eF rfl)));rw[<-hn,<-hm];rfl
theorem law_true(ns:List Int)(hl:ns.length<=63):∃g',Mg [.fl (ns.map .int)] []=.ok (.bl true) g':=by
 have hq0:=Int.ediv_nonneg (show(0:Int)<=ns.length by omega) (show(0:Int)<=16 by decide);obtain⟨N,hN⟩:∃N:Nat,1+min 2 ((ns.length:Int) / 16)=N:=⟨_,(To (by omega)).symm⟩;have hN3:N<=3:=by omega
 obtain⟨σ',g',e1,x2,k',h1,h2,h3,h4⟩:=J4 (t:=Ql 2) (body:=Hy) (lo:=0) (n:=N) (σ:=[some (.fl (ns.map .int)),vR 0,none]) (g:=[.lst [.int 0]]) (λi σ' g'=>∃(x2:Option D)(k':Int),σ'=[some (.fl (ns.map .int)),vR 0,x2]/\g'[0]?=some (.lst [.int k'])/\0<=k'/\k'<=5000*i) ⟨none,0,rfl,rfl,by omega,by omega⟩ (λi σ' g' hi ⟨x2,k',h1,h2,h3,h4⟩=>by subst h1;obtain⟨g2,k2,e2,a2,a3,a4⟩:=iR ns 0 k' g' h2 h3 (by omega);exact⟨_,_,g2,rfl,ZF g2 (QA (x:=true) ((Qo rfl).trans e2)) rfl,_,k2,rfl,a2,a3,by omega⟩);subst h1;refine⟨g',Qq rfl ?_⟩;show Sf [some (.fl (ns.map .int)),none,none] []=_;unfold Sf;refine Qe [some (.fl (ns.map .int)),vR 0,none] [.lst [.int 0]] rfl (Qe _ g' ((JT (Jn (n:=N) ?_ (KH (by omega)))).trans e1) rfl);refine Qn (x:=.int 1) (y:=.int (min 2 ((ns.length:Int) / 16))) (g1:=[.lst [.int 0]]) (g2:=[.lst [.int 0]]) rfl ?_ (by rw[iC,hN]);refine Qn (x:=.int 2) (y:=.int ((ns.length:Int) / 16)) (g1:=[.lst [.int 0]]) (g2:=[.lst [.int 0]]) rfl (Qn (x:=.int ns.length) (y:=.int 16) (g1:=[.lst [.int 0]]) (g2:=[.lst [.int 0]]) ?_ rfl rfl) ?_
 ·refine Q5 (x:=.fl (ns.map .int)) rfl ?_;show Res.ok (D.int (ns.map D.int).length) _=_;rw[Ue]
 ·unfold L4;dsimp only;congr 2;split<;>omega
end L3
namespace V
open PySem PySem.Spec PyProof.Rows L2 L3
theorem oH{N P:List Str}{sc:Scope}(h1:sc.kind=.function:=by rfl)(h2:sc.isCoroutine=false:=by rfl)(h3:sc.isGenerator=false:=by rfl)(h4:N.Nodup:=by decide +kernel)(h5:N.take P.length=P:=by rfl)(h6:∀x∈P,sc.names.lookup x=some .local\/sc.names.lookup x=some .cell:=by decide +kernel)(h7:∀y∈sc.names,y.2≠.free:=by decide +kernel):FnScope N P sc:=⟨h1,h2,h3,h4,h5,h6,h7⟩
noncomputable def top(i:Nat):Stmt:=PySem.Challenge.pw_tapeproof_k52_contexts_walked.main.body.getD i (.Pass ⟨0,0,0,0⟩)
def UF(K:Frag)(mg:Xa)(x:Str)(st:Stmt):Prop:=∃f fd,Fun K x x st f fd/\mg x=some (.ref f)
theorem _root_.L2.Room.m{j k:Nat}{A:Around}(h:Room k A)(e:j<=k:=by omega):Room j A:=h.mono e
def UM(K:Frag)(C:Addr)(x q:Str)(st:Stmt):Prop:=∃f fd,Fun K x q st f fd/\Meth K C x f/\Cls K C
def UI(K:Frag)(mg:Xa)(C:Addr)(q c:Str)(st:Stmt):Prop:=∃f fd,Fun K "__init__" q st f fd/\Mk K C f/\mg c=some (.ref C)
abbrev HB(x q:Str)(st:Stmt)(ps:List Str):Prop:=∀(kV doc pm:Value)(an:Option Addr)(cdv ct:Value)(us:List Value),us.length=ps.length->bindArgs (fnOf x q (YZ st) (Z3 st) (QE st) .none kV doc pm an cdv ct) ⟨us,[]⟩=pure (ps.zip us)
section
variable{P:Program}{w:World}{K:Frag}{mg:Xa}{base:Heap}{ca:Nat->Addr}{x q c:Str}{st:Stmt}{N ps:List Str}{k n j C:Nat}{m:MS}
abbrev HP(P:Program)(w:World)(K:Frag)(mg:Xa)(base:Heap)(ca:Nat->Addr)(q:Str)(st:Stmt)(N:List Str)(k:Nat)(m:MS):Prop:=N.Nodup->∀(f:Addr)(cdv:Value)(A:Around)(outer:List Env)(s:Shared)(H:Hp)(E:XK),(VF Il P w K mg base N q (QE st) f cdv A outer s H E).env.scope=QE st->(VF Il P w K mg base N q (QE st) f cdv A outer s H E).N=N->Room k (VF Il P w K mg base N q (QE st) f cdv A outer s H E).A->VR ca (VF Il P w K mg base N q (QE st) f cdv A outer s H E) (Z3 st) m
theorem HP.h(S:FnScope N ps (QE st))(h:HP P w K mg base ca q st N k m)(f:Addr)(cdv:Value)(A:Around)(outer:List Env)(s:Shared)(H:Hp)(E:XK)(hr:Room k (A.deeper (envOfC q (QE st) s.heap.objs.size f cdv))):VR ca (VF Il P w K mg base N q (QE st) f cdv A outer s H E) (Z3 st) m:=h S.nd f cdv A outer s H E rfl rfl hr
abbrev pG(x q:Str)(st:Stmt)(ps:List Str)(us:List Value):Prop:=∀(kV doc pm:Value)(an:Option Addr)(cdv ct:Value),pure (ps.zip us)=bindArgs (fnOf x q (YZ st) (Z3 st) (QE st) .none kV doc pm an cdv ct) ⟨us,[]⟩
theorem hb1(l:ps.length=1)(h:∀a,pG x q st ps [a]):HB x q st ps:=by intro _ _ _ _ _ _ us hl;rw[l]at hl;obtain⟨_,rfl⟩:=L3.len1 hl;exact(h _ _ _ _ _ _ _).symm
theorem hb2(l:ps.length=2)(h:∀a b,pG x q st ps [a,b]):HB x q st ps:=by intro _ _ _ _ _ _ us hl;rw[l]at hl;obtain⟨_,_,rfl⟩:=L3.len2 hl;exact(h _ _ _ _ _ _ _ _).symm
theorem hb3(l:ps.length=3)(h:∀a b c,pG x q st ps [a,b,c]):HB x q st ps:=by intro _ _ _ _ _ _ us hl;rw[l]at hl;obtain⟨_,_,_,rfl⟩:=L3.len3 hl;exact(h _ _ _ _ _ _ _ _ _).symm
theorem sF(l:ps.length=4)(h:∀a b c d,pG x q st ps [a,b,c,d]):HB x q st ps:=by intro _ _ _ _ _ _ us hl;rw[l]at hl;obtain⟨_,_,_,_,rfl⟩:=L3.len4 hl;exact(h _ _ _ _ _ _ _ _ _ _).symm
theorem oI(u:UF K mg x st)(S:FnScope N (N.take j) (QE st))(h:HP P w K mg base ca x st N k m)(hj:(N.take j).length=j:=by exact rfl)(hn:N.length - (N.take j).length=n:=by exact rfl)(hb:HB x x st (N.take j):=by first|exact hb1 (Eq.refl 1) λ_ _ _ _ _ _ _=>rfl|exact hb2 (Eq.refl 2) λ_ _ _ _ _ _ _ _=>rfl|exact hb3 (Eq.refl 3) λ_ _ _ _ _ _ _ _ _=>rfl|exact sF (Eq.refl 4) λ_ _ _ _ _ _ _ _ _ _=>rfl):FnH P w K mg base ca x st N (k+1) j (QI j n m):=by obtain⟨f,fd,F,hm⟩:=u;exact⟨⟨f,fd,N.take j,LU F S hj hn (h.h S f),hm,F.kp,F.binds hb⟩,F5 _ _ _⟩
theorem oJ(u:UM K (ca C) x q st)(S:FnScope N (N.take j) (QE st))(h:HP P w K mg base ca q st N k m)(hj:(N.take j).length=j:=by exact rfl)(hn:N.length - (N.take j).length=n:=by exact rfl)(hb:HB x q st (N.take j):=by first|exact hb1 (Eq.refl 1) λ_ _ _ _ _ _ _=>rfl|exact hb2 (Eq.refl 2) λ_ _ _ _ _ _ _ _=>rfl|exact hb3 (Eq.refl 3) λ_ _ _ _ _ _ _ _ _=>rfl|exact sF (Eq.refl 4) λ_ _ _ _ _ _ _ _ _ _=>rfl):MtH P w K mg base ca C x st N (k+1) j (QI j n m):=by obtain⟨f,fd,F,hm⟩:=u;exact⟨⟨f,fd,N.take j,LU F S hj hn (h.h S f),hm.1,hm.2,F.binds hb⟩,F5 _ _ _⟩
theorem oK(u:UI K mg (ca C) q c st)(S:FnScope N (N.take j) (QE st))(h:HP P w K mg base ca q st N k m)(hj:(N.take j).length=j:=by exact rfl)(hn:N.length - (N.take j).length=n:=by exact rfl)(hb:HB "__init__" q st (N.take j):=by first|exact hb1 (Eq.refl 1) λ_ _ _ _ _ _ _=>rfl|exact hb2 (Eq.refl 2) λ_ _ _ _ _ _ _ _=>rfl|exact hb3 (Eq.refl 3) λ_ _ _ _ _ _ _ _ _=>rfl|exact sF (Eq.refl 4) λ_ _ _ _ _ _ _ _ _ _=>rfl):MkH P w K mg base ca C c st N (k+1) j (QI j n m):=by obtain⟨f,fd,F,hm⟩:=u;exact⟨⟨f,fd,N.take j,LU F S hj hn (h.h S f),hm.1,hm.2,F.binds hb⟩,F5 _ _ _⟩
end
theorem an{A B:Prop}(a:A)(b:A->B):A/\B:=⟨a,b a⟩
structure Zk(K:Frag)(mg:Xa)(ca:Nat->Addr):Prop where
 z_all:mg "all"=none
 z_bool:mg "bool"=none
 z_dict:mg "dict"=none
 z_int:mg "int"=none
 z_isinstance:mg "isinstance"=none
 z_len:mg "len"=none
 z_list:mg "list"=none
 z_max:mg "max"=none
 z_min:mg "min"=none
 z_range:mg "range"=none
 z_reversed:mg "reversed"=none
 z_sorted:mg "sorted"=none
 z_str:mg "str"=none
 z_tuple:mg "tuple"=none
 z_zip:mg "zip"=none
 g_BLANK:∃k,mg "BLANK"=some (.int 0 k)
 g_FIRST_SHOT:∃u v,mg "FIRST_SHOT"=some u/\L2.RelV v u/\∀μ H,Den K μ H v (.tup [(.int 0),(.int 0),(.tup [])])
 g_GROW:∃k,mg "GROW"=some (.str "grow" k)
 g_LEFT:∃k,mg "LEFT"=some (.str "l" k)
 g_RIGHT:∃k,mg "RIGHT"=some (.str "r" k)
 g_SAME:∃k,mg "SAME"=some (.str "same" k)
 g_SHIFTED:∃k,mg "SHIFTED"=some (.str "shifted" k)
 g_WALL:∃k,mg "WALL"=some (.str "wall" k)
 HH:FldOk K ca [15] "asking"
 a_by_seen:FldOk K ca [14] "by_seen"
 Xw:FldOk K ca [15] "contexts"
 a_left_marks:FldOk K ca [12] "left_marks"
 X0:FldOk K ca [15] "machine"
 XZ:FldOk K ca [15] "pending"
 a_place:FldOk K ca [12] "place"
 a_right_marks:FldOk K ca [12] "right_marks"
 Gw:FldOk K ca [15] "sides"
 a_state:FldOk K ca [12] "state"
 a_table:FldOk K ca [11,12] "table"
 u0:UF K mg "is_whole" (top 8)
 u1:UF K mg "is_below" (top 9)
 u2:UF K mg "is_entry" (top 16)
 u3:UF K mg "check_rows" (top 17)
 u4:UI K mg (ca 11) "Machine.__init__" "Machine" (Qk (top 18) 0)
 u5:UF K mg "_law_next" (top 101)
 u6:UF K mg "_law_same" (top 102)
 u7:UF K mg "_law_table" (top 103)
 u8:UF K mg "_law_gram" (top 104)
 u9:UF K mg "_law_stands" (top 105)
 u10:UF K mg "_law_walked" (top 106)
 u11:UI K mg (ca 12) "Walk.__init__" "Walk" (Qk (top 39) 0)
 u12:UM K (ca 12) "is_on_mark" "Walk.is_on_mark" (Qk (top 39) 1)
 u13:UM K (ca 12) "entry" "Walk.entry" (Qk (top 39) 2)
 u14:UM K (ca 12) "go_left" "Walk.go_left" (Qk (top 39) 5)
 u15:UM K (ca 12) "go_right" "Walk.go_right" (Qk (top 39) 4)
 u16:UM K (ca 12) "write" "Walk.write" (Qk (top 39) 3)
 u17:UM K (ca 12) "stepped" "Walk.stepped" (Qk (top 39) 6)
 u18:UM K (ca 12) "run" "Walk.run" (Qk (top 39) 7)
 u19:UM K (ca 12) "shot" "Walk.shot" (Qk (top 39) 8)
 u20:UF K mg "signs_of" (top 20)
 u21:UF K mg "states_of" (top 19)
 u22:UF K mg "check_shot" (top 40)
 u23:UF K mg "after_from" (top 41)
 u24:UF K mg "after" (top 42)
 u25:UF K mg "is_grow_paper" (top 85)
 u26:UF K mg "takes_grow" (top 87)
 u27:UF K mg "is_paper" (top 91)
 u28:UF K mg "takes_same" (top 95)
 u29:UF K mg "takes_shifted" (top 97)
 u30:UM K (ca 14) "beginning" "Grams.beginning" (Qk (top 31) 1)
 u31:UM K (ca 14) "has" "Grams.has" (Qk (top 31) 2)
 u32:UI K mg (ca 14) "Grams.__init__" "Grams" (Qk (top 31) 0)
 u33:UM K (ca 14) "put_in" "Grams.put_in" (Qk (top 31) 3)
 u34:UF K mg "grams_of" (top 32)
 u35:UF K mg "entry_at" (top 27)
 u36:UF K mg "gram_ahead" (top 29)
 u37:UF K mg "gram_behind" (top 28)
 u38:UF K mg "next_context" (top 30)
 u39:UF K mg "other_way" (top 15)
 u40:UF K mg "holds_at" (top 33)
 u41:UF K mg "is_gram" (top 23)
 u42:UF K mg "are_grams" (top 25)
 u43:UF K mg "is_context" (top 24)
 u44:UF K mg "is_from_nought" (top 10)
 u45:UF K mg "is_wall_paper" (top 26)
 u46:UF K mg "wall_taken" (top 34)
 u47:UF K mg "takes" (top 99)
 u48:UM K (ca 15) "ask_for" "Gathering.ask_for" (Qk (top 35) 1)
 u49:UI K mg (ca 15) "Gathering.__init__" "Gathering" (Qk (top 35) 0)
 u50:UM K (ca 14) "in_order" "Grams.in_order" (Qk (top 31) 4)
 u51:UM K (ca 15) "paper" "Gathering.paper" (Qk (top 35) 4)
 u52:UM K (ca 15) "put_gram" "Gathering.put_gram" (Qk (top 35) 2)
 u53:UM K (ca 15) "went_on" "Gathering.went_on" (Qk (top 35) 3)
 u54:UF K mg "wall_of" (top 36)
 u55:UF K mg "_law_one" (top 107)
 u56:UF K mg "law" (top 108)
section
seal Qs B3 bC Oo F2 VR A2 Pl Pm nL mW iX
variable{P:Program}{w:World}{K:Frag}{mg:Xa}{base:Heap}{ca:Nat->Addr}
theorem tQ(Z:Zk K mg ca):FnH P w K mg base ca "is_whole" (top 8) ["value"] 1 1 Jq/\FnH P w K mg base ca "is_below" (top 9) ["value","many"] 2 2 QV/\FnH P w K mg base ca "is_entry" (top 16) ["thing","states","signs"] 3 3 YU/\FnH P w K mg base ca "check_rows" (top 17) ["rows","states","signs","row"] 4 1 Z8/\MkH P w K mg base ca 11 "Machine" (Qk (top 18) 0) ["self","table","rows"] 5 2 ZX/\FnH P w K mg base ca "_law_next" (top 101) ["_law_script","_law_at","_law_cell","_law_m"] 1 2 XO/\FnH P w K mg base ca "_law_same" (top 102) ["_law_found","_law_due"] 1 2 Ht/\FnH P w K mg base ca "_law_table" (top 103) ["_law_script","_law_at","_law_states","_law_signs","_law_table_here","_law_k","_law_line","_law_j","_law_m","_law_entry"] 2 4 KC/\FnH P w K mg base ca "_law_gram" (top 104) ["_law_cells","_law_place","_law_way","_law_width"] 1 4 Y5/\FnH P w K mg base ca "_law_stands" (top 105) ["_law_shut","_law_state","_law_place","_law_cells","_law_word","_law_width","_law_lefts","_law_rights","_law_contexts","_law_left","_law_right","_law_low","_law_high","_law_spot"] 2 4 Xm/\FnH P w K mg base ca "_law_walked" (top 106) ["_law_table_here","_law_shut","_law_state","_law_place","_law_cells","_law_sets","_law_k","_law_thing","_law_known","_law_entry"] 3 2 Vv/\MkH P w K mg base ca 12 "Walk" (Qk (top 39) 0) ["self","machine","shot"] 1 3 Y6/\MtH P w K mg base ca 12 "is_on_mark" (Qk (top 39) 1) ["self"] 1 1 QS/\MtH P w K mg base ca 12 "entry" (Qk (top 39) 2) ["self","sign"] 2 1 Ji/\MtH P w K mg base ca 12 "go_left" (Qk (top 39) 5) ["self"] 1 1 YG/\MtH P w K mg base ca 12 "go_right" (Qk (top 39) 4) ["self"] 2 1 Yj/\MtH P w K mg base ca 12 "write" (Qk (top 39) 3) ["self","sign"] 2 2 Jj/\MtH P w K mg base ca 12 "stepped" (Qk (top 39) 6) ["self","entry"] 3 1 Zm/\MtH P w K mg base ca 12 "run" (Qk (top 39) 7) ["self","steps","done"] 4 2 Vx/\MtH P w K mg base ca 12 "shot" (Qk (top 39) 8) ["self"] 1 1 XR/\FnH P w K mg base ca "signs_of" (top 20) ["machine"] 1 1 QW/\FnH P w K mg base ca "states_of" (top 19) ["machine"] 1 1 Ys/\FnH P w K mg base ca "check_shot" (top 40) ["machine","shot","marks","signs","place","sign","mark","following"] 3 2 Xp/\FnH P w K mg base ca "after_from" (top 41) ["machine","shot","steps","walk","done"] 5 3 Xr/\FnH P w K mg base ca "after" (top 42) ["machine","steps"] 6 2 Gd/\FnH P w K mg base ca "is_grow_paper" (top 85) ["paper"] 1 1 XA/\FnH P w K mg base ca "takes_grow" (top 87) ["machine","paper","shape","behind"] 2 2 Jk/\FnH P w K mg base ca "is_paper" (top 91) ["paper","kind"] 1 2 Xs/\FnH P w K mg base ca "takes_same" (top 95) ["machine","paper","walked"] 2 2 Xt/\FnH P w K mg base ca "takes_shifted" (top 97) ["machine","paper","walked"] 2 2 Jc/\MtH P w K mg base ca 14 "beginning" (Qk (top 31) 1) ["self","seen"] 1 2 QJ/\MtH P w K mg base ca 14 "has" (Qk (top 31) 2) ["self","gram"] 2 2 QX/\MkH P w K mg base ca 14 "Grams" (Qk (top 31) 0) ["self"] 1 1 YI/\MtH P w K mg base ca 14 "put_in" (Qk (top 31) 3) ["self","gram"] 3 2 Zn/\FnH P w K mg base ca "grams_of" (top 32) ["things","grams","gram"] 4 1 Zd/\FnH P w K mg base ca "entry_at" (top 27) ["machine","context"] 1 2 Yn/\FnH P w K mg base ca "gram_ahead" (top 29) ["entry","context"] 1 2 ZJ/\FnH P w K mg base ca "gram_behind" (top 28) ["entry","context"] 1 2 Zu/\FnH P w K mg base ca "next_context" (top 30) ["entry","context","gram","sign","behind"] 2 3 Q9/\FnH P w K mg base ca "other_way" (top 15) ["way"] 1 1 Yt/\FnH P w K mg base ca "holds_at" (top 33) ["machine","sides","contexts","context","entry","way","grams"] 3 4 Xu/\FnH P w K mg base ca "is_gram" (top 23) ["thing","width","signs"] 3 3 Yu/\FnH P w K mg base ca "are_grams" (top 25) ["things","width","signs"] 4 3 ZG/\FnH P w K mg base ca "is_context" (top 24) ["thing","width","machine"] 4 3 ZK/\FnH P w K mg base ca "is_from_nought" (top 10) ["value"] 2 1 Zi/\FnH P w K mg base ca "is_wall_paper" (top 26) ["machine","paper","width"] 5 2 Yk/\FnH P w K mg base ca "wall_taken" (top 34) ["machine","paper","blanks","sides","contexts"] 6 2 Z9/\FnH P w K mg base ca "takes" (top 99) ["machine","paper"] 7 2 Gj/\MtH P w K mg base ca 15 "ask_for" (Qk (top 35) 1) ["self","context"] 1 2 Q1/\MkH P w K mg base ca 15 "Gathering" (Qk (top 35) 0) ["self","machine","width","blanks"] 5 3 Ya/\MtH P w K mg base ca 14 "in_order" (Qk (top 31) 4) ["self","grams","alike"] 1 1 Yb/\MtH P w K mg base ca 15 "paper" (Qk (top 35) 4) ["self","width"] 2 2 ZQ/\MtH P w K mg base ca 15 "put_gram" (Qk (top 35) 2) ["self","way","gram","context"] 4 3 Z1/\MtH P w K mg base ca 15 "went_on" (Qk (top 35) 3) ["self","context","entry","way","seen","gram"] 5 1 Q2/\FnH P w K mg base ca "wall_of" (top 36) ["machine","width","most","gathering"] 7 3 XY/\FnH P w K mg base ca "_law_one" (top 107) ["_law_script","_law_at","_law_m","_law_table_here","_law_machine","_law_width","_law_shut"] 8 2 Gm/\∀f fd,Fun K "law" "law" (top 108) f fd->FnOk P w K mg base Il 9 f fd ["_law_script"] (Nn K ca 1 Mg):=by
  cases Z
  repeat' refine an ?_ λ_=>?_
  all_goals first
    | (refine oI (by assumption) ⟨rfl,rfl,rfl,by decide +kernel,rfl,by decide +kernel,by decide +kernel⟩ ?_;intro nd f cdv A outer s H E hsc hN hr)
    | (refine oJ (by assumption) ⟨rfl,rfl,rfl,by decide +kernel,rfl,by decide +kernel,by decide +kernel⟩ ?_;intro nd f cdv A outer s H E hsc hN hr)
    | (refine oK (by assumption) ⟨rfl,rfl,rfl,by decide +kernel,rfl,by decide +kernel,by decide +kernel⟩ ?_;intro nd f cdv A outer s H E hsc hN hr)
    | (intro f fd F;have S:FnScope ["_law_script","_law_at","_law_turn"] ["_law_script"] (QE (top 108)):=oH;refine LU F S rfl rfl (HP.h S ?_ _);intro nd f cdv A outer s H E hsc hN hr)
  repeat' first
    | (guard_target =~ Qs ..;first
       |exact lK _|exact lL|refine fU ?_ ?_|refine fL ?_ (by assumption)
       | (guard_target =~ Qs _ _ (.Call ..) _;first
         | (guard_target =~ Qs _ _ (.Call (.Attribute ..) ..) _;first|refine fN (by assumption) hr.m ?_ ?_|refine A7 (by assumption) hr.m ?_|refine Pw ?_ ?_|refine PV ?_ ?_|refine mS ?_|refine Dv ?_ ?_ ?_|refine DC hr ?_ ?_ ?_|refine PY hr ?_ ?_ ?_)
         |refine fM (by assumption) hr.m ?_|refine mR (by assumption) ?_|refine gT (by assumption) ?_|refine fY _ (by assumption) (by assumption) (by with_reducible first|exact gE|exact Dn|exact PH|exact Do|exact Dp|exact gG) ?_|refine DV (by assumption) (by assumption) (by assumption) ?_|refine fO (by assumption) hr.m ?_|refine A8 (by assumption) hr.m|refine mU rfl (by assumption) ?_|refine Dh (by assumption) ?_|refine IR rfl (by assumption) (by assumption) ?_|refine gM rfl (by assumption) ?_|refine Di (by assumption) ?_|refine gP rfl (by assumption) ?_|refine gQ rfl (by assumption) ?_|refine gO rfl (by assumption) ?_ ?_|refine NM hr rfl (by assumption) ?_|refine NN hr (by assumption) ?_|refine DS hr rfl (by assumption) ?_)
       |exact qY|exact gC (by assumption)|refine gX ?_ ?_|exact gD (by assumption)|exact Du (by assumption)|exact lM|exact lO|refine lU ?_|refine lV ?_|refine lS ?_ ?_|refine rA ?_ ?_|refine lR ?_|refine lQ ?_|refine lT ?_ ?_ ?_|refine mJ ?_|refine Dm ?_ ?_ ?_|exact fB|exact Dz _|exact gK|refine DP ?_|refine L0 hsc hN (by decide +kernel) ?_ λ_ _ _ _ _ nd=>⟨?_,?_,?_⟩|refine DJ (L0 hsc hN (by decide +kernel) ?_ λ_ _ _ _ _ nd=>⟨?_,?_,?_⟩)|refine mE ?_ ?_|refine mF ?_ ?_|refine mH ?_ ?_|refine gW ?_ ?_|refine fT ?_ ?_|refine mG ?_ ?_|refine rH ?_ ?_|refine rE ?_ ?_|refine rG ?_ ?_|refine fZ ?_ ?_ ?_|refine rJ ?_ ?_|refine nN hr ?_ ?_|refine nO hr ?_ ?_)
    | (guard_target =~ Oo ..;first|refine mX ?_ ?_|exact JW)
    | (guard_target =~ VR ..;first|refine A0 ?_ ?_|refine eZ ?_|exact eV|exact Pk)
    | (guard_target =~ F2 ..;first|refine lW ?_|refine rB ?_ ?_ ?_|refine mY _ nd ?_|refine fF ?_|refine lZ rfl ?_ ?_ ?_|refine A6 ?_ ?_|refine Nm ?_ ?_ (by assumption)|refine A4 ?_ ?_ ?_|refine gL ?_ ?_ ?_|refine DA hr ?_ ?_ ?_|refine lX ?_ ?_|exact A1|exact fA|exact fG)
    | (guard_target =~ B3 ..;first
       |refine eT ?_|refine sO (bE ?_ ?_)|refine sO (Pj ?_ ?_)|exact fE
       | (guard_target =~ B3 _ _ (.Compare ..) _;first|refine mO ?_ ?_|refine mP ?_ ?_|refine mQ ?_ ?_|refine DX ?_ ?_|refine mK ?_ ?_|refine mM ?_ ?_|refine mL ?_ ?_|refine NH hr ?_ ?_)
       |refine eS ?_)
    |exact fH _ nd|refine fJ rfl ?_
    |refine bE ?_ ?_|refine Pj ?_ ?_|refine eU ?_|refine AZ ?_
    |refine Dc ?_|refine Pp (by assumption) ?_|refine Pq (by assumption) ?_ ?_|refine mT (by assumption) ?_ ?_|refine Ds (by assumption) ?_|refine nJ ?_|refine nI ?_
    |refine A3 ?_ ?_|exact fI
    |exact PC|refine gA ?_
    |exact mC|refine mD ?_
    |refine DN ?_ ?_ ?_|exact gY
end
def Kh(l:List Nat)(n:Nat):Addr:=l.getD n 0
def FA(K:Frag)(x:Str)(st:Stmt):Prop:=∃(f:Addr)(oc kV dc pm cd ct:Value)(od an:Option Addr)(sl:Array (Option Value)),nsIn K mainGlobals x=some (some (.ref f))/\K.lookup f=some ⟨oc,od,.func (fnOf x x (YZ st) (Z3 st) (QE st) .none kV dc pm an cd ct),sl⟩/\codeIn K cd x=true/\keepIn K (.ref f)=true
theorem fa_mk{K:Frag}{x:Str}{st:Stmt}{f:Addr}{oc kV dc pm cd ct:Value}{od an:Option Addr}{sl:Array (Option Value)}(a:nsIn K mainGlobals x=some (some (.ref f)))(l:K.lookup f=some ⟨oc,od,.func (fnOf x x (YZ st) (Z3 st) (QE st) .none kV dc pm an cd ct),sl⟩)(d:codeIn K cd x=true)(k:keepIn K (.ref f)=true):FA K x st:=⟨f,oc,kV,dc,pm,cd,ct,od,an,sl,a,l,d,k⟩
theorem FA.u{K:Frag}{h:Heap}{mg:Xa}{x:Str}{st:Stmt}(a:FA K x st)(X:K.In h)(G:h.Ns mainGlobals mg):UF K mg x st:=by obtain⟨f,oc,kV,dc,pm,cd,ct,od,an,sl,a,l,d,k⟩:=a;exact⟨f,_,IB l d k,Re X G a⟩
def FM(K:Frag)(C:Addr)(x q:Str)(st:Stmt):Prop:=∃(f:Addr)(oc kV dc pm cd ct:Value)(od an:Option Addr)(sl:Array (Option Value)),findIn K (.ref C) x=some (some (.ref f))/\K.lookup f=some ⟨oc,od,.func (fnOf x q (YZ st) (Z3 st) (QE st) .none kV dc pm an cd ct),sl⟩/\codeIn K cd q=true/\keepIn K (.ref f)=true/\isFn K (.ref f)=true
theorem fm_mk{K:Frag}{C:Addr}{x q:Str}{st:Stmt}{f:Addr}{oc kV dc pm cd ct:Value}{od an:Option Addr}{sl:Array (Option Value)}(a:findIn K (.ref C) x=some (some (.ref f)))(l:K.lookup f=some ⟨oc,od,.func (fnOf x q (YZ st) (Z3 st) (QE st) .none kV dc pm an cd ct),sl⟩)(d:codeIn K cd q=true)(k:keepIn K (.ref f)=true)(i:isFn K (.ref f)=true):FM K C x q st:=⟨f,oc,kV,dc,pm,cd,ct,od,an,sl,a,l,d,k,i⟩
theorem FM.m{K:Frag}{C:Addr}{x q:Str}{st:Stmt}(h:FM K C x q st)(w:IO K C=true):UM K C x q st:=by obtain⟨f,oc,kV,dc,pm,cd,ct,od,an,sl,a,l,d,k,i⟩:=h;exact⟨f,_,IB l d k,⟨a,i,k⟩,PF w⟩
theorem FM.i{K:Frag}{h:Heap}{mg:Xa}{C:Addr}{q cn:Str}{st:Stmt}(u:FM K C "__init__" q st)(X:K.In h)(G:h.Ns mainGlobals mg)(m:makesIn K C=true)(qk:keepIn K (.ref C)=true)(c:nsIn K mainGlobals cn=some (some (.ref C))):UI K mg C q cn st:=by obtain⟨f,oc,kV,dc,pm,cd,ct,od,an,sl,a,l,d,k,i⟩:=u;exact⟨f,_,IB l d k,⟨m,a,i,qk⟩,Re X G c⟩
theorem z_mk{K:Frag}{h:Heap}{mg:Xa}(X:K.In h)(G:h.Ns mainGlobals mg){C0 C1 C4 C7 C8 C9 C11 C12 C14 C15:Addr}{og_BLANK:_}{og_FIRST_SHOT og_b:Addr}{og_t og_u:Tok}{og_c og_d:Option Addr}{og_n og_m:Nat}{og_p og_q:Array (Option Value)}{og_GROW:_}{og_LEFT:_}{og_RIGHT:_}{og_SAME:_}{og_SHIFTED:_}{og_WALL:_}(c0:nsIn K mainGlobals "TapeError"=some (some (.ref C0)))(c1:nsIn K mainGlobals "NoMachine"=some (some (.ref C1)))(c4:nsIn K mainGlobals "NoShot"=some (some (.ref C4)))(c7:nsIn K mainGlobals "NoShape"=some (some (.ref C7)))(c8:nsIn K mainGlobals "NoMove"=some (some (.ref C8)))(c9:nsIn K mainGlobals "NoWidth"=some (some (.ref C9)))(c11:nsIn K mainGlobals "Machine"=some (some (.ref C11)))(c12:nsIn K mainGlobals "Walk"=some (some (.ref C12)))(c14:nsIn K mainGlobals "Grams"=some (some (.ref C14)))(c15:nsIn K mainGlobals "Gathering"=some (some (.ref C15)))(a1:FA K "is_whole" (top 8))(a2:FA K "is_below" (top 9))(a3:FA K "is_entry" (top 16))(a4:FA K "check_rows" (top 17))(a5:FA K "_law_next" (top 101))(a6:FA K "_law_same" (top 102))(a7:FA K "_law_table" (top 103))(a8:FA K "_law_gram" (top 104))(a9:FA K "_law_stands" (top 105))(a10:FA K "_law_walked" (top 106))(a11:FA K "signs_of" (top 20))(a12:FA K "states_of" (top 19))(a13:FA K "check_shot" (top 40))(a14:FA K "after_from" (top 41))(a15:FA K "after" (top 42))(a16:FA K "is_grow_paper" (top 85))(a17:FA K "takes_grow" (top 87))(a18:FA K "is_paper" (top 91))(a19:FA K "takes_same" (top 95))(a20:FA K "takes_shifted" (top 97))(a21:FA K "grams_of" (top 32))(a22:FA K "entry_at" (top 27))(a23:FA K "gram_ahead" (top 29))(a24:FA K "gram_behind" (top 28))(a25:FA K "next_context" (top 30))(a26:FA K "other_way" (top 15))(a27:FA K "holds_at" (top 33))(a28:FA K "is_gram" (top 23))(a29:FA K "are_grams" (top 25))(a30:FA K "is_context" (top 24))(a31:FA K "is_from_nought" (top 10))(a32:FA K "is_wall_paper" (top 26))(a33:FA K "wall_taken" (top 34))(a34:FA K "takes" (top 99))(a35:FA K "wall_of" (top 36))(a36:FA K "_law_one" (top 107))(a37:FA K "law" (top 108))(a38:FM K C11 "__init__" "Machine.__init__" (Qk (top 18) 0))(m38:makesIn K C11=true)(q38:keepIn K (.ref C11)=true)(a39:FM K C12 "__init__" "Walk.__init__" (Qk (top 39) 0))(m39:makesIn K C12=true)(q39:keepIn K (.ref C12)=true)(a40:FM K C12 "is_on_mark" "Walk.is_on_mark" (Qk (top 39) 1))(w12:IO K C12=true)(a41:FM K C12 "entry" "Walk.entry" (Qk (top 39) 2))(a42:FM K C12 "go_left" "Walk.go_left" (Qk (top 39) 5))(a43:FM K C12 "go_right" "Walk.go_right" (Qk (top 39) 4))(a44:FM K C12 "write" "Walk.write" (Qk (top 39) 3))(a45:FM K C12 "stepped" "Walk.stepped" (Qk (top 39) 6))(a46:FM K C12 "run" "Walk.run" (Qk (top 39) 7))(a47:FM K C12 "shot" "Walk.shot" (Qk (top 39) 8))(a48:FM K C14 "beginning" "Grams.beginning" (Qk (top 31) 1))(w14:IO K C14=true)(a49:FM K C14 "has" "Grams.has" (Qk (top 31) 2))(a50:FM K C14 "__init__" "Grams.__init__" (Qk (top 31) 0))(m50:makesIn K C14=true)(q50:keepIn K (.ref C14)=true)(a51:FM K C14 "put_in" "Grams.put_in" (Qk (top 31) 3))(a52:FM K C15 "ask_for" "Gathering.ask_for" (Qk (top 35) 1))(w15:IO K C15=true)(a53:FM K C15 "__init__" "Gathering.__init__" (Qk (top 35) 0))(m53:makesIn K C15=true)(q53:keepIn K (.ref C15)=true)(a54:FM K C14 "in_order" "Grams.in_order" (Qk (top 31) 4))(a55:FM K C15 "paper" "Gathering.paper" (Qk (top 35) 4))(a56:FM K C15 "put_gram" "Gathering.put_gram" (Qk (top 35) 2))(a57:FM K C15 "went_on" "Gathering.went_on" (Qk (top 35) 3))(nz_all:nsIn K mainGlobals "all"=some none)(nz_bool:nsIn K mainGlobals "bool"=some none)(nz_dict:nsIn K mainGlobals "dict"=some none)(nz_int:nsIn K mainGlobals "int"=some none)(nz_isinstance:nsIn K mainGlobals "isinstance"=some none)(nz_len:nsIn K mainGlobals "len"=some none)(nz_list:nsIn K mainGlobals "list"=some none)(nz_max:nsIn K mainGlobals "max"=some none)(nz_min:nsIn K mainGlobals "min"=some none)(nz_range:nsIn K mainGlobals "range"=some none)(nz_reversed:nsIn K mainGlobals "reversed"=some none)(nz_sorted:nsIn K mainGlobals "sorted"=some none)(nz_str:nsIn K mainGlobals "str"=some none)(nz_tuple:nsIn K mainGlobals "tuple"=some none)(nz_zip:nsIn K mainGlobals "zip"=some none)(ng_BLANK:nsIn K mainGlobals "BLANK"=some (some (.int 0 og_BLANK)))(ng_FIRST_SHOT:nsIn K mainGlobals "FIRST_SHOT"=some (some (.ref og_FIRST_SHOT)))(mg_FIRST_SHOT:K.lookup og_FIRST_SHOT=some ⟨.type "tuple",og_c,.seq [.int 0 og_t,.int 0 og_u,.ref og_b].toArray og_n,og_p⟩)(mh_FIRST_SHOT:K.lookup og_b=some ⟨.type "tuple",og_d,.seq [].toArray og_m,og_q⟩)(ng_GROW:nsIn K mainGlobals "GROW"=some (some (.str "grow" og_GROW)))(ng_LEFT:nsIn K mainGlobals "LEFT"=some (some (.str "l" og_LEFT)))(ng_RIGHT:nsIn K mainGlobals "RIGHT"=some (some (.str "r" og_RIGHT)))(ng_SAME:nsIn K mainGlobals "SAME"=some (some (.str "same" og_SAME)))(ng_SHIFTED:nsIn K mainGlobals "SHIFTED"=some (some (.str "shifted" og_SHIFTED)))(ng_WALL:nsIn K mainGlobals "WALL"=some (some (.str "wall" og_WALL)))(na_asking:Ks K (Kh [C0,C1,0,0,C4,0,0,C7,C8,C9,0,C11,C12,0,C14,C15]) [15] "asking"=true)(na_by_seen:Ks K (Kh [C0,C1,0,0,C4,0,0,C7,C8,C9,0,C11,C12,0,C14,C15]) [14] "by_seen"=true)(na_contexts:Ks K (Kh [C0,C1,0,0,C4,0,0,C7,C8,C9,0,C11,C12,0,C14,C15]) [15] "contexts"=true)(na_left_marks:Ks K (Kh [C0,C1,0,0,C4,0,0,C7,C8,C9,0,C11,C12,0,C14,C15]) [12] "left_marks"=true)(na_machine:Ks K (Kh [C0,C1,0,0,C4,0,0,C7,C8,C9,0,C11,C12,0,C14,C15]) [15] "machine"=true)(na_pending:Ks K (Kh [C0,C1,0,0,C4,0,0,C7,C8,C9,0,C11,C12,0,C14,C15]) [15] "pending"=true)(na_place:Ks K (Kh [C0,C1,0,0,C4,0,0,C7,C8,C9,0,C11,C12,0,C14,C15]) [12] "place"=true)(na_right_marks:Ks K (Kh [C0,C1,0,0,C4,0,0,C7,C8,C9,0,C11,C12,0,C14,C15]) [12] "right_marks"=true)(na_sides:Ks K (Kh [C0,C1,0,0,C4,0,0,C7,C8,C9,0,C11,C12,0,C14,C15]) [15] "sides"=true)(na_state:Ks K (Kh [C0,C1,0,0,C4,0,0,C7,C8,C9,0,C11,C12,0,C14,C15]) [12] "state"=true)(na_table:Ks K (Kh [C0,C1,0,0,C4,0,0,C7,C8,C9,0,C11,C12,0,C14,C15]) [11,12] "table"=true):Zk K mg (Kh [C0,C1,0,0,C4,0,0,C7,C8,C9,0,C11,C12,0,C14,C15]):=⟨UV X G nz_all,UV X G nz_bool,UV X G nz_dict,UV X G nz_int,UV X G nz_isinstance,UV X G nz_len,UV X G nz_list,UV X G nz_max,UV X G nz_min,UV X G nz_range,UV X G nz_reversed,UV X G nz_sorted,UV X G nz_str,UV X G nz_tuple,UV X G nz_zip,⟨_,Re X G ng_BLANK⟩,⟨_,.ref _,Re X G ng_FIRST_SHOT,rfl,Dt mg_FIRST_SHOT mh_FIRST_SHOT⟩,⟨_,Re X G ng_GROW⟩,⟨_,Re X G ng_LEFT⟩,⟨_,Re X G ng_RIGHT⟩,⟨_,Re X G ng_SAME⟩,⟨_,Re X G ng_SHIFTED⟩,⟨_,Re X G ng_WALL⟩,Jp na_asking,Jp na_by_seen,Jp na_contexts,Jp na_left_marks,Jp na_machine,Jp na_pending,Jp na_place,Jp na_right_marks,Jp na_sides,Jp na_state,Jp na_table,a1.u X G,a2.u X G,a3.u X G,a4.u X G,a38.i X G m38 q38 c11,a5.u X G,a6.u X G,a7.u X G,a8.u X G,a9.u X G,a10.u X G,a39.i X G m39 q39 c12,a40.m w12,a41.m w12,a42.m w12,a43.m w12,a44.m w12,a45.m w12,a46.m w12,a47.m w12,a11.u X G,a12.u X G,a13.u X G,a14.u X G,a15.u X G,a16.u X G,a17.u X G,a18.u X G,a19.u X G,a20.u X G,a48.m w14,a49.m w14,a50.i X G m50 q50 c14,a51.m w14,a21.u X G,a22.u X G,a23.u X G,a24.u X G,a25.u X G,a26.u X G,a27.u X G,a28.u X G,a29.u X G,a30.u X G,a31.u X G,a32.u X G,a33.u X G,a34.u X G,a52.m w15,a53.i X G m53 q53 c15,a54.m w14,a55.m w15,a56.m w15,a57.m w15,a35.u X G,a36.u X G,a37.u X G⟩
theorem walk{l:PySem.W.OpenLaw}{p:Program}{loose:List Str}{XP:Xa->Heap->Prop}{YP:World->Heap->Prop}{d:DefRec}{K:Params->Frag}(C:List Nat)(hn:l.most=some 63)(hdf:d.params.defaults=[])(hd:d.name ="law")(hY:∀(w:World) (h:Heap),YP w h->(K w.params).In h)(F:∀(w:World) (mg:Xa) (h:Heap),(K w.params).In h->h.Ns mainGlobals mg->Zk (K w.params) mg (Kh C))(M:∀ns:List Int,ns.length<=63->∃g',Mg [.fl (ns.map D.int)] []=.ok (.bl true) g'):PySem.W.WalkO p loose XP YP l.row.toRowW d [] (λf vs=>PySem.call f vs):=by
 refine L2.walk_of (n:=63) (k:=9) (x:="_law_script") (CX:=λw=>Il) (sp:=λw=>Nn (K w.params) (Kh C) 1 Mg) hn (by decide) hdf ⟨rfl,by decide,by decide⟩ hY (λw mg fa h KX G hmg=>?_) (λw H a ns hl hO hS=>gH hO hS (M ns hl)) (λw H s e s' z=>?_)
 ·have Z:=F w mg h KX G;obtain⟨f,fd,Fu,hm⟩:=Z.u56;rw[hd]at hmg;have e:=hmg.symm.trans hm;cases e;refine⟨fd,λs u=>?_,λbase _ _=>(tQ Z).2.2.2.2.2.2.2.2.2.2.2.2.2.2.2.2.2.2.2.2.2.2.2.2.2.2.2.2.2.2.2.2.2.2.2.2.2.2.2.2.2.2.2.2.2.2.2.2.2.2.2.2.2.2.2.2 _ _ Fu⟩;obtain⟨oc,od,kV,doc,pm,an,cdv,ct,osl,rfl,lk,hcd⟩:=Fu.ex;exact .of_eq rfl
 ·exact z
end V
namespace V
open PySem PySem.W PySem.W.X PySem.Spec PyProof.Rows
theorem walkX_of{as:List Addr}{K:Params->Frag}{n t:Nat}{q:Program}{loose:List Str}{XP:Xa->Heap->Prop}{r:RowW}{d:DefRec}{kwd:List (Str×PySem.Expr)}{run:Value->List Value->Sem Value}(e:∀P,as=(K P).map (·.1))(h:WalkO q loose XP (InK K) r d kwd run):WalkX q loose XP (obsZ as) (valZ K n t) r d kwd run:=λw s₀ s₁ mg mb G y a o pm cd doc dV kV h1 h2 h3 h4 h5 h6 args vals as' L p1 p2 p3 p4 p5=>
  h w s₀ s₁ mg mb G (InK.keeps w _ _ (z_facts e y).2.1 L.keeps) a o pm cd doc dV kV h1 h2 h3 h4 h5 h6 args vals as' p1 p2 p3 p4 p5
end V
noncomputable def PySem.W.Fast.tw4549291647353728148 : PySem.Program := PySem.Challenge.pw_tapeproof_k52_contexts_walked
theorem PySem.W.Fast.te4549291647353728148 : PySem.Challenge.pw_tapeproof_k52_contexts_walked=PySem.W.Fast.tw4549291647353728148 := rfl
namespace PySem.W.Fast
def tw17051373420255962024:=()
def tw14510197622282785674:=()
def tw9820650945297703074:=()
def tw12403523436951165153:=()
def tw2295671680572321386:=()
def tw10902725683760818602:=()
def tw9662575915112941115:=()
def tw2513807214296078571:=()
def tw4483146346482364900:=()
def tw10646266505281854876:=()
def tw17246644641469182018:=()
def tw2764200589855041745:=()
def tw17055066463990173218:=()
def tw5313026018482004309:=()
def tw12396898694740930048:=()
def tw13646181574373732945:=()
def tw16313905240698470423:=()
def tw10398722007071545413:=()
def tw7633489681371880985:=()
def tw16115286378435403510:=()
def tw11764688430146603865:=()
def tw9864722074200330888:=()
def tw12796818636647253299:=()
def tw10001230866764902147:=()
def tw509799065843673380:=()
def tw12846334428297449932:=()
def tw12990121198603328240:=()
def tw12327060994273775425:=()
def tw17577287950158136078:=()
def tw11591845566758220782:=()
def tw8884412272908244513:=()
def tw4354673966670866131:=()
def tw2974481043430044600:=()
def tw8324985313530249341:=()
def tw9448905717688942188:=()
def tw11200497392298751030:=()
def tw14283137858440641512:=()
def tw12519675799653916826:=()
def tw7875547536857852188:=()
def tw14029938558130324167:=()
def tw6120173282700348315:=()
def tw7302543100124332880:=()
def tw7991518070990912942:=()
def tw3289991288646348195:=()
def tw14369921189260299165:=()
def tw3471526223868260013:=()
def tw7988323316265522832:=()
def tw7789870157855591518:=()
def tw16135293049774522452:=()
def tw14444660152807648440:=()
def tw760598035850670773:=()
def tw5365724751845332020:=()
def tw4523577988760583983:=()
def tw17598111387133434796:=()
def tw10663305481702535121:=()
def tw2114819436481658871:=()
def tw3037053157340523010:=()
def tw12400180887867405180:=()
def tw7368818468486192693:=()
def tw6283619880724513661:=()
def tw14838418004594620044:=()
def tw2103700292926109733:=()
def tw18443181370707128066:=()
def tw10947403507732605668:=()
def tw3968981878415540178:=()
def tw10856619002803014358:=()
def tw4911236317146980547:=()
def tw18320133562443246421:=()
def tw6008954953671868627:=()
def tw1618251663497088202:=()
def tw8636212427599534866:=()
def tw7600565139435158236:=()
def tw2875251625851503416:=()
def tw7030490620312253887:=()
def tw15192586810146278071:=()
def tw10119674952719944916:=()
def tw7105705486754660352:=()
def tw5668671276000683639:=()
def tw7370375605290416216:=()
def tw13457231344932582154:=()
def tw2597460718180890958:=()
def tw2316776107666024115:=()
def tw1899777819581880956:=()
def tw16194434549744142007:=()
def tw5936173562239863574:=()
def tw438397528867647589:=()
def tw16958610102421260011:=()
def tw18376035254859877953:=()
def tw4879481372691615314:=()
def tw1858769269528083898:=()
def tw2667241540756481105:=()
def tw15524923633225224405:=()
def tw1495516992293424034:=()
def tw2789248198160331338:=()
def tw144426143844160610:=()
def tw15251117646058315976:=()
def tw10237657359239650642:=()
def tw11181061234663253549:=()
def tw7401281766170015065:=()
def tw16429273602354007428:=()
def tw17389455918374175856:=()
def tw4860641605146966946:=()
def tw7233122513673909059:=()
def tw12630786141221660804:=()
def tw11912561074451452621:=()
def tw11587917434331379953:=()
def tw1460352939281132800:=()
def tw3867592756220525340:=()
def tw13202353807331706985:=()
def tw14485931527187763772:=()
def tw669221314550280951:=()
def tw2767643180156454439:=()
def tw16665584641669263976:=()
def tw7977975611160128766:=()
def tw4243049052214172593:=()
def tw17807796315146327131:=()
def tw8109905276092771733:=()
def tw14627845840752233438:=()
def tw7808404413665526697:=()
def tw11333810990423229038:=()
def tw1950452071151158911:=()
def tw14053588741717149155:=()
def tw18344382733280345268:=()
def tw15491963154911128993:=()
def tw4740569343981605610:=()
def tw15322322812959662873:=()
def tw14116655455224622921:=()
def tw7881579010575569613:=()
def tw8830957931385460879:=()
def tw6719441129391020521:=()
def tw3382940725843911719:=()
def tw4079129289286822702:=()
def tw6099278323925326174:=()
def tw4688950760517337942:=()
def tw15314681025318277123:=()
def tw2528363826821284693:=()
def tw11656796660290863097:=()
def tw6391133660721027184:=()
def tw2257157045567283129:=()
def tw3978679406130574921:=()
def tw6377639081642811824:=()
def tw10960812229596745926:=()
def tw2827646555762841569:=()
def tw17661716453065006103:=()
def tw11168257278706925513:=()
def tw7062451798391958724:=()
def tw2997414084927481667:=()
def tw5201380695467771064:=()
def tw4672687566784665497:=()
def tw558174990256908042:=()
def tw9385070658563723921:=()
def tw1084071403601613510:=()
def tw17554554170358148222:=()
def tw16891587890341763757:=()
def tw6138152428944777642:=()
def tw15529313907189982375:=()
def tw16933145350700476408:=()
def tw12292295126871028408:=()
def tw13770335338300283593:=()
def tw16810320575836002794:=()
def tw3991258114634442498:=()
def tw4535063047794078113:=()
def tw14001491235681497697:=()
def tw9053595993880834824:=()
def tw9342127505654763894:=()
def tw2912648905645627772:=()
def tw12677314442377002636:=()
def tw14765788055071642938:=()
def tw7607044843493135540:=()
def tw7204165144289957944:=()
def tw3140480574765884521:=()
def tw8322467235512150017:=()
def tw8746043730996681790:=()
def tw1747107918803547234:=()
def tw14901453379419124885:=()
def tw18281314637633827647:=()
def tw10917370916137000651:=()
def tw3127298383193773077:=()
def tw7454442287250111827:=()
def tw9912323681294119656:=()
def tw3565390379242421385:=()
def tw2298590398427629095:=()
def tw12275661895311359086:=()
def tw11111165933373512260:=()
def tw12480635903801025049:=()
def tw17553679642396610185:=()
def tw10036072980745614139:=()
def tw6510788689090581009:=()
def tw1706702730265869272:=()
def tw14626740365317596595:=()
def tw4495348514163096:=()
def tw8513583120170258534:=()
def tw9194702271913808464:=()
def tw16727364410044047249:=()
def tw2228125117065784908:=()
def tw14376041874185157686:=()
def tw611109318651103633:=()
def tw11914883993708681528:=()
def tw16494184011240382452:=()
def tw16530676331062895397:=()
def tw13728197069975741566:=()
def tw17048922033622976251:=()
def tw8548217062032434687:=()
def tw11052574337865772150:=()
def tw17610566521896525088:=()
def tw10179483130264030874:=()
def tw5149657532336214973:=()
def tw1973394986896071823:=()
def tw10770452850983837638:=()
def tw18050339020072798521:=()
def tw16473112705288241590:=()
def tw8138757257195758461:=()
def tw4086808084005115042:=()
def tw10573436366978713517:=()
def tw15337539173330281061:=()
def tw5862230776924175800:=()
def tw17323729208768647446:=()
def tw5576289986482902810:=()
def tw14113074848768083104:=()
def tw5072292262695036911:=()
def tw16322197780967584732:=()
def tw14282281939534608556:=()
def tw7264187186739126516:=()
def tw8497512578514769637:=()
def tw4083647361120581498:=()
def tw9820823057713255393:=()
def tw8228241622002756913:=()
def tw15094430685101595731:=()
def tw2947154586218805111:=()
def tw10630734341144204671:=()
def tw6020373247714518378:=()
def tw15752353895453803027:=()
def tw18042540570910347000:=()
def tw13566579282730824522:=()
def tw15149231159462390663:=()
def tw8711549869801784942:=()
def tw16148095081117058005:=()
def tw13830015183962259002:=()
def tw347755937986408030:=()
def tw18010276397104778140:=()
def tw1268204144587752636:=()
def tw5560616094091748758:=()
def tw3138620059524876539:=()
def tw15498793731140140259:=()
def tw5258969336854493793:=()
def tw10971319241339960464:=()
def tw17765507765697735777:=()
def tw1143998683487805618:=()
def tw12439376678403475432:=()
def tw2303378536992572530:=()
def tw17521501635188010164:=()
def tw1509583296845501904:=()
def tw9959881990399914519:=()
def tw10799696236135778377:=()
def tw8167475864406394593:=()
def tw1289710838118328166:=()
def tw14231614680828580768:=()
def tw15827859799978832356:=()
def tw17110339621570804910:=()
def tw8822764852342079661:=()
def tw2089123622125326524:=()
def tw6376497735613991896:=()
def tw15861372179943604232:=()
def tw8124934546130838644:=()
def tw14427920107690787799:=()
def tw1832310596492833153:=()
def tw2639555334015932699:=()
def tw16058039133944270408:=()
def tw2803936663879361191:=()
def tw1604926467449520459:=()
def tw14798952128405544572:=()
def tw6751370035656272313:=()
def tw14068137081038713234:=()
def tw9657968591293649621:=()
def tw9385127527346887678:=()
def tw9557042212193327550:=()
def tw3867724697718228918:=()
def tw6332313607338029191:=()
def tw2337493128673200942:=()
def tw10638310821311999492:=()
def tw12006928097674201403:=()
def tw3850287360327416294:=()
def tw10762090776195332638:=()
def tw15608742372847192728:=()
def tw6678791895215298811:=()
def tw16522045046017741972:=()
def tw16872324018098480498:=()
def tw9035700331762728746:=()
def tw456194431424395211:=()
def tw3001589666355961763:=()
def tw5506891622568710919:=()
def tw6065137978658049329:=()
def tw7852674361563178696:=()
def tw12994164818549978718:=()
def tw769719267495415726:=()
def tw15102820825023223853:=()
def tw14231238189061104859:=()
def tw5431436042322334029:=()
def tw13045719621945122166:=()
def tw12687687421103027242:=()
def tw18167487467174315285:=()
def tw17502901810375991067:=()
def tw13761860214690461718:=()
def tw4735263421465668988:=()
def tw3221947356023660775:=()
def tw12373451352677540404:=()
def tw7922078973524889086:=()
def tw1614890650157340656:=()
def tw15420853474094709259:=()
def tw14308509028565709046:=()
def tw14968154666377494457:=()
def tw14304191299328720476:=()
def tw14549970333078198541:=()
def tw8167975805586251791:=()
def tw7292664112457533835:=()
def tw7144144413908820492:=()
def tw5351149749153811312:=()
def tw17775188579645151755:=()
def tw6985535306637162723:=()
def tw10734644340284215126:=()
def tw5619321998689727390:=()
def tw2705622553246100526:=()
def tw14708132611198937358:=()
def tw645172906630383471:=()
def tw17893857067185216420:=()
def tw12642750562217383168:=()
def tw5213175360796241727:=()
def tw9282948195737305434:=()
def tw16784586411016977172:=()
def tw17665410008066414964:=()
def tw1327037820690628779:=()
def tw13032937737556172188:=()
def tw1399080863453137795:=()
def tw18103216115055888339:=()
def tw15618190805972824866:=()
def tw10212163497220338168:=()
def tw1159969701183350552:=()
def tw14765070306103113969:=()
def tw6029342756700938485:=()
def tw7101523142030602088:=()
def tw9926073809547995889:=()
def tw2204877828171606042:=()
def tw15346038442343630227:=()
def tw2343111722773066088:=()
def tw7616711995087695662:=()
def tw4456528996611344205:=()
def tw9074924840431481091:=()
def tw13937832396404324513:=()
def tw17953497372331553696:=()
def tw5063701770497322816:=()
def tw8845928815215062243:=()
def tw948588754814432860:=()
def tw8004470227441138623:=()
def tw1703487509596823630:=()
def tw17467280487083086957:=()
def tw1806253576998430554:=()
def tw17937834599709300499:=()
def tw17904924597466726833:=()
def tw16149587802826644003:=()
def tw686796035806973907:=()
def tw2343700675606291958:=()
def tw12120727505793208655:=()
def tw1406040190918880137:=()
def tw4743192723120522252:=()
def tw13905163300541707522:=()
def tw8973843419742884192:=()
def tw8371661116571982638:=()
def tw11668622065569725385:=()
def tw10038718055806413179:=()
def tw13108185560128321527:=()
def tw15084341044640548969:=()
def tw9438991278129725154:=()
def tw3800164449752768312:=()
def tw3433363844024658541:=()
def tw7161268188648292415:=()
def tw17008244014118689630:=()
def tw4755156084144044857:=()
def tw2146796315612366373:=()
def tw10721157763508257318:=()
def tw3194037487275635102:=()
def tw6397038265748229981:=()
def tw6406779612782550612:=()
def tw1842723419739663064:=()
def tw13807696939758494516:=()
def tw9287959954127116234:=()
def tw1231203969367225348:=()
def tw8973780906906855434:=()
def tw4998080787837001615:=()
def tw1490398180155095261:=()
def tw13631656635055371516:=()
def tw15308039525407733961:=()
def tw3833518006213190842:=()
def tw13966617287302169811:=()
def tw5100288806014225044:=()
def tw2519744887310190786:=()
def tw13033785510507864623:=()
def tw763301682487703730:=()
def tw10204814966700881986:=()
def tw5756634997698753956:=()
def tw3371957367645963173:=()
def tw11008559815918815173:=()
def tw3339560181020030213:=()
def tw7790755486986410726:=()
def tw5240487208624928078:=()
def tw4326904949699826083:=()
def tw11552322484485914656:=()
def tw8980303194220053032:=()
def tw11463757646992385335:=()
def tw16231048241224964069:=()
def tw1125445656958160:=()
def tw9574245564647882938:=()
def tw2819339709955171302:=()
def tw3584957414835364295:=()
def tw6251147220922575930:=()
def tw346732308977125629:=()
def tw14810070003613960006:=()
def tw4436824207544189442:=()
def tw17011056856888056851:=()
def tw17207276123700509302:=()
def tw9193508411493371989:=()
def tw15379917007829949301:=()
def tw6853774375027516475:=()
def tw6325565412751556695:=()
def tw8168612870387674340:=()
def tw1488112296366568643:=()
def tw13869031387085256916:=()
def tw6856689908063837037:=()
def tw14136754546602773671:=()
def tw9607233166654131801:=()
def tw5702100968666439074:=()
def tw11437300881022797878:=()
def tw13745426634982578661:=()
def tw14874808488964561023:=()
def tw11567999222300876200:=()
def tw18245029755827081116:=()
def tw8877974868259559321:=()
def tw15223226923558183919:=()
def tw14592442243495105819:=()
def tw660966231290542604:=()
end PySem.W.Fast
open PySem PySem.W PyProof.Rows
set_option maxRecDepth 100000 in
set_option maxHeartbeats 0 in
theorem PySem.Challenge.cw_tapeproof_k52_contexts_walked_holds : PySem.Challenge.rw_tapeproof_k52_contexts_walked.Holds := by
  w_on; o_law; z_head; (case hw=>w_witness2)
  k_fill
  refine V.walkX_of (fun P=>?E) (V.walk (l:=PySem.Challenge.rw_tapeproof_k52_contexts_walked) [24,37,0,0,49,0,0,61,73,85,0,142,405,0,255,321] rfl rfl rfl (fun w h Y=>Y) ?F L3.law_true)
  case E=>kernel_rfl
  case F =>
    intro w mg h KX G
    refine' V.z_mk KX G ?_ ?_ ?_ ?_ ?_ ?_ ?_ ?_ ?_ ?_ ?_ ?_ ?_ ?_ ?_ ?_ ?_ ?_ ?_ ?_ ?_ ?_ ?_ ?_ ?_ ?_ ?_ ?_ ?_ ?_ ?_ ?_ ?_ ?_ ?_ ?_ ?_ ?_ ?_ ?_ ?_ ?_ ?_ ?_ ?_ ?_ ?_ ?_ ?_ ?_ ?_ ?_ ?_ ?_ ?_ ?_ ?_ ?_ ?_ ?_ ?_ ?_ ?_ ?_ ?_ ?_ ?_ ?_ ?_ ?_ ?_ ?_ ?_ ?_ ?_ ?_ ?_ ?_ ?_ ?_ ?_ ?_ ?_ ?_ ?_ ?_ ?_ ?_ ?_ ?_ ?_ ?_ ?_ ?_ ?_ ?_ ?_ ?_ ?_ ?_ ?_ ?_ ?_ ?_ ?_ ?_ ?_ ?_ ?_ ?_ ?_ ?_ ?_ ?_
    rotate_right 114
    iterate 10 (focus k_is)
    iterate 37 (focus (refine' V.fa_mk ?_ ?_ ?_ ?_; rotate_right 4; iterate 4 focus k_is))
    iterate 1 (focus (refine' V.fm_mk ?_ ?_ ?_ ?_ ?_; rotate_right 5; iterate 5 focus k_is))
    iterate 2 (focus k_is)
    iterate 1 (focus (refine' V.fm_mk ?_ ?_ ?_ ?_ ?_; rotate_right 5; iterate 5 focus k_is))
    iterate 2 (focus k_is)
    iterate 1 (focus (refine' V.fm_mk ?_ ?_ ?_ ?_ ?_; rotate_right 5; iterate 5 focus k_is))
    iterate 1 (focus kernel_rfl)
    iterate 8 (focus (refine' V.fm_mk ?_ ?_ ?_ ?_ ?_; rotate_right 5; iterate 5 focus k_is))
    iterate 1 (focus kernel_rfl)
    iterate 2 (focus (refine' V.fm_mk ?_ ?_ ?_ ?_ ?_; rotate_right 5; iterate 5 focus k_is))
    iterate 2 (focus k_is)
    iterate 2 (focus (refine' V.fm_mk ?_ ?_ ?_ ?_ ?_; rotate_right 5; iterate 5 focus k_is))
    iterate 1 (focus kernel_rfl)
    iterate 1 (focus (refine' V.fm_mk ?_ ?_ ?_ ?_ ?_; rotate_right 5; iterate 5 focus k_is))
    iterate 2 (focus k_is)
    iterate 4 (focus (refine' V.fm_mk ?_ ?_ ?_ ?_ ?_; rotate_right 5; iterate 5 focus k_is))
    iterate 25 (focus k_is)
    iterate 11 (focus kernel_rfl)
