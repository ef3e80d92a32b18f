import PyProof.Rows.All
import Wide.All
import OpenK.AllK
import Wide.FinOn
import Lean
import PyProof.EqAt
import PyProof.EqKinds
import PyProof.TupleCall
import PySem.Challenge.RW_tapeproof_k50_made_least
local macro_rules | `(tactic| omega) => `(tactic| lia)
set_option Elab.async false
set_option linter.all false
set_option maxRecDepth 100000
noncomputable section
abbrev VP:=PySem.Value->PySem.Shared->Prop
abbrev LAO:=List (PySem.Addr×PySem.Obj)
abbrev SOV:=PySem.Str->Option PySem.Value
def Ua:=@PySem.wpAny_bind
def Ub:=@PySem.wpAny_pure
def Uc:=@PySem.Heap.get?_push_of_some
def Ud:=@List.length_map
def Ue:=@if_pos
def Uf:=@if_neg
def Ug:=@Nat.le_refl
def Uh:=@List.getElem?_set_ne
def Ui:=@Bool.false_ne_true
def Uj:=@List.mem_singleton
def Uk:=@Nat.le_trans
def Ul:=@List.getElem?_append_left
def Um:=@List.getElem?_eq_some_iff
def Uo:=@PyProof.Rows.wpS_bind
def Uq:=@decide_eq_true
def Ur:=@Array.length_toList
def Us:=@List.length_append
def Ut:=@List.append_assoc
def Uu:=@List.mem_append
def Uv:=@PyProof.Rows.wpS_pure
def Uw:=@PySem.Heap.lt_size
def Ux:=@List.size_toArray
def Uy:=@PySem.Heap.get?_push_size
def Uz:=@List.mem_cons_of_mem
def UA:=@of_decide_eq_true
def UB:=@Nat.lt_of_lt_of_le
def UC:=@decide_eq_false
def UD:=@List.mem_cons_self
def UE:=@List.getElem?_append_right
def UG:=@List.mem_cons
def UH:=@List.length_cons
def UJ:=@List.getElem?_map
def UK:=@List.length_set
def UL:=@Bool.false_eq_true
def UN:=@Bool.and_eq_true
def UO:=@List.map_cons
def UP:=@List.getElem?_set_self
def UQ:=@PySem.wpAny_call_entry
def UR:=@Nat.ne_of_lt
def US:=@List.mem_map
def UT:=@PySem.wpAny_callSpecial?_slot
def UU:=@List.mem_append_right
def UV:=@PySem.W.mg_none_of
def UW:=@Option.map_eq_some_iff
def UX:=@PySem.wpAny_newObj_type
def UY:=@List.append_nil
def UZ:=@Array.toList_append
def U0:=@PySem.wpAny_field
def U1:=@List.getElem?_eq_getElem
def U2:=@Array.getElem_mem
def U3:=@List.mem_filter
def U4:=@List.map_append
def U5:=@Int.le_trans
def U6:=@Nat.le_add_right
def U7:=@List.all_eq_true
def U8:=@PySem.W.kia_one
def U9:=@PyProof.Rows.slot_tuple_getitem
def Ta:=@List.length_replicate
def Tc:=@List.getElem?_eq_none_iff
def Td:=@List.mem_of_getElem?
def Te:=@Int.emod_lt_of_pos
def Tf:=@PyProof.Rows.wpS_forRange
def Tg:=@PySem.wpAny_mono
def Th:=@beq_eq_false_iff_ne
def Ti:=@List.length_singleton
def Tj:=@Array.getElem?_toList
def Tk:=@List.take_succ_eq_append_getElem
def Tn:=@PySem.wpAny_holding
def To:=@PySem.wpAny_truthy_bool
def Tq:=@Array.mem_toList_iff
def Tr:=@PySem.F.slot_dict_valueiterator_next
def Tt:=@PySem.Heap.get?_update_other
def Tu:=@Nat.le_of_add_right_le
def Tv:=@PySem.W.mg_of
def Tw:=@List.length_take
def Tx:=@Nat.add_le_add_left
def Tz:=@List.take_append_drop
def TB:=@beq_iff_eq
def TC:=@Nat.zero_le
def TD:=@PySem.wpAny_rule
def TF:=@PySem.F.slot_dict_keyiterator_next
def TH:=@List.find?_cons
def TJ:=@Int.emod_nonneg
def TK:=@Int.le_of_lt
def TL:=@Array.getElem_toList
def TM:=@decide_eq_decide
def TN:=@List.getElem_mem
def TQ:=@if_false
def TU:=@PySem.sizeLine_eq
def TV:=@Array.perm_iff_toList_perm
def TW:=@Array.getElem?_eq_some_iff
def TX:=@Nat.lt_of_succ_lt
def TY:=@List.any_cons
def TZ:=@PySem.Heap.SameBut.update
def T0:=@List.nodup_cons
def T4:=@Int.le_refl
def T5:=@PyProof.Rows.wpS_mono
def T6:=@Nat.lt_succ_self
def T7:=@List.filter_cons
def T8:=@Option.isSome_iff_exists
def T9:=@PySem.wpAny_typeNameOfWhole_keyiter
def Ra:=@PySem.wpAny_typeNameOfWhole_valiter
def Rb:=@Nat.lt_irrefl
def Rc:=@List.length_dropLast
def Re:=@List.pairwise_append
def Rf:=@Nat.le_of_lt
def Rg:=@PySem.Heap.size_push
def Rh:=@PySem.wpAny_seqItems
def Ri:=@Nat.add_sub_cancel_left
def Rj:=@List.getElem?_cons_succ
def Rl:=@List.getElem?_cons_zero
def Rm:=@List.nodup_append
def Rn:=@List.filterMap_cons
def Ro:=@PySem.mem_of_lookup
def Rq:=@List.replicate_succ
def Rr:=@List.map_map
def Rs:=@List.set_set
def Rt:=@List.length_drop
def Ru:=@PySem.wpAny_attempt
def Rv:=@Bool.not_true
def Rw:=@List.take_length
def Rx:=@PySem.F.slot_tuple_iterator_next
def Ry:=@of_decide_eq_false
def Rz:=@PySem.wpAny_tupleItemsOf
def RA:=@PySem.Obj.data_mapFields
def RB:=@PySem.wpAny_setField_rec
def RC:=@List.filter_append
def RD:=@PySem.Heap.get?_update_self
def RE:=@List.getElem?_eq_none
def RF:=@List.extract_eq_take_drop
def RG:=@List.pairwise_iff_getElem
def RH:=@List.mem_append_left
def RI:=@PySem.wpAny_passesOwn
def RJ:=@PySem.Value.isInt_shape
def RK:=@PySem.wpAny_dictEntries
def RL:=@congrArg
def RM:=@List.getElem_of_mem
def RN:=@List.getElem?_replicate
def RO:=@List.filter_cons_of_pos
def RP:=@List.mem_flatMap
def RQ:=@PySem.wpAny_setField
def RS:=@PySem.Calls.callWith_builtin
def RT:=@List.take_of_length_le
def RU:=@PySem.wpAny_Call_Name_kw
def RV:=@List.pairwise_cons
def RW:=@PySem.F.slot_dict_setdefault
def RX:=@Bool.eq_iff_iff
def RY:=@List.forIn_cons
def RZ:=@List.dropLast_eq_take
def R0:=@PyProof.Rows.callWith_type1
def Wa:=@Nat.add_assoc
def Wb:=@Array.toList_push
def Wc:=@Nat.pred_lt_of_lt
def Wd:=@Int.toNat_natCast
def We:=@decide_eq_true_eq
def Wf:=@Array.toList_extract
def Wg:=@Array.toList_reverse
def Wh:=@Bool.and_eq_true_iff
def Wi:=@List.mem_range
def Wj:=@List.forIn_nil
def Wk:=@if_true
def Wl:=@Nat.le_of_not_lt
def Wm:=@List.drop_eq_getElem_cons
def Wn:=@PySem.wpAny_forIn_list
def Wo:=@PySem.wpAny_isInstance
def Wp:=@List.prefix_refl
def Wq:=@List.reverse_append
def Wr:=@List.map_congr_left
def Ws:=@Int.toNat_of_nonneg
def Wt:=@PySem.F.args_tuple_add_2
def Wu:=@List.nil_append
def Wv:=@Array.append_assoc
def Ww:=@PySem.F.entry_tuple_add
def Wx:=@PySem.F.plainAttrs_list
def Wy:=@List.length_eq_zero_iff
def Wz:=@List.filter_cons_of_neg
def WA:=@Int.not_lt
def WB:=@PySem.F.args_dict_valueiterator_next_1
def WC:=@PySem.F.slot_tuple_add
def WD:=@List.Perm.append_right
def WE:=@Array.size_append
def WF:=@Nat.le_pred_of_lt
def WG:=@PySem.F.slot_tuple_hash
def WH:=@Nat.le_of_eq
def WI:=@PySem.wpAny_typeOf
def WJ:=@Nat.zero_add
def WK:=@PySem.F.entry_dict_valueiterator_next
def WL:=@List.Perm.append_left
def WM:=@List.perm_append_comm
def WN:=@PySem.isSubtype_tuple_tuple
def WO:=@PySem.wpAny_notOrdered_dict
def WP:=@PySem.Obj.isFreed_of_fields
def WQ:=@PySem.wpAny_isOneOf_valiter
def WR:=@PySem.F.args_dict_keyiterator_next_1
def WS:=@PySem.F.args_dict_setdefault_3
def WT:=@Nat.succ_le_succ
def WU:=@List.zipIdx_cons
def WV:=@PySem.F.entry_dict_keyiterator_next
def WW:=@PySem.F.entry_dict_setdefault
def WX:=@PySem.W.looks_findIn
def WY:=@List.all_cons
def WZ:=@PySem.Calls.evalArgs_plain
def W0:=@PySem.wpAny_updateSeq_pair
def W1:=@List.dropLast_subset
def W2:=@PySem.wpAny_of_eq
def W3:=@PySem.F.args_tuple_iterator_next_1
def W4:=@PySem.wpAny_execs_nil
def W5:=@Array.size_push
def W6:=@PySem.wpAny_dictEpoch
def W7:=@PySem.F.slot_zip_next
def W8:=@PyProof.Rows.boot_isinstance
def W9:=@PySem.W.plainGet_of
def Ba:=@Nat.add_sub_cancel'
def Bb:=@PySem.W.looks_subIn
def Bc:=@Bool.or_eq_true_iff
def Bd:=@PySem.wpAny_richCompare_same_room
def Be:=@PySem.F.entry_tuple_iterator_next
def Bf:=@Nat.ne_of_gt
def Bg:=@PySem.call_meetsIn
def Bh:=@PySem.Calls.Name_function_global
def Bi:=@Array.toList_setIfInBounds
def Bj:=@PySem.F.excBase_ValueError
def Bk:=@List.mem_filterMap
def Bl:=@Nat.lt_of_le_of_ne
def Bm:=@Nat.pos_of_ne_zero
def Bn:=@List.set_cons_zero
def Bo:=@PySem.W.callWith_K
def Bp:=@List.drop_drop
def Bq:=@List.take_zero
def Br:=@Bool.not_false
def Bs:=@PyProof.Rows.pairsOf_toList
def Bt:=@PyProof.Rows.wpS_get
def Bu:=@PyProof.Rows.wpS_modify
def Bw:=@PySem.W.kitx_list
def Bx:=@PySem.Obj.cls_mapFields
def By:=@List.pairwise_map
def Bz:=@PySem.wpAny_pyIter_list
def BA:=@List.ext_getElem?
def BB:=@List.getElem?_take_of_lt
def BC:=@PySem.F.slot_dict_values
def BD:=@PySem.wpAny_onRaise
def BF:=@List.eraseIdx_cons_succ
def BG:=@Nat.succ_pred_eq_of_pos
def BI:=@PySem.F.plainAttrs_dict
def BJ:=@List.getElem_inj
def BK:=@PySem.noFill_tuple_add
def BL:=@beq_self_eq_true
def BM:=@PySem.F.slot_tuple_mul
def BN:=@PySem.W.cellsFrom_some
def BQ:=@List.drop_eq_nil_of_le
def BR:=@List.reverse_singleton
def BS:=@List.zipWith_cons_cons
def BT:=@List.filter_eq_nil_iff
def BU:=@PyProof.Rows.wpS_lift
def BV:=@PySem.codeAny_mono
def BW:=@getElem?_pos
def BZ:=@List.of_mem_zip
def B0:=@PySem.call_meets
def B1:=@List.length_nil
def B2:=@PySem.wpAny_specialOf
def B4:=@PySem.F.slot_tuple_eq
def B5:=@List.foldl_cons
def B6:=@Nat.add_lt_of_lt_sub'
def B7:=@Nat.le_sub_of_add_le'
def B8:=@List.set_append_right
def Uak:=@List.drop_zero
def Uay:=@Bool.or_false
open PySem.W (Frag InitBack KitX Looks any_some bind_fn callWith_K callWith_K0 cellsFrom_some class_get clsIn codeIn codeRec_of emptyDict eq_bytes excIn findIn findObj findObj_own fnOf get_value handedIn hasDictIn hideAll hideAll_get hideAll_none hideAll_size instObj isFn isNs_of_in kdl_call kdu_collect keepIn ki_setAt ki_setBack kia_one kia_tup kitAny kitOne kitx_bool kitx_dict kitx_float kitx_int kitx_list kitx_none kitx_own kitx_str kitx_tuple lookIn looks_clsIn looks_find looks_findIn looks_subIn looks_typeIn make_core makesIn makes_of methodCall_KW methodObj method_fn mg_none_of mg_of mroIn ne_bytes nsIn nsMap_none_of_in of_hideAll osa_open plainGet plainGet_of plainOver set_plain specialIn subIn tail_of_in takerIn takesIn typeIn)
namespace L2
open PySem PySem.Spec PyProof.Rows
abbrev Key:=Sum Int Str
def QgB:Key->Value->Bool
 |.inl k,v=>Value.isInt k v|.inr x,v=>Value.isStrOf x v
def keyH(w:World):Key->Int
 |.inl k=>hashInt k|.inr x=>hashStr w x
theorem Q0:∀{k:Key}{v:Value},QgB k v=true->(∃i t,k=Sum.inl i/\v=Value.int i t)\/(∃x t,k=Sum.inr x/\v=Value.str x t)
 |.inl i,v,h=>by obtain⟨t,e⟩:=RJ (k:=i) (v:=v) h;exact .inl ⟨i,t,rfl,e⟩
 |.inr x,v,h=>by obtain⟨t,e⟩:=Value.isStrOf_shape (x:=x) (v:=v) h;exact .inr ⟨x,t,rfl,e⟩
theorem Qhq(i:Int)(t:Tok):QgB (.inl i) (.int i t)=true:=by simp[QgB,Value.isInt]
theorem Qhr(x:Str)(t:Tok):QgB (.inr x) (.str x t)=true:=by simp[QgB,Value.isStrOf]
theorem Qnj(a b:Int):decide ((Sum.inl a:Key)=Sum.inl b)=(a==b):=by
 by_cases e:a=b
 ·subst e;simp
 ·have h:¬(Sum.inl a:Key)=Sum.inl b:=λq=>e (Sum.inl.inj q);rw[UC h];exact(Th.mpr e).symm
theorem Qnk(a b:Str):decide ((Sum.inr a:Key)=Sum.inr b)=decide (a=b):=by
 by_cases e:a=b
 ·subst e;simp
 ·have h:¬(Sum.inr a:Key)=Sum.inr b:=λq=>e (Sum.inr.inj q);rw[UC h,UC e]
theorem Qnl(a:Int)(b:Str):decide ((Sum.inl a:Key)=Sum.inr b)=false:=UC (λq=>nomatch q)
theorem Qnm(a:Str)(b:Int):decide ((Sum.inr a:Key)=Sum.inl b)=false:=UC (λq=>nomatch q)
def Jk(prog:Program)(w:World):PySem.KeyKind prog w Key where
 is:=QgB
 hash:=keyH w
 inj:=λv a b ha hb=>by
  rcases Q0 ha with⟨i,t,rfl,rfl⟩|⟨x,t,rfl,rfl⟩
  ·rcases Q0 hb with⟨j,u,rfl,e⟩|⟨y,u,rfl,e⟩
   ·injection e with e1 _;rw[e1]
   ·exact nomatch e
  ·rcases Q0 hb with⟨j,u,rfl,e⟩|⟨y,u,rfl,e⟩
   ·exact nomatch e
   ·injection e with e1 _;rw[e1]
 byValue:=λk v h=>by rcases Q0 h with⟨i,t,rfl,rfl⟩|⟨x,t,rfl,rfl⟩<;>rfl
 pyHash:=λhv h=>by
  rcases Q0 hv with⟨i,t,rfl,rfl⟩|⟨x,t,rfl,rfl⟩
  ·exact wpAny_pyHash_int h
  ·exact wpAny_pyHash_str h
 eqBool:=λhu hv h=>by
  rcases Q0 hu with⟨i,t,rfl,rfl⟩|⟨x,t,rfl,rfl⟩
  ·rcases Q0 hv with⟨j,u,rfl,rfl⟩|⟨y,u,rfl,rfl⟩
   ·rw[Qnj]at h;exact wpAny_eqBool_int h
   ·rw[Qnl]at h;exact SeqAt.EqAt.int_str i t y u _ _ _ _ h
  ·rcases Q0 hv with⟨j,u,rfl,rfl⟩|⟨y,u,rfl,rfl⟩
   ·rw[Qnm]at h;exact SeqAt.EqAt.str_int x t j u _ _ _ _ h
   ·rw[Qnk]at h;exact wpAny_eqBool_str h
 «strs»:=λk x t v h=>by
  rcases Q0 h with⟨i,u,rfl,e⟩|⟨y,u,rfl,e⟩
  ·exact nomatch e
  ·injection e with e1 _;subst e1;cases v<;>rfl
theorem QeW(prog:Program)(w:World)(i:Int)(t:Tok):(Jk prog w).is (.inl i) (.int i t)=true:=Qhq i t
theorem QeX(prog:Program)(w:World)(x:Str)(t:Tok):(Jk prog w).is (.inr x) (.str x t)=true:=Qhr x t
inductive V where
 |non|bl (b:Bool)|int (i:Int)|str (x:Str)|byt (b:Array UInt8)|flt (b:UInt64)|ref (a:Addr)|ty (n:String)
 deriving DecidableEq
def RelV:V->Value->Prop
 |.non,u=>u=Value.none|.bl b,u=>u=Value.bool b|.int i,u=>∃t,u=Value.int i t|.str x,u=>∃t,u=Value.str x t|.byt b,u=>∃t,u=Value.bytes b t|.flt b,u=>∃t,u=Value.float b t|.ref a,u=>u=Value.ref a|.ty n,u=>u=Value.type n
abbrev Vals:List V->List Value->Prop:=Paired RelV
theorem Vals.length(r:Vals xs us):xs.length=us.length:=Paired.length r
theorem Vals.get:∀{xs:List V}{us:List Value}{i:Nat}{x:V},Vals xs us->xs[i]?=some x->∃u,us[i]?=some u/\RelV x u
 |_,_,_,_,.nil,e=>by simp at e
 |_,_,0,_,.cons r _,e=>by simp at e;subst e;exact⟨_,rfl,r⟩
 |_,_,i+1,x,.cons _ t,e=>by obtain⟨u,h1,h2⟩:=Vals.get (i:=i) (x:=x) t (by simpa using e);exact⟨u,by simpa using h1,h2⟩
theorem Vals.set(r:RelV x u):∀{xs:List V}{us:List Value}(i:Nat),Vals xs us->Vals (xs.set i x) (us.set i u)
 |_,_,_,.nil=>.nil|_,_,0,.cons _ t=>.cons r t|_,_,i+1,.cons q t=>.cons q (Vals.set r i t)
theorem Vals.append:∀{xs ys:List V}{us ws:List Value},Vals xs us->Vals ys ws->Vals (xs++ys) (us++ws)
 |_,_,_,_,.nil,s=>s|_,_,_,_,.cons r t,s=>.cons r (Vals.append t s)
theorem Vals.take:∀{xs:List V}{us:List Value}(n:Nat),Vals xs us->Vals (xs.take n) (us.take n)
 |_,_,0,_=>.nil|_,_,_+1,.nil=>.nil|_,_,n+1,.cons r t=>.cons r (Vals.take n t)
theorem Vals.drop:∀{xs:List V}{us:List Value}(n:Nat),Vals xs us->Vals (xs.drop n) (us.drop n)
 |_,_,0,r=>r|_,_,_+1,.nil=>.nil|_,_,n+1,.cons _ t=>Vals.drop n t
theorem Vals.none_of:∀{xs:List V}{us:List Value}{i:Nat},Vals xs us->xs[i]?=none->us[i]?=none:=λ{xs us i} r e=>by have h1:=r.length;have h2:xs.length<=i:=Tc.mp e;exact Tc.mpr (by omega)
def RelO:Option V->Option Value->Prop
 |some v,some u=>RelV v u|none,none=>True|_,_=>False
def KV:List (κ×V)->List (κ×Value)->Prop:=Paired λ(p:κ×V)(q:κ×Value)=>p.1=q.1/\RelV p.2 q.2
def kV:Key->V
 |.inl i=>.int i|.inr x=>.str x
inductive HO where
 /-- a list -/
 |lst (xs:List V)
 /-- a tuple (never changes) -/
 |tup (xs:List V)
 /-- a dict whose keys are ints and texts;one whose keys are tuples of ints and texts (the empty one is both) -/
 |dK (kvs:List (Key×V))|dT (kvs:List (List Key×V))
 /-- a set of ints: its members,its size -/
 |set (S:Int->Bool) (n:Nat)
 /-- an instance of the class at C,its dict at dx,its attributes -/
 |ins (C dx:Addr) (fs:List (Str×V))
 /-- the dict of the instance at x -/
 |own (x:Addr)
 /-- the dict of an exception -/
 |xd (fs:List (Str×V))
 /-- a bound method,f of x -/
 |met (f x:Addr)
 /-- a range object lo,lo+1,.. below hi -/
 |rng (lo hi:Int)
 /-- a thing that is known to the object (the script;a dict while a loop walks it): read,never written while it is so -/
 |frz (o:Obj) (u:HO)
 /-- a code object's table -/
 |tbl (ps:Array Value)
 /-- any other thing,by what is true of its one object (a def of one's own: SetO a S n:=HO.ext λh=>..) -/
 |ext (φ:Heap->Prop)
abbrev Hp:=Addr->Option HO
def upd(H:Hp)(a:Addr)(o:HO):Hp:=λb=>if b=a then some o else H b
theorem Qk   : upd H a o a=some o:=by unfold upd;rw[Ue rfl]
theorem Qo(h:b≠a):upd H a o b=H b:=by unfold upd;rw[Uf h]
theorem QcZ{H:Hp}{a b:Addr}{o u:HO}(h:H a=some o)(h':H b=some u)(d:o≠u):a≠b:=by intro e;subst e;rw[h]at h';exact d (Option.some.inj h')
theorem Qy{H:Hp}{a b:Addr}{o:HO}(h:H a=some o)(h':H b=none):a≠b:=by intro e;subst e;rw[h]at h';cases h'
section
variable(P:Program)(w:World)
def ObjOk(H:Hp)(h:Heap)(a:Addr):HO->Prop
 |.lst xs=>xs.length<=sizeLine/\∃(its:List Value)(n:Nat),Vals xs its/\h.get? a=some {cls:=.type "list",data:=.seq its.toArray n}|.tup xs=>xs.length<=sizeLine/\∃its:List Value,Vals xs its/\IsTup h a its.toArray|.dK kvs=>kvs.length<=sizeLine/\(a==sysModules)=false/\∃vs,KV kvs vs/\h.DictOf (Jk P w) a vs|.dT kvs=>kvs.length<=sizeLine/\(a==sysModules)=false/\∃xs:List (List Key×Addr×Value),Paired (λ(p:List Key×V)(q:List Key×Addr×Value)=>p.1=q.1/\H q.2.1=some (.tup (p.1.map kV))/\RelV p.2 q.2.2) kvs xs/\∃o es ep,h.get? a=some o/\o.ExactDict/\o.data=.dict es ep/\es.toList=xs.map (entryOfKey (tupleKind (Jk P w)))/\(xs.map (·.1)).Nodup
 |.set S n=>h.SetOf (intKind P w) a S n|.ins C dx fs=>H dx=some (.own a)/\fs.length<=1000/\dx≠a/\h.get? a=some (instObj C dx)/\∃mA,h.Ns1 dx mA/\(∀f,RelO (fs.lookup f) (mA f))/\PySem.Within mA (fs.map (·.1))
 |.own _=>∃o,h.get? a=some o|.xd fs=>∃mA,h.Ns1 a mA/\∀f,RelO (fs.lookup f) (mA f)|.rng lo hi=>∃t u v,h.get? a=some {cls:=.type "range",data:=.fields #[.int lo t,.int hi u,.int 1 v]}|.frz o u=>h.get? a=some o/\ObjOk H h a u|.tbl ps=>h.get? a=some {cls:=.none,data:=.fields ps}|.met f x=>h.get? a=some (methodObj (.ref f) (.ref x))|.ext φ=>φ h/\(∃o,h.get? a=some o)/\∀h1 h2:Heap,φ h1->(∀o,h1.get? a=some o->h2.get? a=some o)->φ h2
def HOk(H:Hp)(h:Heap):Prop:=∀a o,H a=some o->ObjOk P w H h a o
end
section
variable{P:Program}{w:World}{H H':Hp}{h h':Heap}{a:Addr}{o:HO}
theorem ObjOk.lt(x:ObjOk P w H h a o):a<h.objs.size:=by
 cases o with
 |lst xs=>obtain⟨_,_,_,_,e⟩:=x;exact Uw e|tup xs=>obtain⟨_,_,_,p⟩:=x;exact p.lt|dK kvs=>obtain⟨_,_,_,_,o,_,_,e,_⟩:=x;exact Uw e|dT kvs=>obtain⟨_,_,_,_,o,_,_,e,_⟩:=x;exact Uw e|set S n=>obtain⟨o,_,_,_,e,_⟩:=x;exact Uw e|ins C dx fs=>obtain⟨_,_,_,e,_⟩:=x;exact Uw e|own y=>obtain⟨_,e⟩:=x;exact Uw e|xd fs=>obtain⟨_,⟨_,_,_,e,_⟩,_⟩:=x;exact Uw e|rng lo hi=>obtain⟨_,_,_,e⟩:=x;exact Uw e|frz ob u=>obtain⟨e,_⟩:=x;exact Uw e|tbl ps=>exact Uw (show h.get? a=some _ from x)|met f y=>exact Uw (show h.get? a=some _ from x)|ext φ=>obtain⟨_,⟨_,e⟩,_⟩:=x;exact Uw e
theorem Paired.mapP  : ∀{l₁:List α}{l₂:List β},Paired F l₁ l₂->(∀a b,F a b->G a b)->Paired G l₁ l₂
 |_,_,.nil,_=>.nil|_,_,.cons r t,f=>.cons (f _ _ r) (Paired.mapP t f)
theorem Paired.imp'(f:∀a b,F a b->G a b)(r:Paired F l₁ l₂):Paired G l₁ l₂:=Paired.mapP r f
theorem ObjOk.stay(x:ObjOk P w H h a o)(k:∀b u,(b=a\/H b=some (.own a))->h.get? b=some u->h'.get? b=some u)(ho:∀b,H b=some (.own a)->H' b=some (.own a))(ht:∀b xs,H b=some (.tup xs)->H' b=some (.tup xs)):ObjOk P w H' h' a o:=by
 induction o with
 |lst xs=>obtain⟨z,its,n,r,e⟩:=x;exact⟨z,its,n,r,k _ _ (.inl rfl) e⟩|tup xs=>obtain⟨z,its,r,ob,e,c⟩:=x;exact⟨z,its,r,ob,k _ _ (.inl rfl) e,c⟩|dK kvs=>obtain⟨z,y,vs,r,ob,es,ep,e,c⟩:=x;exact⟨z,y,vs,r,ob,es,ep,k _ _ (.inl rfl) e,c⟩|dT kvs =>obtain⟨z,y,xs,r,ob,es,ep,e,c⟩:=x;exact⟨z,y,xs,Paired.mapP r λp q z=>⟨z.1,ht _ _ z.2.1,z.2.2⟩,ob,es,ep,k _ _ (.inl rfl) e,c⟩|set S n=>obtain⟨ob,es,ep,t,e,c⟩:=x;exact⟨ob,es,ep,t,k _ _ (.inl rfl) e,c⟩|ins C dx fs =>obtain⟨d,z,ne,e,mA,⟨od,es,ep,e2,c⟩,r⟩:=x;exact⟨ho _ d,z,ne,k _ _ (.inl rfl) e,mA,⟨od,es,ep,k _ _ (.inr d) e2,c⟩,r⟩|own y=>obtain⟨ob,e⟩:=x;exact⟨ob,k _ _ (.inl rfl) e⟩|xd fs=>obtain⟨mA,⟨od,es,ep,e,c⟩,r⟩:=x;exact⟨mA,⟨od,es,ep,k _ _ (.inl rfl) e,c⟩,r⟩|rng lo hi=>obtain⟨t,u,v,e⟩:=x;exact⟨t,u,v,k _ _ (.inl rfl) e⟩|frz ob u ih=>obtain⟨e,q⟩:=x;exact⟨k _ _ (.inl rfl) e,ih q⟩|tbl ps =>have e:h.get? a=some {cls:=.none,data:=.fields ps}:=x;show h'.get? a=some {cls:=.none,data:=.fields ps};exact k a _ (.inl rfl) e|met f y =>have e:h.get? a=some (methodObj (.ref f) (.ref y)):=x;show h'.get? a=some (methodObj (.ref f) (.ref y));exact k a _ (.inl rfl) e|ext φ=>obtain⟨p,⟨o,e⟩,st⟩:=x;exact⟨st _ _ p λo q=>k _ _ (.inl rfl) q,⟨o,k _ _ (.inl rfl) e⟩,st⟩
theorem HOk.lt(x:HOk P w H h)(e:H a=some o):a<h.objs.size:=(x a o e).lt
theorem HOk.fresh(x:HOk P w H h)(e:h.objs.size<=a):H a=none:=by
 cases q:H a with
 |none=>rfl|some u=>exact absurd (UB (x.lt q) e) (Rb _)
theorem HOk.kept(x:HOk P w H h)(k:∀b u,h.get? b=some u->h'.get? b=some u):HOk P w H h':=λa o e=>
 (x a o e).stay (λb u _ q=>k b u q) (λ_ q=>q) λ_ _ q=>q
theorem HOk.laid(x:HOk P w H h)(k:∀b u,h.get? b=some u->h'.get? b=some u)(hp:h.objs.size<=a)(new:ObjOk P w (upd H a o) h' a o):HOk P w (upd H a o) h':=λb u e=>by
 have hn:=x.fresh hp;by_cases hb:b=a
 ·subst hb;rw[Qk]at e;cases e;exact new
 ·rw[Qo hb]at e;exact(x b u e).stay (λc v _ q=>k c v q) (λc q=>by rw[Qo (Qy q hn)];exact q) λc xs q=>by rw[Qo (Qy q hn)];exact q
end
def Rd(H:Hp)(a:Addr)(u:HO):Prop:=H a=some u\/∃o,H a=some (.frz o u)
theorem Rd.of(h:H a=some u):Rd H a u:=.inl h
theorem Rd.ok(r:Rd H a u)(x:HOk P w H h):ObjOk P w H h a u:=by
 rcases r with r|⟨o,r⟩
 ·exact x a u r
 ·obtain⟨_,q⟩:=x a _ r;exact q
def Mut:Option HO->Prop
 |some (.lst _)=>True|some (.dK _)=>True|some (.dT _)=>True|some (.set _ _)=>True|some (.ins _ _ _)=>True|some (.ext _)=>True|_=>False
theorem HOk.write(ok:HOk P w H h)(mu:Mut (H x))(he:e=x\/H e=some (.own x))(k:∀b u,b≠e->h.get? b=some u->h'.get? b=some u)(heo:∃u,h'.get? e=some u)(new:ObjOk P w (upd H x o') h' x o'):HOk P w (upd H x o') h':=λb u q=>by
 have nown:∀c y,H c=some (.own y)->c≠x:=λc y r z=>by subst z;rw[r]at mu;exact mu
 have ntup:∀c xs,H c=some (.tup xs)->c≠x:=λc xs r z=>by subst z;rw[r]at mu;exact mu
 by_cases hb:b=x
 ·subst hb;rw[Qk]at q;cases q;exact new
 ·rw[Qo hb]at q;by_cases hbe:b=e
  ·have q':H b=some (.own x):=by
    rcases he with z|z
    ·exact absurd (hbe.trans z) hb
    ·rw[hbe];exact z
   rw[q]at q';cases q';obtain⟨v,hv⟩:=heo;exact⟨v,by rw[hbe];exact hv⟩
  ·refine(ok b u q).stay (λc v hc r=>k c v ?_ r) (λc r=>by rw[Qo (nown c b r)];exact r) λc xs r=>by rw[Qo (ntup c xs r)];exact r
   rcases hc with rfl|hc
   ·exact hbe
   ·rintro rfl;rcases he with z|z
    ·exact nown c b hc z
    ·rw[hc]at z;cases z;exact hb rfl
structure Un(fs ex:List Addr)(H H':Hp)(h h':Heap):Prop where
 keep:∀b o,h.get? b=some o->H b=none->b∉fs->b∉ex->h'.get? b=some o
 slot:∀b o,h.get? b=some o->H b=none->b∈fs->b∉ex->∃sl,h'.get? b=some {o with slots:=sl}
 free:∀b o,h.get? b=some o->H b=none->b∉ex->H' b=none
 there:∀b o,h.get? b=some o->b∉ex->∃o',h'.get? b=some o'
 tups:∀b xs,H b=some (.tup xs)->H' b=some (.tup xs)
 frzs:∀b o u,H b=some (.frz o u)->H' b=some (.frz o u)
 tbls:∀b ps,H b=some (.tbl ps)->∃more,H' b=some (.tbl (ps++more))
section
variable{fs fs' ex ex':List Addr}{H H1 H2:Hp}{h h1 h2 h':Heap}{a x e:Addr}{o:HO}
theorem Un.any(u:Un fs ex H H1 h h1)(q:h.get? b=some ob)(n:H b=none)(hx:b∉ex):∃sl,h1.get? b=some {ob with slots:=sl}:=by
 by_cases hb:b∈fs
 ·exact u.slot b ob q n hb hx
 ·exact⟨ob.slots,u.keep b ob q n hb hx⟩
theorem Un.trans(a:Un fs ex H H1 h h1)(b:Un fs ex H1 H2 h1 h2):Un fs ex H H2 h h2 where
 keep:=λc ob q n hc hx=>b.keep c ob (a.keep c ob q n hc hx) (a.free c ob q n hx) hc hx
 slot:=λc ob q n hc hx=>by obtain⟨sl,e1⟩:=a.slot c ob q n hc hx;obtain⟨sl',e2⟩:=b.slot c _ e1 (a.free c ob q n hx) hc hx;exact⟨sl',e2⟩
 free:=λc ob q n hx=>by obtain⟨o',e1⟩:=a.there c ob q hx;exact b.free c o' e1 (a.free c ob q n hx) hx
 there:=λc ob q hx=>by obtain⟨o',e1⟩:=a.there c ob q hx;exact b.there c o' e1 hx
 tups:=λc xs q=>b.tups c xs (a.tups c xs q)
 frzs:=λc ob xs q=>b.frzs c ob xs (a.frzs c ob xs q)
 tbls:=λc ps q=>by obtain⟨m1,e1⟩:=a.tbls c ps q;obtain⟨m2,e2⟩:=b.tbls c _ e1;exact⟨m1++m2,by rw[e2,Wv]⟩
theorem Un.kept(k:∀b u,h.get? b=some u->h'.get? b=some u):Un fs ex H H h h':=⟨λb ob q _ _ _=>k b ob q,λb ob q _ _ _=>⟨ob.slots,k b ob q⟩,λ_ _ _ n _=>n,λb ob q _=>⟨ob,k b ob q⟩,λ_ _ q=>q,λ_ _ _ q=>q,λ_ ps q=>⟨#[],by rw[q];simp⟩⟩
theorem Un.refl:Un fs ex H H h h:=Un.kept λ_ _ q=>q
theorem Un.laid(k:∀b u,h.get? b=some u->h'.get? b=some u)(hp:h.objs.size<=a)(hn:H a=none):Un fs ex H (upd H a o) h h' where
 keep:=λb u q _ _ _=>k b u q
 slot:=λb u q _ _ _=>⟨u.slots,k b u q⟩
 free:=λb u q n _=>by rw[Qo (UR (UB (Uw q) hp))];exact n
 there:=λb u q _=>⟨u,k b u q⟩
 tups:=λb xs q=>by rw[Qo (Qy q hn)];exact q
 frzs:=λb u xs q=>by rw[Qo (Qy q hn)];exact q
 tbls:=λb ps q=>⟨#[],by rw[Qo (Qy q hn),q];simp⟩
theorem Un.write(mu:Mut (H x))(he:e=x\/H e=some (.own x))(k:∀b u,b≠e->h.get? b=some u->h'.get? b=some u)(heo:∃u,h'.get? e=some u):Un fs ex H (upd H x o) h h':=by
 have hx:∀b,H b=none->b≠x:=λb n z=>by subst z;rw[n]at mu;exact mu
 have hb:∀b,H b=none->b≠e:=λb n z=>by
  subst z;rcases he with r|r
  ·exact hx b n r
  ·rw[n]at r;cases r
 have hm:∀b u,H b=some u->¬Mut (some u)->b≠x:=λb u q nm z=>by subst z;rw[q]at mu;exact nm mu
 refine⟨λb u q n _ _=>k b u (hb b n) q,λb u q n _ _=>⟨u.slots,k b u (hb b n) q⟩,λb u q n _=>by rw[Qo (hx b n)];exact n,λb u q _=>?_,λb xs q=>by rw[Qo (hm b _ q λz=>z)];exact q,λb u xs q=>by rw[Qo (hm b _ q λz=>z)];exact q,λb ps q=>⟨#[],by rw[Qo (hm b _ q λz=>z),q];simp⟩⟩
 by_cases hbe:b=e
 ·subst hbe;exact heo
 ·exact⟨u,k b u hbe q⟩
theorem Un.mono(u:Un fs ex H H1 h h1)(hs:∀b∈fs,b∈fs')(hx:∀b∈ex,b∈ex'):Un fs' ex' H H1 h h1:=⟨λb ob q n hb he=>u.keep b ob q n (λz=>hb (hs b z)) λz=>he (hx b z),λ_ _ q n _ he=>u.any q n λz=>he (hx _ z),λb ob q n he=>u.free b ob q n λz=>he (hx b z),λb ob q he=>u.there b ob q λz=>he (hx b z),u.tups,u.frzs,u.tbls⟩
end
def trk(h:Heap)(H:Hp):List Addr:=(List.range h.objs.size).filter λa=>(H a).isSome
def hidT(h:Heap)(H:Hp):Heap:=hideAll h (trk h H)
theorem Qhs(h:Heap)(H:Hp):(hidT h H).objs.size=h.objs.size:=hideAll_size _ _
theorem QjP(e:h.get? b=some o)(n:H b=none):(hidT h H).get? b=some o:=
 hideAll_get _ e λhm=>by have q:(H b).isSome=true:=(U3.mp hm).2;rw[n]at q;simp at q
theorem QlS(e:(hidT h H).get? b=some o):h.get? b=some o/\H b=none:=by
 have e':h.get? b=some o:=of_hideAll (trk h H) e;refine⟨e',?_⟩;cases q:H b with
 |none=>rfl|some x =>have hm:b∈trk h H:=U3.mpr ⟨Wi.mpr (Uw e'),by simp[q]⟩;have z:(hidT h H).get? b=none:=hideAll_none (trk h H) hm;rw[z]at e;cases e
def QlT(g h:Heap)(L:Addr):List (Addr×Obj):=(List.range h.objs.size).filterMap λa=>if a=L\/(g.get? a).isSome=true then none else (h.get? a).map λo=>(a,o)
def rest(g h:Heap)(L d:Addr):List (Addr×Obj):=(QlT g h L).filter λp=>decide (p.1≠d)
structure Mod(K:Frag)(mg:SOV)(base:Heap):Prop where
 kin:K.In base
 glob:base.Ns mainGlobals mg
 blt:∃mb,base.Ns builtinsNs mb/\∀x:Str,x ≠"__name__"->mb x=bootBuiltins x
 nolimit:base.NoLimit
/-- the context: a def's body (or a comprehension's block) running. base: fixed through the whole law;s₀,H₀: the entry;outer: the frames whose slots others may change (a def's callers);stack: all frames that run;
   ex: iterators that were made ahead of the entry and are walked here (a comprehension's);fn: the names whose cells were made at the entry (a def: all;a comprehension's block: its own);calm: not within an except suite;pn: pins that every state bears;xe: what is wanted of an exception that leaves the code -/
structure Cx where
 prog:Program
 w:World
 K:Frag
 mg:Str->Option Value
 base:Heap
 A:Around
 N:List Str
 s₀:Shared
 H₀:Hp
 env:Env
 outer:List Env
 stack:List Env
 ex:List Addr
 fn:Str->Bool
 calm:Bool
 pn:List (Addr×Obj)
 xe:Value->Shared->Prop
def frs(l:List Env):List Addr:=l.filterMap (·.frame)
abbrev Cx.fs(X:Cx):List Addr:=frs X.outer
def Vis(sc:Scope)(x:Str):Prop:=sc.names.lookup x=some .local\/sc.names.lookup x=some .cell\/sc.names.lookup x=some .free
def Loc(sc:Scope)(x:Str):Prop:=sc.names.lookup x=some .local\/sc.names.lookup x=some .cell
def Look(env:Env)(h:Heap)(m:SOV)(x:Str)(u:Value):Prop:=(env.kindOf x=some .local/\m x=some u)\/((env.kindOf x=some .cell\/env.kindOf x=some .free)/\∃c,env.cells.lookup x=some c/\h.IsCell c (some u))
structure Cx.Ok(X:Cx):Prop where
 mod:Mod X.K X.mg X.base
 kind:X.env.scope.kind=.function
 glob:X.env.globals=mainGlobals
 blt:X.env.builtins=builtinsNs
 above:X.s₀.heap.objs.size<=X.env.locals
 inj:∀x y c,X.env.cells.lookup x=some c->X.env.cells.lookup y=some c->x=y
 has:∀x,(X.env.kindOf x=some .cell\/X.env.kindOf x=some .free)->∃c,X.env.cells.lookup x=some c
 cab:∀x c,X.fn x=true->X.env.cells.lookup x=some c->X.s₀.heap.objs.size<=c
 hd:X.calm=true->X.A.handled=none
 frames:X.A.frames=some X.stack
 stk:X.stack=X.outer\/(X.stack=X.env::X.outer/\X.env.frame=some X.env.locals)
 exf:∀b∈X.ex,b≠X.env.locals/\∀x c,X.env.cells.lookup x=some c->c≠b
 bs:∀b o,X.base.get? b=some o->X.s₀.heap.get? b=some o/\X.H₀ b=none
 bsz:X.base.objs.size<=X.s₀.heap.objs.size
 noex:∀b o,X.base.get? b=some o->b∉X.ex
 exfs:∀b∈X.ex,b∉X.fs
 funs:X.s₀.heap.FunFrames X.base X.outer
 frf:∀b∈X.fs,X.H₀ b=none
structure Inv(X:Cx)(pins:LAO)(σ:List (Option V))(H:Hp)(s:Shared):Prop where
 ok:X.Ok
 os:s.os=X.s₀.os
 bare:AllBare s.gens
 base:Un X.fs X.ex X.H₀ H X.s₀.heap s.heap
 loc:∃m,s.heap.Ns X.env.locals m/\∀(i:Nat)(x:Str)(v:V),X.N[i]?=some x->σ[i]?=some (some v)->Vis X.env.scope x->∃u,RelV v u/\Look X.env s.heap m x u
 cell:∀x c,X.env.cells.lookup x=some c->∃v,s.heap.IsCell c v
 free:H X.env.locals=none
 freeC:∀x c,X.env.cells.lookup x=some c->H c=none
 pin:∀p∈X.pn++pins,s.heap.get? p.1=some p.2/\H p.1=none/\p.1≠X.env.locals/\p.1∉X.fs/\∀v,p.2.data≠.cell v
 hok:HOk X.prog X.w H s.heap
 len:σ.length=X.N.length
section
variable{X:Cx}{pins:LAO}{σ:List (Option V)}{H H':Hp}{s:Shared}{h':Heap}
theorem Cx.Ok.nofr(ok:X.Ok){b:Addr}{o:Obj}(e:X.base.get? b=some o):b∉X.fs:=λhb=>by have:=(ok.funs.mem hb).1;rw[e]at this;cases this
theorem Inv.bs(I:Inv X pins σ H s):∀b o,X.base.get? b=some o->s.heap.get? b=some o/\H b=none:=λb o e=>
 ⟨I.base.keep b o (I.ok.bs b o e).1 (I.ok.bs b o e).2 (I.ok.nofr e) (I.ok.noex b o e),I.base.free b o (I.ok.bs b o e).1 (I.ok.bs b o e).2 (I.ok.noex b o e)⟩
theorem Inv.bk(I:Inv X pins σ H s):∀b o,X.base.get? b=some o->s.heap.get? b=some o:=λb o e=>(I.bs b o e).1
theorem Inv.mod(I:Inv X pins σ H s):Mod X.K X.mg X.base:=I.ok.mod
theorem Inv.kIn(I:Inv X pins σ H s):X.K.In s.heap:=I.ok.mod.kin.keeps I.bk
theorem Inv.nolimit(I:Inv X pins σ H s):s.heap.NoLimit:=I.ok.mod.nolimit.keeps I.bk
theorem Inv.fr(I:Inv X pins σ H s):∃m,Fr X.base X.env.locals s.heap m:=
 let ⟨m,hn,_⟩:=I.loc
 ⟨m,hn,I.bk,Uk I.ok.bsz I.ok.above⟩
theorem Inv.lt(I:Inv X pins σ H s):X.env.locals<s.heap.objs.size:=let ⟨_,hn,_⟩:=I.loc;hn.lt
theorem Inv.sz(I:Inv X pins σ H s):X.s₀.heap.objs.size<=s.heap.objs.size:=Uk I.ok.above (Rf I.lt)
theorem Inv.nofs(I:Inv X pins σ H s)(h:s.heap.objs.size<=a):a∉X.fs:=λhb=>by obtain⟨_,o,ho,_⟩:=I.ok.funs.mem hb;exact absurd (UB (Uw ho) (Uk I.sz h)) (Rb _)
theorem Inv.cne(I:Inv X pins σ H s):∀x c,X.env.cells.lookup x=some c->c≠X.env.locals:=λx c e z=>by obtain⟨v,o,ho,hd⟩:=I.cell x c e;obtain⟨m,⟨o',es,ep,ho',hd',_⟩,_⟩:=I.loc;rw[z,ho']at ho;cases ho;rw[hd']at hd;cases hd
theorem Inv.funs(I:Inv X pins σ H s):s.heap.FunFrames X.base X.outer:=by
 have all:∀(l:List Env),(∀b∈frs l,b∈X.fs)->X.s₀.heap.FunFrames X.base l->s.heap.FunFrames X.base l:=by
  intro l;induction l with
  |nil=>intro _ _;trivial|cons env r ih =>intro hs hl;obtain⟨hk,⟨L,o,hf,hn,ho,hd⟩,hr⟩:=hl;have hL:L∈X.fs:=hs L (by unfold frs;rw[Rn,hf];exact UD);obtain⟨sl,e⟩:=I.base.slot L o ho (I.ok.frf L hL) hL λz=>I.ok.exfs L z hL;exact⟨hk,⟨L,_,hf,hn,e,hd⟩,ih (λb hb=>hs b (by unfold frs;rw[Rn,hf];exact Uz _ hb)) hr⟩
 exact all X.outer (λ_ hb=>hb) I.ok.funs
theorem Inv.stack(I:Inv X pins σ H s):s.heap.FunFrames X.base X.stack:=by
 rcases I.ok.stk with e|⟨e,hf⟩
 ·rw[e];exact I.funs
 ·rw[e];obtain⟨m,hn,_⟩:=I.loc;refine .cons (by rw[I.ok.kind];decide) hf hn ?_ I.funs;exact Heap.get?_none_of_le (Uk I.ok.bsz I.ok.above)
theorem Inv.stkSub(I:Inv X pins σ H s):∀b∈frs X.stack,b∈X.env.locals::X.fs:=λb hb=>by
 rcases I.ok.stk with e|⟨e,hf⟩
 ·rw[e]at hb;exact Uz _ hb
 ·rw[e]at hb;unfold frs at hb;rw[Rn,hf]at hb;exact hb
theorem Inv.stkFree(I:Inv X pins σ H s):∀b∈frs X.stack,H b=none:=λb hb=>by
 rcases UG.mp (I.stkSub b hb) with e|hb
 ·rw[e];exact I.free
 ·obtain⟨_,o,ho,_⟩:=I.ok.funs.mem hb;exact I.base.free b o ho (I.ok.frf b hb) λz=>I.ok.exfs b z hb
theorem Inv.step{g':Array GenState}{t':Nat}{d':Drawn}{ch:List Addr}(I:Inv X pins σ H s)(hch:∀b∈ch,(b∈X.ex\/X.s₀.heap.objs.size<=b)/\b≠X.env.locals/\(∀x c,X.env.cells.lookup x=some c->c≠b)/\∀p∈X.pn++pins,p.1≠b)(keep:∀b o,b≠X.env.locals->b∉X.fs->b∉ch->s.heap.get? b=some o->H b=none->h'.get? b=some o)(slot:∀b o,b≠X.env.locals->b∈X.fs->b∉ch->s.heap.get? b=some o->H b=none->∃sl,h'.get? b=some {o with slots:=sl})(free:∀b o,b∉ch->s.heap.get? b=some o->H b=none->H' b=none)(there:∀b o,b∉ch->s.heap.get? b=some o->∃o',h'.get? b=some o')(tups:∀b xs,H b=some (.tup xs)->H' b=some (.tup xs))(frzs:∀b o u,H b=some (.frz o u)->H' b=some (.frz o u))(tbls:∀b ps,H b=some (.tbl ps)->∃more,H' b=some (.tbl (ps++more)))(ns:∀m,s.heap.Ns X.env.locals m->h'.Ns X.env.locals m)(hok:HOk X.prog X.w H' h')(hg:AllBare g'):
  Inv X pins σ H' {s with heap:=h',gens:=g',drawn:=d',toks:=t'}:=by
 have neL:∀b o,X.s₀.heap.get? b=some o->b≠X.env.locals:=λb o e=>UR (UB (Uw e) I.ok.above);have neC:∀b o,X.s₀.heap.get? b=some o->b∉X.ex->b∉ch:=λb o e hx hb=>by
  rcases(hch b hb).1 with z|z
  ·exact hx z
  ·exact absurd (UB (Uw e) z) (Rb _)
 have cellK:∀x c,X.env.cells.lookup x=some c->∀v,s.heap.IsCell c v->h'.IsCell c v:=λx c e v ⟨o,ho,hd⟩=>by
  have nch:c∉ch:=λz=>(hch c z).2.2.1 x c e rfl;by_cases hc:c∈X.fs
  ·obtain⟨sl,q⟩:=slot c o (I.cne x c e) hc nch ho (I.freeC x c e);exact⟨_,q,hd⟩
  ·exact⟨o,keep c o (I.cne x c e) hc nch ho (I.freeC x c e),hd⟩
 refine⟨I.ok,I.os,hg,⟨λb o e n hb hx=>?_,λb o e n hb hx=>?_,λb o e n hx=>?_,λb o e hx=>?_,λb xs e=>tups b xs (I.base.tups b xs e),λb o xs e=>frzs b o xs (I.base.frzs b o xs e),λb ps e=>?_⟩,?_,λx c e=>?_,?_,λx c e=>?_,λp hp=>?_,hok,I.len⟩
 ·exact keep b o (neL b o e) hb (neC b o e hx) (I.base.keep b o e n hb hx) (I.base.free b o e n hx)
 ·obtain⟨sl,e1⟩:=I.base.slot b o e n hb hx;obtain⟨sl',e2⟩:=slot b _ (neL b o e) hb (neC b o e hx) e1 (I.base.free b o e n hx);exact⟨sl',e2⟩
 ·obtain⟨o',e1⟩:=I.base.there b o e hx;exact free b o' (neC b o e hx) e1 (I.base.free b o e n hx)
 ·obtain⟨o',e1⟩:=I.base.there b o e hx;exact there b o' (neC b o e hx) e1
 ·obtain⟨m1,e1⟩:=I.base.tbls b ps e;obtain⟨m2,e2⟩:=tbls b _ e1;exact⟨m1++m2,by rw[e2,Wv]⟩
 ·obtain⟨m,hn,hl⟩:=I.loc;refine⟨m,ns m hn,λi x v e1 e2 e3=>?_⟩;obtain⟨u,r,l⟩:=hl i x v e1 e2 e3;refine⟨u,r,?_⟩;rcases l with l|⟨k,c,e,z⟩
  ·exact .inl l
  ·exact .inr ⟨k,c,e,cellK x c e _ z⟩
 ·obtain⟨v,z⟩:=I.cell x c e;exact⟨v,cellK x c e v z⟩
 ·obtain⟨m,⟨o,_,_,ho,_⟩,_⟩:=I.loc;exact free _ o (λz=>(hch _ z).2.1 rfl) ho I.free
 ·obtain⟨v,o,ho,hd⟩:=I.cell x c e;exact free c o (λz=>(hch c z).2.2.1 x c e rfl) ho (I.freeC x c e)
 ·obtain⟨e,n,ne,nf,d⟩:=I.pin p hp;have nch:p.1∉ch:=λz=>(hch p.1 z).2.2.2 p hp rfl;exact⟨keep p.1 p.2 ne nf nch e n,free p.1 p.2 nch e n,ne,nf,d⟩
theorem Inv.un(I:Inv X pins σ H s)(u:Un X.fs [] H H' s.heap h')(hok:HOk X.prog X.w H' h'):Inv X pins σ H' {s with heap:=h',toks:=t'}:=by obtain⟨m,⟨o,es,ep,ho,r⟩,_⟩:=id I.loc;obtain⟨sl,hL⟩:=u.any ho I.free (by simp);exact I.step (g':=s.gens) (d':=s.drawn) (ch:=[]) (λ_ z=>nomatch z) (λb o _ hb _ e n=>u.keep b o e n hb (by simp)) (λb o _ hb _ e n=>u.slot b o e n hb (by simp)) (λb o _ e n=>u.free b o e n (by simp)) (λb o _ e=>u.there b o e (by simp)) u.tups u.frzs u.tbls (λm' hm=>by obtain⟨o',es',ep',ho',r'⟩:=hm;rw[ho]at ho';cases ho';exact⟨_,es',ep',hL,r'⟩) hok I.bare
theorem Inv.call{g':Array GenState}{t':Nat}{d':Drawn}{ch:List Addr}(I:Inv X pins σ H s)(u:Un (frs X.stack) ch H H' s.heap h')(hok:HOk X.prog X.w H' h')(hg:AllBare g')(hch:∀b∈ch,(b∈X.ex\/X.s₀.heap.objs.size<=b)/\b≠X.env.locals/\(∀x c,X.env.cells.lookup x=some c->c≠b)/\∀p∈X.pn++pins,p.1≠b):
  Inv X pins σ H' {s with heap:=h',gens:=g',drawn:=d',toks:=t'}:=by
 obtain⟨m,⟨o,es,ep,ho,r⟩,_⟩:=id I.loc;obtain⟨sl,hL⟩:=u.any ho I.free λz=>(hch _ z).2.1 rfl;exact I.step (ch:=ch) hch (λb o hL hb hc e n=>u.keep b o e n (λz=>(UG.mp (I.stkSub b z)).elim hL hb) hc) (λb o _ _ hc e n=>u.any e n hc) (λb o hc e n=>u.free b o e n hc) (λb o hc e=>u.there b o e hc) u.tups u.frzs u.tbls (λm' hm=>by obtain⟨o',es',ep',ho',r'⟩:=hm;rw[ho]at ho';cases ho';exact⟨_,es',ep',hL,r'⟩) hok hg
theorem Inv.turned{t':Nat}{it:Addr}(I:Inv X pins σ H s)(k:∀b o,b≠it->s.heap.get? b=some o->h'.get? b=some o)(hn:H it=none)(hL:it≠X.env.locals)(h1:it∈X.ex\/X.s₀.heap.objs.size<=it)(h2:∀x c,X.env.cells.lookup x=some c->c≠it)(h3:∀p∈X.pn++pins,p.1≠it):Inv X pins σ H {s with heap:=h',toks:=t'}:=by
 have nit:∀b u,H b=some u->b≠it:=λb u e z=>by rw[z,hn]at e;cases e
 refine I.step (g':=s.gens) (d':=s.drawn) (ch:=[it]) (λb hb=>?_) (λb o _ _ hc e _=>k b o (λz=>hc (by simp[z])) e) (λb o _ _ hc e _=>⟨o.slots,k b o (λz=>hc (by simp[z])) e⟩) (λ_ _ _ _ n=>n)
  (λb o hc e=>⟨o,k b o (λz=>hc (by simp[z])) e⟩) (λ_ _ e=>e) (λ_ _ _ e=>e) (λb ps e=>⟨#[],by rw[e];simp⟩) (λm hm=>?_) (λb u e=>?_) I.bare
 ·have e:b=it:=by simpa using hb
  subst e;exact⟨h1,hL,h2,h3⟩
 ·obtain⟨o,es,ep,ho,r⟩:=hm;exact⟨o,es,ep,k _ o (Ne.symm hL) ho,r⟩
 ·refine(I.hok b u e).stay (λc v hc q=>k c v ?_ q) (λ_ q=>q) λ_ _ q=>q;rcases hc with z|z
  ·rw[z];exact nit b u e
  ·exact nit c _ z
theorem Inv.tok(I:Inv X pins σ H s)(t:Nat):Inv X pins σ H {s with toks:=t}:=I.un (h':=s.heap) (t':=t) Un.refl I.hok
theorem Inv.kept(I:Inv X pins σ H s)(k:∀b u,s.heap.get? b=some u->h'.get? b=some u):Inv X pins σ H {s with heap:=h',toks:=t'}:=I.un (Un.kept k) (I.hok.kept k)
theorem Inv.laid(I:Inv X pins σ H s)(k:∀b u,s.heap.get? b=some u->h'.get? b=some u)(hp:s.heap.objs.size<=a)(new:ObjOk X.prog X.w (upd H a o) h' a o):
  Inv X pins σ (upd H a o) {s with heap:=h',toks:=t'}:=I.un (Un.laid k hp (I.hok.fresh hp)) (I.hok.laid k hp new)
theorem Inv.write{x e:Addr}{o:HO}{t':Nat}(I:Inv X pins σ H s)(mu:Mut (H x))(he:e=x\/H e=some (.own x))(k:∀b u,b≠e->s.heap.get? b=some u->h'.get? b=some u)(heo:∃u,h'.get? e=some u)(new:ObjOk X.prog X.w (upd H x o) h' x o):Inv X pins σ (upd H x o) {s with heap:=h',toks:=t'}:=I.un (Un.write mu he k heo) (I.hok.write mu he k heo new)
theorem Inv.pins_of(I:Inv X pins σ H s)(h:∀p∈pins',s.heap.get? p.1=some p.2/\H p.1=none/\p.1≠X.env.locals/\p.1∉X.fs/\∀v,p.2.data≠.cell v):Inv X pins' σ H s:=⟨I.ok,I.os,I.bare,I.base,I.loc,I.cell,I.free,I.freeC,λp hp=>(Uu.mp hp).elim (λz=>I.pin p (RH _ z)) (h p),I.hok,I.len⟩
theorem Qc0{N:List Str}(hN:N.Nodup){i j:Nat}{x:Str}(a:N[i]?=some x)(b:N[j]?=some x):i=j:=by obtain⟨h1,e1⟩:=Um.mp a;obtain⟨h2,e2⟩:=Um.mp b;exact(BJ hN).mp (e1.trans e2.symm)
theorem Qht{M:Model}{A:Around}{E:VP}{i:Nat}{x:Str}{v:V}{u:Value}{Q:Unit->Shared->Prop}(I:Inv X pins σ H s)(hN:X.N.Nodup)(hi:X.N[i]?=some x)(hx:Loc X.env.scope x)(r:RelV v u)(h:∀s',Inv X pins (σ.set i (some v)) H s'->(∃a,Heap.SameBut a s.heap s'.heap/\(a=X.env.locals\/X.env.cells.lookup x=some a))->Q () s')(hf:X.fn x=true\/X.env.scope.names.lookup x=some .local:=by first|exact .inl rfl|exact .inr rfl|assumption):wpAny M A (storeName X.env x u) Q E s:=by
 obtain⟨m,hn,hl⟩:=id I.loc;have hcls:(X.env.scope.kind==.class||(X.env.scope.kind==.module&&X.env.locals != X.env.globals))=false:=by rw[I.ok.kind];rfl
 have hiσ:i<σ.length:=by rw[I.len];exact(Um.mp hi).1
 have cne:=I.cne;have tracked:∀{a:Addr}{h':Heap},(∃o,s.heap.get? a=some o/\H a=none)->Heap.SameBut a s.heap h'->HOk X.prog X.w H h':=λ{a h'} ha hs b ob e=>by
  obtain⟨_,_,hfree⟩:=ha;refine(I.hok b ob e).stay (λc w' hc q=>(hs.2 c ?_).trans q) (λ_ q=>q) λ_ _ q=>q;rintro rfl;rcases hc with rfl|hc
  ·rw[hfree]at e;cases e
  ·rw[hfree]at hc;cases hc
 rcases hx with hk|hk
 ·refine wpAny_storeName_local hk hn (λh' hn' hs=>?_) hcls;obtain⟨oL,_,_,hoL,_⟩:=id hn;refine h _ ⟨I.ok,I.os,I.bare,⟨λb o e n hb hx=>?_,λb o e n hb hx=>?_,I.base.free,λb o e hx=>?_,I.base.tups,I.base.frzs,I.base.tbls⟩,⟨_,hn',λj y v' e1 e2 e3=>?_⟩,λy c e=>?_,I.free,I.freeC,λp hp=>?_,tracked ⟨oL,hoL,I.free⟩ hs,by simpa using I.len⟩ ⟨_,hs,.inl rfl⟩
  ·exact(hs.2 b (UR (UB (Uw e) I.ok.above))).trans (I.base.keep b o e n hb hx)
  ·obtain⟨sl,e1⟩:=I.base.slot b o e n hb hx;exact⟨sl,(hs.2 b (UR (UB (Uw e) I.ok.above))).trans e1⟩
  ·obtain⟨o',e1⟩:=I.base.there b o e hx;exact⟨o',(hs.2 b (UR (UB (Uw e) I.ok.above))).trans e1⟩
  ·by_cases hj:j=i
   ·subst hj;rw[hi]at e1;cases e1;rw[UP hiσ]at e2;cases e2;exact⟨u,r,.inl ⟨hk,by simp⟩⟩
   ·rw[Uh (Ne.symm hj)]at e2;obtain⟨u',r',q⟩:=hl j y v' e1 e2 e3;refine⟨u',r',?_⟩;rcases q with⟨k,e⟩|⟨k,c,e,z⟩
    ·refine .inl ⟨k,?_⟩;have:y≠x:=λe=>hj (Qc0 hN e1 (e ▸ hi));simp[this,e]
    ·exact .inr ⟨k,c,e,z.sameBut hs (cne y c e)⟩
  ·obtain⟨w',z⟩:=I.cell y c e;exact⟨w',z.sameBut hs (cne y c e)⟩
  ·obtain⟨e,n,ne,nf,d⟩:=I.pin p hp;exact⟨(hs.2 p.1 ne).trans e,n,ne,nf,d⟩
 ·have hfn:X.fn x=true:=by
   rcases hf with z|z
   ·exact z
   ·rw[z]at hk;cases hk
  obtain⟨c,hc⟩:=I.ok.has x (.inl hk);obtain⟨w',z⟩:=I.cell x c hc;refine wpAny_storeName_cell I.ok.kind hk hc z (λh' hc' hs=>?_);obtain⟨oc,hoc,hocd⟩:=id z;refine h {s with heap:=h'} ⟨I.ok,I.os,I.bare,⟨λb o e n hb hx=>?_,λb o e n hb hx=>?_,I.base.free,λb o e hx=>?_,I.base.tups,I.base.frzs,I.base.tbls⟩,⟨m,hn.sameBut hs (Ne.symm (cne x c hc)),λj y v' e1 e2 e3=>?_⟩,λy c' e=>?_,I.free,I.freeC,λp hp=>?_,tracked ⟨oc,hoc,I.freeC x c hc⟩ hs,by simpa using I.len⟩ ⟨c,hs,.inr hc⟩
  ·exact(hs.2 b (UR (UB (Uw e) (I.ok.cab x c hfn hc)))).trans (I.base.keep b o e n hb hx)
  ·obtain⟨sl,e1⟩:=I.base.slot b o e n hb hx;exact⟨sl,(hs.2 b (UR (UB (Uw e) (I.ok.cab x c hfn hc)))).trans e1⟩
  ·obtain⟨o',e1⟩:=I.base.there b o e hx;exact⟨o',(hs.2 b (UR (UB (Uw e) (I.ok.cab x c hfn hc)))).trans e1⟩
  ·by_cases hj:j=i
   ·subst hj;rw[hi]at e1;cases e1;rw[UP hiσ]at e2;cases e2;exact⟨u,r,.inr ⟨.inl hk,c,hc,hc'⟩⟩
   ·rw[Uh (Ne.symm hj)]at e2;obtain⟨u',r',q⟩:=hl j y v' e1 e2 e3;refine⟨u',r',?_⟩;rcases q with q|⟨k,c',e,z'⟩
    ·exact .inl q
    ·refine .inr ⟨k,c',e,z'.sameBut hs ?_⟩;rintro rfl;exact hj (Qc0 hN e1 (I.ok.inj _ _ _ e hc ▸ hi))
  ·by_cases hcc:c'=c
   ·subst hcc;exact⟨_,hc'⟩
   ·obtain⟨w2,z2⟩:=I.cell y c' e;exact⟨w2,z2.sameBut hs hcc⟩
  ·obtain⟨e,n,ne,nf,d⟩:=I.pin p hp;refine⟨(hs.2 p.1 ?_).trans e,n,ne,nf,d⟩;intro q;rw[q,hoc]at e;have q':oc=p.2:=Option.some.inj e;exact d w' (by rw[<-q'];exact hocd)
theorem Qc1{M:Model}{A:Around}{E:VP}{i:Nat}{x:Str}{v:V}{u:Value}{Q:Unit->Shared->Prop}(I:Inv X pins σ H s)(hN:X.N.Nodup)(hi:X.N[i]?=some x)(hx:Loc X.env.scope x)(r:RelV v u)(h:∀s',Inv X pins (σ.set i (some v)) H s'->Q () s')(hf:X.fn x=true\/X.env.scope.names.lookup x=some .local:=by first|exact .inl rfl|exact .inr rfl|assumption):wpAny M A (storeName X.env x u) Q E s:=Qht I hN hi hx r (λs' I' _=>h s' I') hf
theorem Inv.call'{s':Shared}{ch:List Addr}(I:Inv X pins σ H s)(ho:s'.os=s.os)(u:Un (frs X.stack) ch H H' s.heap s'.heap)(hok:HOk X.prog X.w H' s'.heap)(hg:AllBare s'.gens)(hch:∀b∈ch,(b∈X.ex\/X.s₀.heap.objs.size<=b)/\b≠X.env.locals/\(∀x c,X.env.cells.lookup x=some c->c≠b)/\∀p∈X.pn++pins,p.1≠b):Inv X pins σ H' s':=by obtain⟨h',g',d',t',o'⟩:=s';have e:o'=s.os:=ho;subst e;exact I.call (g':=g') (t':=t') (d':=d') u hok hg hch
end
abbrev XK:=Value->Option Addr->Hp->Prop
abbrev St:=List (Option V)
abbrev VK:=V->Hp->Prop
abbrev TE:=St->Hp->VK->Prop
abbrev TT:=St->Hp->(Bool->Hp->Prop)->Prop
abbrev TA:=St->Hp->(List V->Hp->Prop)->Prop
structure Ends where
 nx:St->Hp->Prop
 rt:VK
 bk:St->Hp->Prop:=λ_ _=>False
 ct:St->Hp->Prop:=λ_ _=>False
abbrev TS:=Ends->St->Hp->Prop
def EP(X:Cx)(pins:LAO)(σ:St)(Q:VK)(u:Value)(s':Shared):Prop:=∃v H',Inv X pins σ H' s'/\RelV v u/\Q v H'
def TP(X:Cx)(pins:LAO)(σ:St)(Q:Bool->Hp->Prop)(b:Bool)(s':Shared):Prop:=∃H',Inv X pins σ H' s'/\Q b H'
def AP(X:Cx)(pins:LAO)(σ:St)(Q:List V->Hp->Prop)(us:List Value)(s':Shared):Prop:=∃vs H',Inv X pins σ H' s'/\Vals vs us/\Q vs H'
def SP(X:Cx)(pins:LAO)(D:Ends)(f:Flow)(s':Shared):Prop:=
 match f with
 |.next=>∃σ' H',Inv X pins σ' H' s'/\D.nx σ' H'|.brk=>∃σ' H',Inv X pins σ' H' s'/\D.bk σ' H'|.cont=>∃σ' H',Inv X pins σ' H' s'/\D.ct σ' H'|.ret u=>∃v σ' H',Inv X pins σ' H' s'/\RelV v u/\D.rt v H'
def PE(X:Cx)(e:Expr)(t:TE):Prop:=∀(pins:LAO)(s:Shared)(σ:St)(H:Hp)(Q:VK),Inv X pins σ H s->t σ H Q->wpAny (model X.prog X.w) X.A (eval e X.env) (EP X pins σ Q) X.xe s
def PT(X:Cx)(e:Expr)(t:TT):Prop:=∀(pins:LAO)(s:Shared)(σ:St)(H:Hp)(Q:Bool->Hp->Prop),Inv X pins σ H s->t σ H Q->wpAny (model X.prog X.w) X.A (isTrue e X.env (eval e X.env)) (TP X pins σ Q) X.xe s
def PW(X:Cx)(e:Expr)(t:TT):Prop:=∀(whole:Sem Value)(pins:LAO)(s:Shared)(σ:St)(H:Hp)(Q:Bool->Hp->Prop),Inv X pins σ H s->t σ H Q->wpAny (model X.prog X.w) X.A (isTrue e X.env whole) (TP X pins σ Q) X.xe s
theorem PW.pt(h:PW X e t):PT X e t:=h _
def PA(X:Cx)(es:List Expr)(t:TA):Prop:=∀(pos:Pos)(pins:LAO)(s:Shared)(σ:St)(H:Hp)(Q:List V->Hp->Prop),Inv X pins σ H s->t σ H Q->wpAny (model X.prog X.w) X.A (spliced (backTo pos (starEach es X.env))) (AP X pins σ Q) X.xe s
def PS(X:Cx)(st:Stmt)(t:TS):Prop:=∀(pins:LAO)(s:Shared)(σ:St)(H:Hp)(D:Ends),Inv X pins σ H s->t D σ H->wpAny (model X.prog X.w) X.A (exec st X.env) (SP X pins D) X.xe s
def PSs(X:Cx)(st:List Stmt)(t:TS):Prop:=∀(pins:LAO)(s:Shared)(σ:St)(H:Hp)(D:Ends),Inv X pins σ H s->t D σ H->wpAny (model X.prog X.w) X.A (execs st X.env) (SP X pins D) X.xe s
theorem thn(h:wpAny M A t Q E s)(hQ:∀a s,Q a s->Q' a s):wpAny M A t Q' E s:=Tg h hQ λ_ _ x=>x
section
variable{X:Cx}
theorem bin{a b:Expr}{ta tb:TE}(ha:PE X a ta)(hb:PE X b tb){pins:LAO}{s:Shared}{σ:St}{H:Hp}{R:V->V->Hp->Prop}(I:Inv X pins σ H s)(h:ta σ H λx H1=>tb σ H1 λy H2=>R x y H2){α:Type}{Q:α->Shared->Prop}{f:Value->Value->Sem α}(hf:∀v u s2 x y H2,Inv X pins σ H2 s2->RelV x v->RelV y u->R x y H2->wpAny (model X.prog X.w) X.A (f v u) Q X.xe s2):
  wpAny (model X.prog X.w) X.A (eval a X.env) (λv s₁=>wpAny (model X.prog X.w) X.A (eval b X.env) (λu s₂=>wpAny (model X.prog X.w) X.A (f v u) Q X.xe s₂) X.xe s₁) X.xe s:=by
 refine thn (ha pins s σ H _ I h) λv s1 ⟨x,H1,I1,r1,q1⟩=>?_;refine thn (hb pins s1 σ H1 _ I1 q1) λu s2 ⟨y,H2,I2,r2,q2⟩=>?_;exact hf v u s2 x y H2 I2 r1 r2 q2
def tVar(i:Nat):TE:=λσ H Q=>∃v,σ[i]?=some (some v)/\Q v H
def tC(v:V):TE:=λ_ H Q=>Q v H
theorem Qnn(hN:X.N[i]?=some x)(hv:Vis X.env.scope x)(hd:(x==("__debug__" : Str))=false:=by decide)(hcd:(x==("__classdict__" : Str))=false:=by decide):PE X (.Name x pos) (tVar i):=by
 intro pins s σ H Q I h;obtain⟨v,e,h⟩:=h;obtain⟨m,hn,hl⟩:=I.loc;obtain⟨u,r,l⟩:=hl i x v hN e hv;have fin:EP X pins σ Q u s:=⟨v,H,I,r,h⟩;rcases l with⟨hk,hm⟩|⟨hk,c,hc,hcell⟩
 ·exact wpAny_Name (wpAny_loadName_local I.ok.kind hk hn hm fin) hd
 ·rcases hk with hk|hk
  ·exact wpAny_Name (wpAny_loadName_cell I.ok.kind hk hc hcell fin) hd
  ·exact wpAny_Name (wpAny_loadName_free I.ok.kind hk hc hcell fin hcd) hd
theorem Qno:PE X (.Constant (.int i) j pos) (tC (.int i)):=λ_ _ _ H _ I h=>wpAny_Constant_int ⟨.int i,H,I.tok _,⟨_,rfl⟩,h⟩
theorem Qpe:PE X (.Constant (.bool b) j pos) (tC (.bl b)):=λ_ _ _ H _ I h=>Constant_bool ⟨.bl b,H,I,rfl,h⟩
theorem Qnp:PE X (.Constant .none j pos) (tC .non):=λ_ _ _ H _ I h=>Constant_none ⟨.non,H,I,rfl,h⟩
theorem Qnq:PE X (.Constant (.str x) j pos) (tC (.str x)):=λ_ _ _ H _ I h=>Calls.Constant_str ⟨.str x,H,I.tok _,⟨_,rfl⟩,h⟩
def Gl(X:Cx)(x:Str):Prop:=X.env.kindOf x=some .globalImplicit
theorem QaM{E:VP}{pins:LAO}{s:Shared}{σ:St}{H:Hp}{x:Str}{u:Value}{pos:Pos}{Q:VP}(I:Inv X pins σ H s)(hg:Gl X x)(hm:X.mg x=some u)(h:Q u s)(hd:(x==("__debug__" : Str))=false:=by decide):wpAny (model X.prog X.w) X.A (eval (.Name x pos) X.env) Q E s:=Bh I.ok.kind hg (Calls.loadGlobal_global (by rw[I.ok.glob];exact I.mod.glob.keeps I.bk) hm h) hd
theorem Qd5{E:VP}{pins:LAO}{s:Shared}{σ:St}{H:Hp}{x:Str}{u:Value}{pos:Pos}{Q:VP}(I:Inv X pins σ H s)(hg:Gl X x)(hm:X.mg x=none)(hv:bootBuiltins x=some u)(h:Q u s)(hn:x ≠"__name__":=by decide)(hd:(x==("__debug__" : Str))=false:=by decide):wpAny (model X.prog X.w) X.A (eval (.Name x pos) X.env) Q E s:=by obtain⟨mb,h1,h2⟩:=I.mod.blt;exact Bh I.ok.kind hg (Calls.loadGlobal_builtin (by rw[I.ok.glob];exact I.mod.glob.keeps I.bk) hm (by rw[I.ok.blt];exact h1.keeps I.bk) ((h2 x hn).trans hv) h) hd
theorem Qc2(hg:Gl X x)(hm:X.mg x=some u)(r:RelV v u)(hd:(x==("__debug__" : Str))=false:=by decide):PE X (.Name x pos) (tC v):=λ_ _ _ H _ I h=>QaM I hg hm ⟨v,H,I,r,h⟩ hd
theorem Qhu(hg:Gl X x)(hm:X.mg x=none)(hv:bootBuiltins x=some u)(r:RelV v u)(hn:x ≠"__name__":=by decide)(hd:(x==("__debug__" : Str))=false:=by decide):PE X (.Name x pos) (tC v):=λ_ _ _ H _ I h=>Qd5 I hg hm hv ⟨v,H,I,r,h⟩ hn hd
variable{a b:Expr}{ta tb:TE}{pos:Pos}
def tB(t:TE):TT:=λσ H Q=>t σ H λx H1=>∃c,x=.bl c/\Q c H1
theorem Qnr(h:PE X e t)(he:∀whole,isTrue e X.env whole=(do let v <-whole;standAt e.pos;holding [v] (truthy v)):=by intro _;rfl):PT X e (tB t):=by intro pins s σ H Q I hw;refine isTrue_plain (thn (h pins s σ H _ I hw) λv s1 ⟨x,H1,I1,r1,q1⟩=>?_) (he _);obtain⟨d,rfl,q⟩:=q1;cases r1;exact To ⟨H1,I1,q⟩
variable{tA tB':TT}{rest:List Expr}
def tAnd(t u:TT):TT:=λσ H Q=>t σ H λc H1=>if c=true then u σ H1 Q else Q false H1
def tOr(t u:TT):TT:=λσ H Q=>t σ H λc H1=>if c=true then Q true H1 else u σ H1 Q
def tNot(t:TT):TT:=λσ H Q=>t σ H λc H1=>Q (!c) H1
theorem QlU(ha:PT X a tA):PW X (.BoolOp .And [a] pos) tA:=by
 intro wh pins s σ H Q I h;refine isTrue_and (thn (ha pins s σ H Q I h) λc s1 e=>?_);cases c with
 |true=>exact isTrue_and_nil e|false=>exact e
theorem Qns(ha:PT X a tA):PW X (.BoolOp .Or [a] pos) tA:=by
 intro wh pins s σ H Q I h;refine isTrue_or (thn (ha pins s σ H Q I h) λc s1 e=>?_);cases c with
 |false=>exact isTrue_or_nil e|true=>exact e
theorem Qnt(ha:PT X a tA)(hb:PW X (.BoolOp .And (b::rest) pos) tB'):PW X (.BoolOp .And (a::b::rest) pos) (tAnd tA tB'):=by
 intro wh pins s σ H Q I h;refine isTrue_and (thn (ha pins s σ H _ I h) λc s1 ⟨H1,I1,q1⟩=>?_);cases c with
 |true=>exact hb wh pins s1 σ H1 Q I1 q1|false=>exact⟨H1,I1,q1⟩
theorem Qpf(ha:PT X a tA)(hb:PW X (.BoolOp .Or (b::rest) pos) tB'):PW X (.BoolOp .Or (a::b::rest) pos) (tOr tA tB'):=by
 intro wh pins s σ H Q I h;refine isTrue_or (thn (ha pins s σ H _ I h) λc s1 ⟨H1,I1,q1⟩=>?_);cases c with
 |true=>exact⟨H1,I1,q1⟩|false=>exact hb wh pins s1 σ H1 Q I1 q1
theorem Qnu(ha:PT X a tA):PT X (.UnaryOp .Not a pos) (tNot tA):=by intro pins s σ H Q I h;exact isTrue_not (ha pins s σ H (λc H1=>Q (!c) H1) I h)
def Qpg(ta tb:TE):TE:=λσ H Q=>ta σ H λx H1=>∃c,x=.bl c/\if c=true then tb σ H1 Q else Q (.bl false) H1
def Qph(ta:TE):TE:=λσ H Q=>ta σ H λx H1=>∃c,x=.bl c/\Q (.bl (!c)) H1
theorem Qnv(h:PE X a t):PE X (.BoolOp op [a] pos) t:=λpins s σ H Q I hw=>BoolOp_one (h pins s σ H Q I hw)
theorem Qnw(ha:PE X a ta)(hb:PE X (.BoolOp .And (b::rest) pos) tb):PE X (.BoolOp .And (a::b::rest) pos) (Qpg ta tb):=by
 intro pins s σ H Q I h;refine BoolOp_and (thn (ha pins s σ H _ I h) λv s1 ⟨x,H1,I1,r1,q1⟩=>?_);obtain⟨c,rfl,q1⟩:=q1;cases r1;refine To ?_;cases c with
 |true=>exact hb pins s1 σ H1 Q I1 q1|false=>exact⟨.bl false,H1,I1,rfl,q1⟩
theorem Qnx(ha:PE X a ta):PE X (.UnaryOp .Not a pos) (Qph ta):=by intro pins s σ H Q I h;refine UnaryOp_ (thn (ha pins s σ H _ I h) λv s1 ⟨x,H1,I1,r1,q1⟩=>?_);obtain⟨c,rfl,q1⟩:=q1;cases r1;exact not_of (To ⟨.bl (!c),H1,I1,rfl,q1⟩)
def tIf(t:TT)(ta tb:TE):TE:=λσ H Q=>t σ H λc H1=>if c=true then ta σ H1 Q else tb σ H1 Q
theorem QjQ(hc:PT X c tA)(ha:PE X a ta)(hb:PE X b tb):PE X (.IfExp c a b pos) (tIf tA ta tb):=by
 intro pins s σ H Q I h;refine wpAny_IfExp (thn (hc pins s σ H _ I h) λd s1 ⟨H1,I1,q1⟩=>?_);cases d with
 |true=>exact ha pins s1 σ H1 Q I1 q1|false=>exact hb pins s1 σ H1 Q I1 q1
end
def SqL(K:Frag)(H:Hp)(a:Addr)(xs:List V):Prop:=Rd H a (.lst xs)\/∃(o:Obj)(its:Array Value)(n:Nat),K.lookup a=some o/\o.cls=.type "list"/\o.dict=none/\o.data=.seq its n/\its.size<=sizeLine/\Vals xs its.toList
def SqT(K:Frag)(H:Hp)(a:Addr)(xs:List V):Prop:=Rd H a (.tup xs)\/∃(o:Obj)(its:Array Value)(n:Nat),K.lookup a=some o/\o.cls=.type "tuple"/\o.data=.seq its n/\its.size<=sizeLine/\Vals xs its.toList
def absV:Value->Option V
 |.none=>some .non|.bool b=>some (.bl b)|.int i _=>some (.int i)|.str x _=>some (.str x)|.bytes b _=>some (.byt b)|.float b _=>some (.flt b)|.ref a=>some (.ref a)|.type n=>some (.ty n)|_=>none
theorem RelV.abs(r:RelV x u):absV u=some x:=by
 cases x with
 |non=>cases r;rfl|bl _=>cases r;rfl|int _=>obtain⟨t,rfl⟩:=r;rfl|str _=>obtain⟨t,rfl⟩:=r;rfl|byt _=>obtain⟨t,rfl⟩:=r;rfl|flt _=>obtain⟨t,rfl⟩:=r;rfl|ref _=>cases r;rfl|ty _=>cases r;rfl
theorem RelV.inj(r:RelV x u)(q:RelV y u):x=y:=Option.some.inj (r.abs.symm.trans q.abs)
theorem Vals.inj:∀{xs ys:List V}{us:List Value},Vals xs us->Vals ys us->xs=ys
 |_,_,_,.nil,.nil=>rfl|_,_,_,.cons r t,.cons r' t'=>by rw[r.inj r',Vals.inj t t']
theorem SqL.of{K:Frag}(h:H a=some (.lst xs)):SqL K H a xs:=.inl (.inl h)
theorem SqT.of{K:Frag}(h:H a=some (.tup xs)):SqT K H a xs:=.inl (.inl h)
theorem Inv.list(I:Inv X pins σ H s)(h:SqL X.K H a xs):∃its:List Value,Vals xs its/\PlainL s.heap a its.toArray/\xs.length<=sizeLine:=by
 rcases h with h|⟨o,its,n,hk,hc,hd,hs,hz,r⟩
 ·obtain⟨z,its,n,r,e⟩:=h.ok I.hok;exact⟨its,r,⟨_,n,e,rfl,rfl,rfl⟩,z⟩
 ·refine⟨its.toList,r,⟨o,n,I.kIn a o hk,hc,hd,by simpa using hs⟩,?_⟩;have e:=r.length;simp only[Ur]at e;omega
theorem Inv.tuple(I:Inv X pins σ H s)(h:SqT X.K H a xs):∃its:List Value,Vals xs its/\IsTup s.heap a its.toArray/\xs.length<=sizeLine:=by
 rcases h with h|⟨o,its,n,hk,hc,hs,hz,r⟩
 ·obtain⟨z,its,r,p⟩:=h.ok I.hok;exact⟨its,r,p,z⟩
 ·refine⟨its.toList,r,⟨o,I.kIn a o hk,hc,n,by simpa using hs⟩,?_⟩;have e:=r.length;simp only[Ur]at e;omega
theorem Inv.list_inj(I:Inv X pins σ H s)(h:SqL X.K H a xs)(h':SqL X.K H a ys):xs=ys:=by
 obtain⟨its,r,⟨o,n,e,_,_,d⟩,_⟩:=I.list h;obtain⟨its',r',⟨o',n',e',_,_,d'⟩,_⟩:=I.list h';rw[e]at e';cases e';rw[d]at d';injection d' with d1 _;have:its=its':=by simpa using RL Array.toList d1
 subst this;exact r.inj r'
theorem Inv.tuple_inj(I:Inv X pins σ H s)(h:SqT X.K H a xs)(h':SqT X.K H a ys):xs=ys:=by
 obtain⟨its,r,⟨o,e,_,n,d⟩,_⟩:=I.tuple h;obtain⟨its',r',⟨o',e',_,n',d'⟩,_⟩:=I.tuple h';rw[e]at e';cases e';rw[d]at d';injection d' with d1 _;have:its=its':=by simpa using RL Array.toList d1
 subst this;exact r.inj r'
abbrev Cx.wish(X:Cx)(E:VP):Cx:={X with xe:=E}
abbrev Cx.nox(X:Cx):Cx:=X.wish λ_ _=>False
theorem Cx.Ok.wish{X:Cx}(ok:X.Ok)(E:VP):(X.wish E).Ok:=⟨ok.mod,ok.kind,ok.glob,ok.blt,ok.above,ok.inj,ok.has,ok.cab,ok.hd,ok.frames,ok.stk,ok.exf,ok.bs,ok.bsz,ok.noex,ok.exfs,ok.funs,ok.frf⟩
theorem Cx.Ok.unwish{X:Cx}{E:VP}(ok:(X.wish E).Ok):X.Ok:=⟨ok.mod,ok.kind,ok.glob,ok.blt,ok.above,ok.inj,ok.has,ok.cab,ok.hd,ok.frames,ok.stk,ok.exf,ok.bs,ok.bsz,ok.noex,ok.exfs,ok.funs,ok.frf⟩
section
variable{X:Cx}{pins:LAO}{σ:St}{H:Hp}{s:Shared}{E:VP}
theorem Inv.wish(I:Inv X pins σ H s)(E:VP):Inv (X.wish E) pins σ H s:=⟨I.ok.wish E,I.os,I.bare,I.base,I.loc,I.cell,I.free,I.freeC,I.pin,I.hok,I.len⟩
theorem Inv.unwish(I:Inv (X.wish E) pins σ H s):Inv X pins σ H s:=⟨I.ok.unwish,I.os,I.bare,I.base,I.loc,I.cell,I.free,I.freeC,I.pin,I.hok,I.len⟩
theorem SP.unwish(h:SP (X.wish E) pins D f s'):SP X pins D f s':=by
 cases f with
 |next=>obtain⟨σ',H',I,q⟩:=h;exact⟨σ',H',I.unwish,q⟩|brk=>obtain⟨σ',H',I,q⟩:=h;exact⟨σ',H',I.unwish,q⟩|cont=>obtain⟨σ',H',I,q⟩:=h;exact⟨σ',H',I.unwish,q⟩|ret u=>obtain⟨v,σ',H',I,r,q⟩:=h;exact⟨v,σ',H',I.unwish,r,q⟩
theorem PE.nox(h:PE X.nox e t):PE X e t:=λpins s σ H Q I hw=>
 Tg (h pins s σ H Q (I.wish _) hw) (λ_ _ ⟨v,H',I',r,q⟩=>⟨v,H',I'.unwish,r,q⟩) λ_ _ z=>False.elim z
theorem PT.nox(h:PT X.nox e t):PT X e t:=λpins s σ H Q I hw=>
 Tg (h pins s σ H Q (I.wish _) hw) (λ_ _ ⟨H',I',q⟩=>⟨H',I'.unwish,q⟩) λ_ _ z=>False.elim z
theorem PSs.nox{st:List Stmt}{t:TS}(h:PSs X.nox st t):PSs X st t:=λpins s σ H D I hw=>
 Tg (h pins s σ H D (I.wish _) hw) (λ_ _ q=>q.unwish) λ_ _ z=>False.elim z
end
section
variable{X:Cx}{st:Stmt}{rest:List Stmt}{t u:TS}{e:Expr}{te:TE}{pos:Pos}
def Qpi:TS:=λD σ H=>D.nx σ H
def tSeq(t u:TS):TS:=λD σ H=>t {D with nx:=u D} σ H
theorem Qhv:PSs X [] Qpi:=λ_ _ σ H _ I h=>W4 ⟨σ,H,I,h⟩
theorem QjR(h1:PS X st t)(h2:PSs X rest u):PSs X (st::rest) (tSeq t u):=by
 intro pins s σ H D I h;refine wpAny_execs_cons (thn (h1 pins s σ H {D with nx:=u D} I h) λf s1 q=>?_);cases f with
 |next =>obtain⟨σ',H',I',q⟩:=q;exact h2 pins s1 σ' H' D I' q|ret v=>exact q|brk=>exact q|cont=>exact q
theorem QlV(h1:PS X st t):PSs X [st] t:=by
 intro pins s σ H D I h;refine wpAny_execs_cons (thn (h1 pins s σ H D I h) λf s1 q=>?_);cases f with
 |next=>exact W4 q|ret v=>exact q|brk=>exact q|cont=>exact q
theorem Inv.quiet(I:Inv X pins σ H s):interactive X.env=false:=by simp[interactive,I.ok.kind]
def Qpj(te:TE):TS:=λD σ H=>te σ H λ_ H1=>D.nx σ H1
theorem QlW(he:PE X e te)(hs:swapsWith e none pos.line X.env=pure false:=by rfl):PS X (.Expr e pos) (Qpj te):=by intro pins s σ H D I h;exact wpAny_Expr_any (thn (he pins s σ H _ I h) λv s1 ⟨x,H1,I1,r1,q1⟩=>⟨σ,H1,I1,q1⟩) I.quiet hs
def tRet(te:TE):TS:=λD σ H=>te σ H D.rt
theorem Qny(he:PE X e te):PS X (.Return (some e) pos) (tRet te):=by intro pins s σ H D I h;exact wpAny_Return_some (thn (he pins s σ H _ I h) λv s1 ⟨x,H1,I1,r1,q1⟩=>⟨x,σ,H1,I1,r1,q1⟩)
def Qpk:TS:=λD _ H=>D.rt .non H
theorem QlX:PS X (.Return none pos) Qpk:=λ_ _ σ H _ I h=>wpAny_Return_none ⟨.non,σ,H,I,rfl,h⟩
def tIfS(c:TT)(t u:TS):TS:=λD σ H=>c σ H λb H1=>if b=true then t D σ H1 else u D σ H1
theorem Qpl(hc:PT X c tc)(ha:PSs X a t)(hb:PSs X b u):PS X (.If c a b pos) (tIfS tc t u):=by
 intro pins s σ H D I h;refine wpAny_If (thn (hc pins s σ H _ I h) λd s1 ⟨H1,I1,q1⟩=>?_);cases d with
 |true=>exact ha pins s1 σ H1 D I1 q1|false=>exact hb pins s1 σ H1 D I1 q1
def Qnz:TS:=λ_ _ _=>False
theorem QjS:PS X st Qnz:=λ_ _ _ _ _ _ h=>h.elim
end
abbrev TG:=V->St->Hp->(St->Hp->Prop)->Prop
abbrev TGs:=List V->St->Hp->(St->Hp->Prop)->Prop
def PG(X:Cx)(target:Expr)(t:TG):Prop:=∀(pins:LAO)(s:Shared)(σ:St)(H:Hp)(v:V)(u:Value)(Q:St->Hp->Prop),Inv X pins σ H s->RelV v u->t v σ H Q->wpAny (model X.prog X.w) X.A (assign target X.env u) (λ_ s'=>∃σ' H',Inv X pins σ' H' s'/\Q σ' H') X.xe s
def PGs(X:Cx)(ts:List Expr)(t:TGs):Prop:=∀(pins:LAO)(s:Shared)(σ:St)(H:Hp)(vs:List V)(us:List Value)(Q:St->Hp->Prop),Inv X pins σ H s->Vals vs us->t vs σ H Q->wpAny (model X.prog X.w) X.A (assignInOrder ((assignEach ts X.env).map (·.2)) us) (λ_ s'=>∃σ' H',Inv X pins σ' H' s'/\Q σ' H') X.xe s
abbrev TSet:=V->V->V->Hp->(Hp->Prop)->Prop
def PSet(X:Cx)(t:TSet):Prop:=∀(pins:LAO)(s:Shared)(σ:St)(H:Hp)(o i v:V)(ov iv u:Value)(Q:Hp->Prop),Inv X pins σ H s->RelV o ov->RelV i iv->RelV v u->t o i v H Q->wpAny (model X.prog X.w) X.A (setItem ov iv u) (λ_ s'=>∃H',Inv X pins σ H' s'/\Q H') X.xe s
def QnA(i:Nat):TG:=λv σ H Q=>Q (σ.set i (some v)) H
theorem QlY(hN:X.N.Nodup)(hi:X.N[i]?=some x)(hx:Loc X.env.scope x)(hf:X.fn x=true\/X.env.scope.names.lookup x=some .local:=by first|exact .inl rfl|exact .inr rfl|assumption):PG X (.Name x pos) (QnA i):=by intro pins s σ H v u Q I r h;exact wpAny_assign_Name (Qc1 I hN hi hx r (λs' I'=>⟨_,H,I',h⟩) hf)
def gNil:TGs:=λvs σ H Q=>vs=[]/\Q σ H
def Qpm(t:TG)(u:TGs):TGs:=λvs σ H Q=>∃v r,vs=v::r/\t v σ H λσ' H'=>u r σ' H' Q
theorem QlZ:PGs X [] gNil:=by intro pins s σ H vs us Q I r h;obtain⟨e,h⟩:=h;subst e;cases r;exact assignInOrder_nil ⟨σ,H,I,h⟩
theorem QjT{e:Expr}{es:List Expr}{t:TG}{u:TGs}(h1:PG X e t)(h2:PGs X es u)(hs:(assignEach (e::es) X.env).map (·.2)=assign e X.env::(assignEach es X.env).map (·.2):=by rfl):PGs X (e::es) (Qpm t u):=by
 intro pins s σ H vs us Q I r h;obtain⟨v,vr,e1,h⟩:=h;subst e1;cases r with
 |cons r rr =>rw[hs];refine assignInOrder_cons (thn (h1 pins s σ H _ _ _ I r h) λ_ s1 ⟨σ1,H1,I1,q1⟩=>?_);exact h2 pins s1 σ1 H1 _ _ Q I1 rr q1
def gTup(K:Frag)(n:Nat)(t:TGs):TG:=λv σ H Q=>∃a xs,v=.ref a/\SqT K H a xs/\xs.length=n/\t xs σ H Q
theorem QnB{es:List Expr}{k:Nat}{t:TGs}{n:Nat}(hc:X.calm=true)(h:PGs X es t)(hn:(assignEach es X.env).length=n:=by rfl)(hst:(assignEach es X.env).findIdx? (·.1)=none:=by rfl):PG X (.Tuple es k pos) (gTup X.K n t):=by intro pins s σ H v u Q I r hw;obtain⟨a,xs,e1,hq,hl,hw⟩:=hw;subst e1;cases r;obtain⟨its,rv,ht,hz⟩:=I.tuple hq;refine assign_Tuple_tuple (I.ok.hd hc) ht (by simp[hn,<-hl,rv.length]) hst λh' hx=>?_;have I1:Inv X pins σ H {s with heap:=h'}:=I.kept (t':=s.toks) λb o e=>hx b o (UR (Uw e)) e;exact h pins _ σ H xs _ Q I1 (by simpa using rv) hw
def gSub(to ti:TE)(t:TSet):TG:=λv σ H Q=>to σ H λo H1=>ti σ H1 λi H2=>t o i v H2 λH3=>Q σ H3
theorem Qk0{o i:Expr}{to ti:TE}{t:TSet}(ho:PE X o to)(hi:PE X i ti)(hs:PSet X t)(ha:∀v,assign (.Subscript o i pos) X.env v=(do
   let ov <-holding [v] (eval o X.env)
   let iv <-holding [v,ov] (eval i X.env)
   standAt pos
   holding [v,ov,iv] (setItem ov iv v)
   release [v,ov,iv] []):=by intro _;rfl):PG X (.Subscript o i pos) (gSub to ti t):=by
 intro pins s σ H v u Q I r h;rw[ha];refine Ua (Tn (thn (ho pins s σ H _ I h) λov s1 ⟨x,H1,I1,r1,q1⟩=>?_));refine Ua (Tn (thn (hi pins s1 σ H1 _ I1 q1) λiv s2 ⟨y,H2,I2,r2,q2⟩=>?_));refine Ua (wpAny_standAt (Ua (Tn (thn (hs pins s2 σ H2 x y v ov iv u _ I2 r1 r2 r q2) λ_ s3 ⟨H3,I3,q3⟩=>?_))));exact wpAny_release ⟨σ,H3,I3,q3⟩
def tAsg(te:TE)(g:TG):TS:=λD σ H=>te σ H λx H1=>g x σ H1 D.nx
theorem Qhw{tg e:Expr}{te:TE}{g:TG}(he:PE X e te)(hg:PG X tg g)(hs:swapsWithSole [tg] e pos.line X.env=pure false:=by rfl)(hw:swappedStores [tg] e X.env=pure none:=by rfl)(h1:(assignEach [tg] X.env).map (·.2)=[assign tg X.env]:=by rfl):PS X (.Assign [tg] e pos) (tAsg te g):=by intro pins s σ H D I h;refine wpAny_Assign_stores (thn (he pins s σ H _ I h) λv s1 ⟨x,H1,I1,r1,q1⟩=>?_) hs hw;rw[h1];exact thn (hg pins s1 σ H1 x v _ I1 r1 q1) λ_ s2 q=>q
theorem QnC(hN:X.N.Nodup)(hi:X.N[i]?=some x)(hx:Loc X.env.scope x)(he:PE X e te)(hs:swapsWith e (some (.Name x pos')) pos.line X.env=pure false:=by rfl)(hf:X.fn x=true\/X.env.scope.names.lookup x=some .local:=by first|exact .inl rfl|exact .inr rfl|assumption):
  PS X (.Assign [.Name x pos'] e pos) (tAsg te (QnA i)):=by
 intro pins s σ H D I h;refine wpAny_Assign_Name (thn (he pins s σ H _ I h) λv s1 ⟨y,H1,I1,r1,q1⟩=>?_) hs;exact Qc1 I1 hN hi hx r1 (λs2 I2=>⟨_,H1,I2,q1⟩) hf
def QnD(c:TT)(tb:TS):TS:=λD σ H=>∃W:Nat->St->Hp->Prop,(∃m,W m σ H)/\∀m σ H,W m σ H->c σ H λb H1=>if b=true then ∃N:St->Hp->Prop,(∀σ' H',N σ' H'->∃m',m'<m/\W m' σ' H')/\tb {D with nx:=N,ct:=N,bk:=D.nx} σ H1 else D.nx σ H1
theorem QjU(hp:PassesOwn (model X.prog X.w) X.A X.env X.xe)(hc:PT X c tc)(hb:PSs X body tb):PS X (.While c body [] pos) (QnD tc tb):=by
 intro pins s σ H D I h;obtain⟨W,⟨m0,w0⟩,turn⟩:=h;refine wpAny_While (codeAny_whileLoop (λn s'=>∃σ' H',Inv X pins σ' H' s'/\W n σ' H') ?_ m0 ⟨σ,H,I,w0⟩);rintro n s1 ⟨σ1,H1,I1,w1⟩;refine RI hp (thn (hc pins s1 σ1 H1 _ I1 (turn n σ1 H1 w1)) λb s2 ⟨H2,I2,q2⟩=>?_);cases b with
 |true=>
  obtain⟨N,hN,q2⟩:=q2;rw[Ue rfl];refine RI hp (thn (hb pins s2 σ1 H2 _ I2 q2) λf s3 q3=>?_);cases f with
  |next =>obtain⟨σ3,H3,I3,n3⟩:=q3;obtain⟨m',hm,w3⟩:=hN σ3 H3 n3;exact⟨m',hm,σ3,H3,I3,w3⟩|cont =>obtain⟨σ3,H3,I3,n3⟩:=q3;obtain⟨m',hm,w3⟩:=hN σ3 H3 n3;exact⟨m',hm,σ3,H3,I3,w3⟩|brk=>exact q3|ret v=>exact q3
 |false =>rw[Uf Ui];exact W4 ⟨σ1,H2,I2,q2⟩
structure It where
 go:Nat->Hp->Prop
 yld:Nat->Hp->V->Hp->Prop
 stop:Nat->Hp->Prop
def FpOk(X:Cx)(pins:LAO)(H:Hp)(b:Addr):Prop:=H b=none/\b≠X.env.locals/\b∉X.fs/\(b∈X.ex\/X.s₀.heap.objs.size<=b)/\(∀x c,X.env.cells.lookup x=some c->c≠b)/\∀p∈X.pn++pins,p.1≠b
theorem Inv.fpOk(I:Inv X pins σ H s)(hb:s.heap.objs.size<=b)(hn:H' b=none):FpOk X pins H' b:=by
 refine⟨hn,Bf (UB I.lt hb),I.nofs hb,.inr (Uk I.sz hb),λx c e z=>?_,λp hp z=>?_⟩
 ·obtain⟨v,q⟩:=I.cell x c e;exact absurd (UB q.lt (by rw[z];exact hb)) (Rb _)
 ·exact absurd (UB (Uw (I.pin p hp).1) (by rw[z];exact hb)) (Rb _)
structure Turn(P:Program)(w:World)(K:Frag)(tg:Expr)(J:It)(fp:List Addr)(it:Addr)(tn:Nat->Heap->Prop):Prop where
 mem:it∈fp
 obj:∀i h,tn i h->∀b∈fp,∃o,h.get? b=some o/\∀v,o.data≠.cell v
 keep:∀i h h',tn i h->(∀b∈fp,∀o,h.get? b=some o->h'.get? b=some o)->tn i h'
 item:∀(X:Cx),X.prog=P->X.w=w->X.K=K->X.calm=true->∀(i:Nat)(pins:LAO)(s:Shared)(σ:St)(H:Hp)(E:VP),Inv X pins σ H s->(∀b∈fp,FpOk X pins H b)->tn i s.heap->J.go i H->wpAny (model P w) X.A (pyNext (.ref it)) (λr s1=>∃u,r=some u/\wpAny (model P w) X.A (letOwnedTupleGo tg (.ref it) u) (λ_ s2=>∃x H',Inv X pins σ H' s2/\RelV x u/\J.yld i H x H'/\tn (i+1) s2.heap/\∀b∈fp,H' b=none) E s1) E s
 done:∀(X:Cx),X.prog=P->X.w=w->X.K=K->X.calm=true->∀(i:Nat)(pins:LAO)(s:Shared)(σ:St)(H:Hp)(E:VP),Inv X pins σ H s->(∀b∈fp,FpOk X pins H b)->tn i s.heap->J.stop i H->wpAny (model P w) X.A (pyNext (.ref it)) (λr s1=>r=none/\Inv X pins σ H s1) E s
 self:∀(A:Around)(i:Nat)(s:Shared)(Q:VP)(E:VP),tn i s.heap->Q (.ref it) s->wpAny (model P w) A (pyIter (.ref it)) Q E s
abbrev TI:=St->Hp->(It->Hp->Prop)->Prop
def PIE(X:Cx)(pins:LAO)(σ:St)(tg:Expr)(R:It->Hp->Prop)(itv:Value)(s2:Shared):Prop:=∃(it:Addr)(fp:List Addr)(tn:Nat->Heap->Prop)(J:It)(H':Hp),itv=.ref it/\Inv X pins σ H' s2/\Turn X.prog X.w X.K tg J fp it tn/\tn 0 s2.heap/\(∀b∈fp,FpOk X pins H' b)/\R J H'
def PI(X:Cx)(tg iter:Expr)(wi:TI):Prop:=∀(pins:LAO)(s:Shared)(σ:St)(H:Hp)(R:It->Hp->Prop),Inv X pins σ H s->wi σ H R->wpAny (model X.prog X.w) X.A (eval iter X.env) (λv s1=>wpAny (model X.prog X.w) X.A (pyIter v) (PIE X pins σ tg R) X.xe s1) X.xe s
theorem QjV{M:Model}{A:Around}{E:VP}{s:Shared}{tg:Expr}{it:Addr}{u:Value}{o:Obj}{n:String}{vs:Array Value}{Q:Unit->Shared->Prop}(ho:s.heap.get? it=some o)(hc:o.cls=.type n)(hd:o.data=.fields vs)(hn:["enumerate","zip","dict_itemiterator","dict_reverseitemiterator","odict_iterator","itertools.zip_longest","itertools.pairwise"].contains n=false)(hQ:Q () s):wpAny M A (letOwnedTupleGo tg (.ref it) u) Q E s:=by
  unfold letOwnedTupleGo;cases tg<;>first
    |exact Ub hQ
    | (cases u<;>first
        |exact Ub hQ
        | (refine Ua (wpAny_load ho ?_)
           rw[hc,hd];show wpAny M A (if (["enumerate","zip","dict_itemiterator","dict_reverseitemiterator","odict_iterator","itertools.zip_longest","itertools.pairwise"].contains n&&vs[0]? == some (rawInt _))=true then _ else _) Q E s;rw[Uf (by intro h;rw[hn,Bool.false_and]at h;cases h)];exact Ub hQ))
def Itl(K:Frag)(a:Addr):It:=⟨λi H=>∃xs x,SqL K H a xs/\xs[i]?=some x,λi H x H'=>H'=H/\∀xs,SqL K H a xs->xs[i]?=some x,λi H=>∃xs,SqL K H a xs/\xs.length<=i⟩
def Itt(K:Frag)(a:Addr):It:=⟨λi H=>∃xs x,SqT K H a xs/\xs[i]?=some x,λi H x H'=>H'=H/\∀xs,SqT K H a xs->xs[i]?=some x,λi H=>∃xs,SqT K H a xs/\xs.length<=i⟩
def Itr(lo:Int)(n:Nat):It:=⟨λi _=>i<n,λi H x H'=>H'=H/\x=.int (lo+i),λi _=>n<=i⟩
theorem Qhx{P:Program}{w:World}{K:Frag}{tg:Expr}(a it:Addr):Turn P w K tg (Itl K a) [it] it (λi h=>h.IsListIter it a i) where
 mem:=by simp
 obj:=λi h st b hb=>by
  have e:b=it:=by simpa using hb
  subst e;obtain⟨o,e,c,d⟩:=st;exact⟨o,e,λv z=>by rw[d]at z;cases z⟩
 keep:=λi h h' st k=>st.at λo e=>k it (by simp) o e
 item:=by intro X hP hw hK hc i pins s σ H E I hf st hg;subst hP hw hK;obtain⟨xs,x,hq,hx⟩:=hg;obtain⟨its,rv,p,hz⟩:=I.list hq;obtain⟨u,hu,ru⟩:=rv.get hx;obtain⟨f0,f1,f2,f3,f4,f5⟩:=hf it (by simp);refine wpAny_pyNext_list_item st p.isList (x:=u) (by simpa using hu) λh' st' sb=>?_;have I1:Inv X pins σ H {s with heap:=h'}:=I.turned (t':=s.toks) (λb o hb e=>(sb.2 b hb).trans e) f0 f1 f3 f4 f5;obtain⟨o,e,c,d⟩:=id st';exact⟨u,rfl,QjV (s:={s with heap:=h'}) e c d (by decide) ⟨x,H,I1,ru,⟨rfl,λys hy=>by rw[I.list_inj hy hq];exact hx⟩,st',λb hb=>(hf b hb).1⟩⟩
 done:=by intro X hP hw hK hc i pins s σ H E I hf st hg;subst hP hw hK;obtain⟨xs,hq,hx⟩:=hg;obtain⟨its,rv,p,hz⟩:=I.list hq;obtain⟨f0,f1,f2,f3,f4,f5⟩:=hf it (by simp);have hl:=rv.length;exact wpAny_pyNext_list_end (I.ok.hd hc) st p.isList (by simp;omega) λh' eb=>⟨rfl,I.turned (t':=s.toks) (λb o hb e=>eb b o hb e) f0 f1 f3 f4 f5⟩
 self:=λ_ _ _ _ _ st h=>wpAny_pyIter_listiter st h
theorem QgC{P:Program}{w:World}{K:Frag}{tg:Expr}(a it:Addr):Turn P w K tg (Itt K a) [it] it (λi h=>h.IsTupleIter it a i) where
 mem:=by simp
 obj:=λi h st b hb=>by
  have e:b=it:=by simpa using hb
  subst e;obtain⟨o,e,c,d⟩:=st;exact⟨o,e,λv z=>by rw[d]at z;cases z⟩
 keep:=λi h h' st k=>st.at λo e=>k it (by simp) o e
 item:=by intro X hP hw hK hc i pins s σ H E I hf st hg;subst hP hw hK;obtain⟨xs,x,hq,hx⟩:=hg;obtain⟨its,rv,p,hz⟩:=I.tuple hq;obtain⟨u,hu,ru⟩:=rv.get hx;obtain⟨f0,f1,f2,f3,f4,f5⟩:=hf it (by simp);refine wpAny_pyNext_tuple_item st (show s.heap.IsTuple a its.toArray from p) (x:=u) (by simpa using hu) λh' st' sb=>?_;have I1:Inv X pins σ H {s with heap:=h'}:=I.turned (t':=s.toks) (λb o hb e=>(sb.2 b hb).trans e) f0 f1 f3 f4 f5;obtain⟨o,e,c,d⟩:=id st';exact⟨u,rfl,QjV (s:={s with heap:=h'}) e c d (by decide) ⟨x,H,I1,ru,⟨rfl,λys hy=>by rw[I.tuple_inj hy hq];exact hx⟩,st',λb hb=>(hf b hb).1⟩⟩
 done:=by intro X hP hw hK hc i pins s σ H E I hf st hg;subst hP hw hK;obtain⟨xs,hq,hx⟩:=hg;obtain⟨its,rv,p,hz⟩:=I.tuple hq;obtain⟨f0,f1,f2,f3,f4,f5⟩:=hf it (by simp);have hl:=rv.length;exact wpAny_pyNext_tuple_end (I.ok.hd hc) st (show s.heap.IsTuple a its.toArray from p) (by simp;omega) λh' eb=>⟨rfl,I.turned (t':=s.toks) (λb o hb e=>eb b o hb e) f0 f1 f3 f4 f5⟩
 self:=λ_ _ _ _ _ st h=>wpAny_pyIter_tupleiter st h
theorem QgD{P:Program}{w:World}{K:Frag}{tg:Expr}(it:Addr)(lo:Int)(n:Nat):Turn P w K tg (Itr lo n) [it] it (λi h=>IsRangeIter h it (lo+(i:Nat)*1) ((n:Int) - (i:Nat)) 1) where
 mem:=by simp
 obj:=λi h st b hb=>by
  have e:b=it:=by simpa using hb
  subst e;exact⟨_,st,λv z=>by have z':Data.fields _=Data.cell v:=z;cases z'⟩
 keep:=λi h h' st k=>k it (by simp) _ st
 item:=by intro X hP hw hK hc i pins s σ H E I hf st hg;subst hP hw hK;obtain⟨f0,f1,f2,f3,f4,f5⟩:=hf it (by simp);have W:=Walks.range (prog:=X.prog) (w:=X.w) (I.ok.hd hc) it lo 1 n;refine W.item i s _ _ hg st λv h' tk hv st' kk=>?_;obtain⟨t,rfl⟩:=hv;have I1:Inv X pins σ H {s with heap:=h',toks:=tk}:=I.turned (λb o hb e=>kk b o (by simpa using hb) e) f0 f1 f3 f4 f5;refine⟨_,rfl,QjV (s:={s with heap:=h',toks:=tk}) (n:="range_iterator") st' rfl rfl (by decide) ⟨.int (lo+i),H,I1,⟨t,?_⟩,⟨rfl,rfl⟩,st',λb hb=>(hf b hb).1⟩⟩;rw[Int.mul_one]
 done:=by intro X hP hw hK hc i pins s σ H E I hf st hg;subst hP hw hK;obtain⟨f0,f1,f2,f3,f4,f5⟩:=hf it (by simp);exact wpAny_pyNext_range_end (I.ok.hd hc) st (by have:n<=i:=hg;omega) λh' eb=>⟨rfl,I.turned (t':=s.toks) (λb o hb e=>eb b o hb e) f0 f1 f3 f4 f5⟩
 self:=λ_ _ _ _ _ st h=>wpAny_pyIter_rangeiter st h
theorem QjW{pins:LAO}{σ:St}{H:Hp}{s:Shared}{R:It->Hp->Prop}{E:VP}{lo hi:Int}{t u v:Tok}{tk:Nat}(I:Inv X pins σ H s)(h1:-(2^62)<=lo)(h2:lo<2^62)(h3:-(2^62)<=hi)(h4:hi<2^62)(q:R (Itr lo (hi-lo).toNat) H):wpAny (model X.prog X.w) X.A (pyIter (.ref s.heap.objs.size)) (PIE X pins σ tg R) E {s with heap:=s.heap.push {cls:=.type "range",data:=.fields #[.int lo t,.int hi u,.int 1 v]},toks:=tk}:=by
 refine wpAny_pyIter_range (IsRange.new ..) (small_one h1 h2 h3 h4) ?_;have I1:Inv X pins σ H {s with heap:=s.heap.push {cls:=.type "range",data:=.fields #[.int lo t,.int hi u,.int 1 v]},toks:=tk}:=I.kept λb o e=>Uc _ e;refine⟨(s.heap.push {cls:=.type "range",data:=.fields #[.int lo t,.int hi u,.int 1 v]}).objs.size,[(s.heap.push {cls:=.type "range",data:=.fields #[.int lo t,.int hi u,.int 1 v]}).objs.size],_,_,H,rfl,I1.kept (t':=tk) λb o e=>Uc _ e,QgD _ lo (hi-lo).toNat,?_,λb hb=>?_,q⟩
 ·have e1:lo+((0:Nat):Int)*1=lo:=by simp
  have e2:(((hi-lo).toNat:Nat):Int) - ((0:Nat):Int)=Builtin.Range.rangeSize lo hi 1:=by rw[rangeSize_one];split<;>omega
  show IsRangeIter _ _ (lo+((0:Nat):Int)*1) ((((hi-lo).toNat:Nat):Int) - ((0:Nat):Int)) 1;rw[e1,e2];exact Uy _ rfl
 ·have e:b=(s.heap.push {cls:=.type "range",data:=.fields #[.int lo t,.int hi u,.int 1 v]}).objs.size:=by simpa using hb
  subst e;exact I1.fpOk (Ug _) (I1.hok.fresh (Ug _))
def Qpn(ta:TA):TI:=λσ H R=>ta σ H λvs H1=>∃j:Int,vs=[.int j]/\-(2^62)<=j/\j<2^62/\R (Itr 0 j.toNat) H1
theorem Qhy(hg:Gl X "range")(hm:X.mg "range"=none)(ha:PA X [a] ta)(hs:starEach [a] X.env=[(false,eval a X.env)]:=by rfl):PI X tg (.Call (.Name "range" p) [a] [] pos) (Qpn ta):=by
 intro pins s σ H R I h;refine Call_ (Qd5 I hg hm boot_range (R0 (thn (ha pos pins s σ H _ I h) λus s1 ⟨vs,H1,I1,r1,q1⟩=>?_) hs rfl));obtain⟨j,e,q1,q2,q⟩:=q1;subst e;cases r1 with
 |cons r rr =>cases rr;obtain⟨t,rfl⟩:=r;exact call_range_1 (QjW I1 (by omega) (by omega) q1 q2 (by simpa using q))
def tFor(wi:TI)(g:TG)(tb:TS):TS:=λD σ H=>wi σ H λJ H1=>∃W:Nat->Nat->St->Hp->Prop,(∃m,W 0 m σ H1)/\∀i m σ H,W i m σ H->(J.stop i H/\D.nx σ H)\/(J.go i H/\∃N:St->Hp->Prop,(∀σ' H',N σ' H'->∃m',m'<m/\W (i+1) m' σ' H')/\∀x H',J.yld i H x H'->g x σ H' λσ2 H2=>tb {D with nx:=N,ct:=N,bk:=D.nx} σ2 H2)
def Qd6(fp:List Addr)(h:Heap):List (Addr×Obj):=fp.filterMap λb=>(h.get? b).map λo=>(b,o)
theorem JC(hb:b∈fp)(e:h.get? b=some o):(b,o)∈Qd6 fp h:=Bk.mpr ⟨b,hb,by rw[e];rfl⟩
theorem Qhz(hp:p∈Qd6 fp h):p.1∈fp/\h.get? p.1=some p.2:=by
 obtain⟨b,hb,e⟩:=Bk.mp hp;cases q:h.get? b with
 |none=>rw[q]at e;cases e|some o =>rw[q]at e;have e':(b,o)=p:=Option.some.inj e;subst e';exact⟨hb,q⟩
theorem Inv.pinned(I:Inv X pins σ H s)(hf:∀b∈fp,FpOk X pins H b)(ho:∀b∈fp,∃o,s.heap.get? b=some o/\∀v,o.data≠.cell v):Inv X (pins++Qd6 fp s.heap) σ H s:=
 I.pins_of λp hp=>(Uu.mp hp).elim (λz=>I.pin p (UU _ z)) λz=>by obtain⟨hb,e⟩:=Qhz z;obtain⟨f0,f1,f2,_⟩:=hf p.1 hb;obtain⟨o,e',d⟩:=ho p.1 hb;rw[e]at e';cases e';exact⟨e,f0,f1,f2,d⟩
theorem Inv.unpinned(I:Inv X (pins++pl) σ H s):Inv X pins σ H s:=I.pins_of λp hp=>I.pin p (UU _ (RH _ hp))
theorem QnE{iter:Expr}{body:List Stmt}{wi:TI}{g:TG}{tb:TS}{pos:Pos}(hp:PassesOwn (model X.prog X.w) X.A X.env X.xe)(hc:X.calm=true)(hi:PI X tg iter wi)(hg:PG X tg g)(hb:PSs X body tb)(hs:∀x,foldedSetIterable iter X.env x=pure x:=by intro _;rfl):PS X (.For tg iter body [] pos) (tFor wi g tb):=by
 intro pins s σ H D I h;refine wpAny_For (thn (hi pins s σ H _ I h) λv s1 h1=>thn h1 λitv s2 h2=>?_) hs;obtain⟨it,fp,tn,J,H2,e,I2,T,st2,f2,W,⟨m0,w0⟩,turn⟩:=h2;subst e
 -- what stays true of the iterator's objects through the loop
 have stat:∀{H':Hp},(∀b∈fp,H' b=none)->∀b∈fp,FpOk X pins H' b:=λhn b hb=>⟨hn b hb,(f2 b hb).2⟩;refine codeAny_forLoop_any (λn s'=>∃i σ' H',Inv X pins σ' H' s'/\tn i s'.heap/\(∀b∈fp,H' b=none)/\W i n σ' H') ?_ m0 ⟨0,σ,H2,I2,st2,λb hb=>(f2 b hb).1,w0⟩;rintro n s3 ⟨i,σ3,H3,I3,st3,fr3,w3⟩;rcases turn i n σ3 H3 w3 with⟨stop,qn⟩|⟨go,N,hN,step⟩
 ·refine RI hp (thn (T.done X rfl rfl rfl hc i pins s3 σ3 H3 X.xe I3 (stat fr3) st3 stop) λr s4 ⟨hr,I4⟩=>?_);subst hr;exact W4 ⟨σ3,H3,I4,qn⟩
 ·refine RI hp (thn (T.item X rfl rfl rfl hc i pins s3 σ3 H3 X.xe I3 (stat fr3) st3 go) λr s4 ⟨u,hr,h4⟩=>?_);subst hr;refine RI hp (thn h4 λ_ s5 ⟨x,H5,I5,r5,y5,st5,fr5⟩=>?_);have I5':=I5.pinned (stat fr5) (T.obj _ _ st5);refine RI hp (thn (hg _ s5 σ3 H5 x u _ I5' r5 (step x H5 y5)) λ_ s6 ⟨σ6,H6,I6,q6⟩=>?_);refine RI hp (thn (hb _ s6 σ6 H6 _ I6 q6) λf s7 q7=>?_);have again:∀{σ7:St}{H7:Hp},Inv X (pins++Qd6 fp s5.heap) σ7 H7 s7->N σ7 H7->∃m,m<n/\∃i σ' H',Inv X pins σ' H' s7/\tn i s7.heap/\(∀b∈fp,H' b=none)/\W i m σ' H':=λ{σ7 H7} I7 n7=>by obtain⟨m',hm,w7⟩:=hN σ7 H7 n7;refine⟨m',hm,i+1,σ7,H7,I7.unpinned,T.keep _ _ _ st5 λb hb o e=>(I7.pin (b,o) (UU _ (UU _ (JC hb e)))).1,λb hb=>?_,w7⟩;obtain⟨o,e,d⟩:=T.obj _ _ st5 b hb;exact(I7.pin (b,o) (UU _ (UU _ (JC hb e)))).2.1
  cases f with
  |next=>obtain⟨σ7,H7,I7,n7⟩:=q7;exact again I7 n7|cont=>obtain⟨σ7,H7,I7,n7⟩:=q7;exact again I7 n7|brk=>obtain⟨σ7,H7,I7,q7⟩:=q7;exact⟨σ7,H7,I7.unpinned,q7⟩|ret v=>obtain⟨x7,σ7,H7,I7,r7,q7⟩:=q7;exact⟨x7,σ7,H7,I7.unpinned,r7,q7⟩
abbrev R2:=V->V->Hp->VK->Prop
def OpR(X:Cx)(f:Value->Value->Sem Value)(r:R2):Prop:=∀(pins:LAO)(s:Shared)(σ:St)(H:Hp)(x y:V)(v u:Value)(Q:VK),Inv X pins σ H s->RelV x v->RelV y u->r x y H Q->wpAny (model X.prog X.w) X.A (f v u) (EP X pins σ Q) X.xe s
def UnR(X:Cx)(f:Value->Sem Value)(r:V->Hp->VK->Prop):Prop:=∀(pins:LAO)(s:Shared)(σ:St)(H:Hp)(x:V)(v:Value)(Q:VK),Inv X pins σ H s->RelV x v->r x H Q->wpAny (model X.prog X.w) X.A (f v) (EP X pins σ Q) X.xe s
def CallR(X:Cx)(f:Value)(r:List V->Hp->VK->Prop):Prop:=∀(pins:LAO)(s:Shared)(σ:St)(H:Hp)(xs:List V)(us:List Value)(Q:VK),Inv X pins σ H s->Vals xs us->r xs H Q->wpAny (model X.prog X.w) X.A (call f us) (EP X pins σ Q) X.xe s
def tOp(r:R2)(ta tb:TE):TE:=λσ H Q=>ta σ H λx H1=>tb σ H1 λy H2=>r x y H2 Q
def tUn(r:V->Hp->VK->Prop)(ta:TE):TE:=λσ H Q=>ta σ H λx H1=>r x H1 Q
def rI(C:Int->Int->Prop)(g:Int->Int->V):R2:=λx y H Q=>∃i j,x=.int i/\y=.int j/\C i j/\Q (g i j) H
def rI0(g:Int->Int->V):R2:=λx y H Q=>∃i j,x=.int i/\y=.int j/\Q (g i j) H
def rU(g:Int->V):V->Hp->VK->Prop:=λx H Q=>∃i,x=.int i/\Q (g i) H
theorem binT(ha:PE X a ta)(hb:PE X b tb){pins:LAO}{s:Shared}{σ:St}{H:Hp}{R:V->V->Hp->Prop}(I:Inv X pins σ H s)(h:ta σ H λx H1=>tb σ H1 λy H2=>R x y H2){Q:VP}{f:Value->Value->Sem Value}(hf:∀v u s2 x y H2,Inv X pins σ H2 s2->RelV x v->RelV y u->R x y H2->wpAny (model X.prog X.w) X.A (f v u) Q X.xe s2):
  wpAny (model X.prog X.w) X.A (eval a X.env) (λv s₁=>wpAny (model X.prog X.w) X.A (eval b X.env) (λu s₂=>wpAny (model X.prog X.w) X.A (f v u) Q X.xe s₂) X.xe s₁) X.xe s:=by
 refine thn (ha pins s σ H _ I h) λv s1 ⟨x,H1,I1,r1,q1⟩=>?_;refine thn (hb pins s1 σ H1 _ I1 q1) λu s2 ⟨y,H2,I2,r2,q2⟩=>?_;exact hf v u s2 x y H2 I2 r1 r2 q2
theorem Qpo(ho:OpR X (binaryOp op) r)(ha:PE X a ta)(hb:PE X b tb):PE X (.BinOp a op b pos) (tOp r ta tb):=by intro pins s σ H Q I h;exact wpAny_BinOp (binT ha hb I h λv u s2 x y H2 I2 rx ry q=>ho pins s2 σ H2 x y v u Q I2 rx ry q)
theorem Qpp(ho:UnR X (unaryOp op) r)(ha:PE X a ta):PE X (.UnaryOp op a pos) (tUn r ta):=by intro pins s σ H Q I h;exact UnaryOp_ (thn (ha pins s σ H _ I h) λv s1 ⟨x,H1,I1,r1,q1⟩=>ho pins s1 σ H1 x v Q I1 r1 q1)
theorem opI{f:Value->Value->Sem Value}{C:Int->Int->Prop}{g:Int->Int->Int}(rule:∀(i j:Int) (t u:Tok) (s:Shared) (Q:VP) (E:VP),C i j->Q (.int (g i j) s.toks) {s with toks:=s.toks+1}->wpAny (model X.prog X.w) X.A (f (.int i t) (.int j u)) Q E s):
  OpR X f (rI C λi j=>.int (g i j)):=by
 intro pins s σ H x y v u Q I rx ry h;obtain⟨i,j,rfl,rfl,hc,q⟩:=h;obtain⟨t,rfl⟩:=rx;obtain⟨t',rfl⟩:=ry;exact rule i j t t' s _ _ hc ⟨.int (g i j),H,I.tok _,⟨_,rfl⟩,q⟩
theorem opI0{f:Value->Value->Sem Value}{g:Int->Int->Int}(rule:∀(i j:Int) (t u:Tok) (s:Shared) (Q:VP) (E:VP),Q (.int (g i j) s.toks) {s with toks:=s.toks+1}->wpAny (model X.prog X.w) X.A (f (.int i t) (.int j u)) Q E s):
  OpR X f (rI0 λi j=>.int (g i j)):=by
 intro pins s σ H x y v u Q I rx ry h;obtain⟨i,j,rfl,rfl,q⟩:=h;obtain⟨t,rfl⟩:=rx;obtain⟨t',rfl⟩:=ry;exact rule i j t t' s _ _ ⟨.int (g i j),H,I.tok _,⟨_,rfl⟩,q⟩
theorem opB0{f:Value->Value->Sem Value}{g:Int->Int->Bool}(rule:∀(i j:Int) (t u:Tok) (s:Shared) (Q:VP) (E:VP),Q (.bool (g i j)) s->wpAny (model X.prog X.w) X.A (f (.int i t) (.int j u)) Q E s):
  OpR X f (rI0 λi j=>.bl (g i j)):=by
 intro pins s σ H x y v u Q I rx ry h;obtain⟨i,j,rfl,rfl,q⟩:=h;obtain⟨t,rfl⟩:=rx;obtain⟨t',rfl⟩:=ry;exact rule i j t t' s _ _ ⟨.bl (g i j),H,I,rfl,q⟩
def CDiv(i j:Int):Prop:=0<j/\j<1073741824
def CMul(i j:Int):Prop:=(-(2^64)<i/\i<2^64)\/(-(2^64)<j/\j<2^64)
theorem CMul.ok(h:CMul i j):IntMulOk i j:=by
 rcases h with⟨h1,h2⟩|⟨h1,h2⟩
 ·exact .of_left (intBits_le_64 h1 h2)
 ·exact .of_right (intBits_le_64 h1 h2)
theorem op_add:OpR X (binaryOp .Add) (rI0 λi j=>.int (i+j)):=opI0 λ_ _ _ _ _ _ _ q=>add_int q
theorem QnF:OpR X (binaryOp .Sub) (rI0 λi j=>.int (i-j)):=opI0 λ_ _ _ _ _ _ _ q=>sub_int q
theorem QnG:OpR X (binaryOp .Mult) (rI CMul λi j=>.int (i*j)):=opI λ_ _ _ _ _ _ _ hc q=>mul_int q hc.ok
theorem Ql0:OpR X (binaryOp .FloorDiv) (rI CDiv λi j=>.int (i/j)):=opI λi j _ _ _ _ _ hc q=>by have h1:(0:Int)<j:=hc.1;have h2:j<1073741824:=hc.2;exact floordiv_int (by omega) (by rw[Int.fdiv_eq_ediv_of_nonneg i (by omega)];exact q) (.inl (PyProof.noPylong_small (by omega)))
theorem QnH:OpR X (binaryOp .Mod) (rI (λ_ j=>0<j) λi j=>.int (i%j)):=opI λi j _ _ _ _ _ hc q=>by have h1:(0:Int)<j:=hc;exact mod_int' (by omega) (by rw[Int.fmod_eq_emod_of_nonneg i (by omega)];exact q)
theorem unI{f:Value->Sem Value}{g:Int->Int}(rule:∀(i:Int) (t:Tok) (s:Shared) (Q:VP) (E:VP),Q (.int (g i) s.toks) {s with toks:=s.toks+1}->wpAny (model X.prog X.w) X.A (f (.int i t)) Q E s):
  UnR X f (rU λi=>.int (g i)):=by
 intro pins s σ H x v Q I rx h;obtain⟨i,rfl,q⟩:=h;obtain⟨t,rfl⟩:=rx;exact rule i t s _ _ ⟨.int (g i),H,I.tok _,⟨_,rfl⟩,q⟩
theorem QnI:UnR X (unaryOp .USub) (rU λi=>.int (-i)):=unI λ_ _ _ _ _ q=>neg_int q
def scal:V->V->Bool
 |.non,.non=>true | .non,.int _=>true | .int _,.non=>true | .non,.bl _=>true | .bl _,.non=>true | .non,.str _=>true | .str _,.non=>true|.int _,.int _=>true | .bl _,.bl _=>true | .str _,.str _=>true | .byt _,.byt _=>true|.int _,.str _=>true | .str _,.int _=>true | .bl _,.str _=>true | .str _,.bl _=>true|_,_=>false
def rEq:R2:=λx y H Q=>scal x y=true/\Q (.bl (decide (x=y))) H
def rNe:R2:=λx y H Q=>scal x y=true/\Q (.bl (!decide (x=y))) H
theorem Qc3:decide (V.int i=V.int j)=(i==j):=by rw[RX];simp
theorem QhA:decide (V.bl i=V.bl j)=(i==j):=by rw[RX];simp
theorem Qc4:decide (V.str i=V.str j)=(i==j):=by rw[RX];simp
theorem QhB:decide (V.byt i=V.byt j)=(i.toList==j.toList):=by rw[RX];cases i;cases j;simp
theorem QH(I:Inv X pins σ H s)(q:Q (.bl k) H)(e:k=k'):EP X pins σ Q (.bool k') s:=by subst e;exact⟨.bl k,H,I,rfl,q⟩
theorem op_eq:OpR X (compareOp .Eq) rEq:=by
 intro pins s σ H x y v u Q I rx ry h;obtain⟨hs,q⟩:=h;cases x with
 |non=>
  cases rx;cases y with
  |non=>cases ry;exact PySem.EqNone.eq_none_none (QH I q (by simp))|bl j=>cases ry;exact PySem.EqNone.eq_none_bool (QH I q (by simp))|int j=>obtain⟨t',rfl⟩:=ry;exact PySem.EqNone.eq_none_int (QH I q (by simp))|str j=>obtain⟨t',rfl⟩:=ry;exact PySem.EqNone.eq_none_str (QH I q (by simp))|_=>exact absurd (show false=true from hs) Ui
 |bl i=>
  cases rx;cases y with
  |non=>cases ry;exact PySem.EqNone.eq_bool_none (QH I q (by simp))|bl j=>cases ry;exact eq_bool (QH I q QhA)|str j=>obtain⟨t',rfl⟩:=ry;exact PySem.EqMixed.eq_bool_str (QH I q (by simp))|_=>exact absurd (show false=true from hs) Ui
 |int i=>
  obtain⟨t,rfl⟩:=rx;cases y with
  |non=>cases ry;exact PySem.EqNone.eq_int_none (QH I q (by simp))|int j=>obtain⟨t',rfl⟩:=ry;exact eq_int (QH I q Qc3)|str j=>obtain⟨t',rfl⟩:=ry;exact PySem.EqMixed.eq_int_str (QH I q (by simp))|_=>exact absurd (show false=true from hs) Ui
 |str i=>
  obtain⟨t,rfl⟩:=rx;cases y with
  |non=>cases ry;exact PySem.EqNone.eq_str_none (QH I q (by simp))|bl j=>cases ry;exact PySem.EqMixed.eq_str_bool (QH I q (by simp))|int j=>obtain⟨t',rfl⟩:=ry;exact PySem.EqMixed.eq_str_int (QH I q (by simp))|str j=>obtain⟨t',rfl⟩:=ry;exact eq_str (QH I q Qc4)|_=>exact absurd (show false=true from hs) Ui
 |byt i=>
  obtain⟨t,rfl⟩:=rx;cases y with
  |byt j=>obtain⟨t',rfl⟩:=ry;exact eq_bytes (QH I q QhB)|_=>exact absurd (show false=true from hs) Ui
 |_=>cases y<;>exact absurd (show false=true from hs) Ui
theorem Qpq:OpR X (compareOp .NotEq) rNe:=by
 intro pins s σ H x y v u Q I rx ry h;obtain⟨hs,q⟩:=h;cases x with
 |non=>
  cases rx;cases y with
  |non=>cases ry;exact PySem.EqNone.ne_none_none (QH I q (by simp))|bl j=>cases ry;exact PySem.EqNone.ne_none_bool (QH I q (by simp))|int j=>obtain⟨t',rfl⟩:=ry;exact PySem.EqNone.ne_none_int (QH I q (by simp))|str j=>obtain⟨t',rfl⟩:=ry;exact PySem.EqNone.ne_none_str (QH I q (by simp))|_=>exact absurd (show false=true from hs) Ui
 |bl i=>
  cases rx;cases y with
  |non=>cases ry;exact PySem.EqNone.ne_bool_none (QH I q (by simp))|bl j=>cases ry;exact ne_bool (QH I q (RL not QhA))|str j=>obtain⟨t',rfl⟩:=ry;exact PySem.EqMixed.ne_bool_str (QH I q (by simp))|_=>exact absurd (show false=true from hs) Ui
 |int i=>
  obtain⟨t,rfl⟩:=rx;cases y with
  |non=>cases ry;exact PySem.EqNone.ne_int_none (QH I q (by simp))|int j=>obtain⟨t',rfl⟩:=ry;exact ne_int (QH I q (RL not Qc3))|str j=>obtain⟨t',rfl⟩:=ry;exact PySem.EqMixed.ne_int_str (QH I q (by simp))|_=>exact absurd (show false=true from hs) Ui
 |str i=>
  obtain⟨t,rfl⟩:=rx;cases y with
  |non=>cases ry;exact PySem.EqNone.ne_str_none (QH I q (by simp))|bl j=>cases ry;exact PySem.EqMixed.ne_str_bool (QH I q (by simp))|int j=>obtain⟨t',rfl⟩:=ry;exact PySem.EqMixed.ne_str_int (QH I q (by simp))|str j=>obtain⟨t',rfl⟩:=ry;exact ne_str (QH I q (RL not Qc4))|_=>exact absurd (show false=true from hs) Ui
 |byt i=>
  obtain⟨t,rfl⟩:=rx;cases y with
  |byt j=>obtain⟨t',rfl⟩:=ry;exact ne_bytes (QH I q (RL not QhB))|_=>exact absurd (show false=true from hs) Ui
 |_=>cases y<;>exact absurd (show false=true from hs) Ui
theorem QnJ:OpR X (compareOp .Lt) (rI0 λi j=>.bl (decide (i<j))):=opB0 λ_ _ _ _ _ _ _ q=>lt_int q
theorem QnK:OpR X (compareOp .LtE) (rI0 λi j=>.bl (decide (i<=j))):=opB0 λ_ _ _ _ _ _ _ q=>le_int q
theorem Qpr:OpR X (compareOp .Gt) (rI0 λi j=>.bl (decide (j<i))):=opB0 λ_ _ _ _ _ _ _ q=>gt_int q
theorem Qk1:OpR X (compareOp .Is) (λx y H Q=>y=.non/\Q (.bl (decide (x=.non))) H):=by
 intro pins s σ H x y v u Q I rx ry h;obtain⟨rfl,q⟩:=h;cases ry;refine is_none_gen (QH I q ?_);cases x<;>first
  | (cases rx;rfl)
  | (obtain⟨t,rfl⟩:=rx;rfl)
theorem Ql1:OpR X (compareOp .IsNot) (λx y H Q=>y=.non/\Q (.bl (!decide (x=.non))) H):=by
 intro pins s σ H x y v u Q I rx ry h;obtain⟨rfl,q⟩:=h;cases ry;refine isnot_none_gen (QH I q ?_);cases x<;>first
  | (cases rx;rfl)
  | (obtain⟨t,rfl⟩:=rx;rfl)
theorem OpR.or(h:OpR X f r)(h':OpR X f r'):OpR X f (λx y H Q=>r x y H Q\/r' x y H Q):=by
 intro pins s σ H x y v u Q I rx ry q;rcases q with q|q
 ·exact h pins s σ H x y v u Q I rx ry q
 ·exact h' pins s σ H x y v u Q I rx ry q
theorem Qak(b:Expr)(h:op≠.In:=by decide)(h2:op≠.NotIn:=by decide):behindInMarks op b=false:=by
 have e1:(op==CmpOp.In)=false:=by cases op<;>first|rfl|exact absurd rfl h
 have e2:(op==CmpOp.NotIn)=false:=by cases op<;>first|rfl|exact absurd rfl h2
 cases b<;>simp[behindInMarks,e1,e2]
theorem Ql2(ho:OpR X (compareOp op) r)(ha:PE X a ta)(hb:PE X b tb)(hm:behindInMarks op b=false):PE X (.Compare a [op] [b] pos) (tOp r ta tb):=by intro pins s σ H Q I h;exact wpAny_Compare1 (binT ha hb I h λv u s2 x y H2 I2 rx ry q=>ho pins s2 σ H2 x y v u Q I2 rx ry q) hm
def Qps(t:TE):TT:=λσ H Q=>t σ H λx H'=>∃k,x=.bl k/\Q k H'
theorem Ql3(ho:OpR X (compareOp op) r)(ha:PE X a ta)(hb:PE X b tb)(hm:behindInMarks op b=false):PT X (.Compare a [op] [b] pos) (Qps (tOp r ta tb)):=by
 intro pins s σ H Q I h;refine wpAny_isTrue_Compare1 (thn (ha pins s σ H _ I h) λv s1 ⟨x,H1,I1,r1,q1⟩=>thn (hb pins s1 σ H1 _ I1 q1) λu s2 ⟨y,H2,I2,r2,q2⟩=>
  thn (ho pins s2 σ H2 x y v u _ I2 r1 r2 q2) λc s3 ⟨z,H3,I3,r3,k,e,q3⟩=>?_) hm
 subst e;cases r3;exact To ⟨H3,I3,q3⟩
def Qk2(r r':R2)(ta tb tc:TE):TE:=λσ H Q=>ta σ H λx H1=>tb σ H1 λy H2=>r x y H2 λz H3=>∃k,z=.bl k/\(if k=true then tc σ H3 λw' H4=>r' y w' H4 Q else Q (.bl false) H3)
theorem QjX{op op':CmpOp}{r r':R2}(ho:OpR X (compareOp op) r)(ho':OpR X (compareOp op') r')(ha:PE X a ta)(hb:PE X b tb)(hc:PE X c tc)(hm:lastMarks [op,op'] [b,c]=false:=by with_unfolding_all rfl):PE X (.Compare a [op,op'] [b,c] pos) (Qk2 r r' ta tb tc):=by
 intro pins s σ H Q I h;refine Compare_chain (thn (ha pins s σ H _ I h) λv s1 ⟨x,H1,I1,r1,q1⟩=>chain_link (thn (hb pins s1 σ H1 _ I1 q1) λu s2 ⟨y,H2,I2,r2,q2⟩=>
  thn (ho pins s2 σ H2 x y v u _ I2 r1 r2 q2) λd s3 ⟨z,H3,I3,r3,k,e,q3⟩=>?_)) hm
 subst e;cases r3;refine To ?_;cases k with
 |false=>exact ite_ff ⟨.bl false,H3,I3,rfl,q3⟩|true=>exact ite_tt (chain_last (thn (hc pins s3 σ H3 _ I3 q3) λw' s4 ⟨z',H4,I4,r4,q4⟩=>ho' pins s4 σ H4 y z' u w' Q I4 r2 r4 q4))
theorem Qcu:(sizeLine:Nat)<2^63:=by rw[TU];decide
theorem QnL(r:Vals [x] us):∃u,us=[u]/\RelV x u:=by
 cases r with
 |cons r1 r2=>cases r2;exact⟨_,rfl,r1⟩
theorem Qpt(r:Vals [x,y] us):∃u w',us=[u,w']/\RelV x u/\RelV y w':=by
 cases r with
 |cons r1 r2=>
  cases r2 with
  |cons r3 r4=>cases r4;exact⟨_,_,rfl,r1,r3⟩
theorem QhC(hc:X.calm=true):CallR X (.builtin "min") (λxs H Q=>∃i j,xs=[.int i,.int j]/\Q (.int (if j<i then j else i)) H):=by
 intro pins s σ H xs us Q I r h;obtain⟨i,j,rfl,q⟩:=h;obtain⟨u,w',rfl,⟨t,rfl⟩,⟨t',rfl⟩⟩:=Qpt r;refine min_two_ints (I.ok.hd hc) λh' tk k=>⟨_,H,I.kept k,?_,q⟩;by_cases hj:j<i
 ·rw[Ue hj,Ue hj];exact⟨_,rfl⟩
 ·rw[Uf hj,Uf hj];exact⟨_,rfl⟩
structure ObjM(h:Heap)(x dx C:Addr)(mA:SOV):Prop where
 obj:h.get? x=some (instObj C dx)
 ns:h.Ns1 dx mA
 ne:dx≠x
theorem QhD{h:Heap}{dx:Addr}{mA:SOV}(n:h.Ns1 dx mA):∃od,h.get? dx=some od/\∀name,lookIn name od=some (mA name):=by
 obtain⟨o,es,ep,ho,hd,hk,_,hm⟩:=n;refine⟨o,ho,λname=>?_⟩;have e:=hm name;unfold nsFind findBy at e;rw[<-Array.find?_toList]at e;unfold lookIn;rw[hd];dsimp only;split
 ·rename_i y q;rw[q]at e;exact RL some e
 ·rename_i q;rw[q]at e;have a:es.toList.any (·.refKey)=false:=by rw[List.any_eq_false];intro y hy;obtain⟨z,t,hkey⟩:=hk y (Tq.mp hy);simp[DictEntry.refKey,hkey]
  have a':¬es.toList.any (·.refKey)=true:=by rw[a];exact Ui
  rw[Uf a'];exact RL some e
theorem ObjM.look(I:ObjM h x dx C mA):∃od,PySem.W.InstAt h x (instObj C dx) C (some od)/\∀name,lookIn name od=some (mA name):=
 let ⟨od,ho,hl⟩:=QhD I.ns
 ⟨od,⟨I.obj,rfl,rfl,ho⟩,hl⟩
section
variable{prog:Program}{w:World}{A:Around}{E:VP}{s:Shared}{K:Frag}{x dx C f:Addr}{mA:SOV}{name:Str}{v:Value}
theorem Ql4{expr:Bool}{Q:VP}(X:K.In s.heap)(I:ObjM s.heap x dx C mA)(hg:plainGet K C name=true)(hh:hasDictIn K C=true)(ha:findIn K (.ref C) name=some none)(hv:mA name=some v)(hv':handedIn v=true)(h:Q v {s with toks:=s.toks+1}):
  wpAny (model prog w) A (getAttr (.ref x) name expr) Q E s:=by
 obtain⟨od,J,hl⟩:=I.look;exact get_value X J (W9 hg).1 (findObj_own hh ha rfl (by rw[hl,hv])) hv' h
theorem QjY{pl:Sem Bool}{Q:Value×List Value->Shared->Prop}(X:K.In s.heap)(I:ObjM s.heap x dx C mA)(hg:plainGet K C name=true)(hf:findIn K (.ref C) name=some (some (.ref f)))(ht:isFn K (.ref f)=true)(hv:mA name=none)(h:Q (.ref f,[.ref x]) s):
  wpAny (model prog w) A (getMethod (.ref x) name pl) Q E s:=by
 obtain⟨od,J,hl⟩:=I.look;exact method_fn X J (W9 hg).1 (W9 hg).2 hf (TB.mp ht) (by show(lookIn name od).map (·.isSome)=some false;rw[hl,hv];rfl) h
theorem Ql5{ns:List Str}{Q:Unit->Shared->Prop}(X:K.In s.heap)(I:ObjM s.heap x dx C mA)(hs:findIn K (.ref C) "__setattr__"=some (some (.builtin "object.__setattr__")))(hp:plainOver K C=true)(ht:takerIn K C name=some none)(hh:hasDictIn K C=true)(hw:PySem.Within mA ns)(hsz:ns.length<=sizeLine)(h:∀h',ObjM h' x dx C (λy=>if y=name then some v else mA y)->Heap.SameBut dx s.heap h'->Q () {s with heap:=h',toks:=s.toks+2}):
  wpAny (model prog w) A (setAttr (.ref x) name v) Q E s:=by
 obtain⟨od,J,hl⟩:=I.look;refine set_plain X J hs (osa_open (s:={s with toks:=s.toks+1}) (r:=none) X J hp ht λb=>?_);obtain⟨cd,hc,hd'⟩:=any_some hh;have hx:s.heap.get? x=some ⟨.ref C,some dx,.plain,#[]⟩:=I.obj;refine Ua (Ub (Ua (Ua (wpAny_loadPart hx (Ua (Looks.here (s:={s with toks:=s.toks+1}) (looks_clsIn X hc) ?_))))));rw[hd'];refine Ub (a:=some dx) (Ua (Ub (Ua ?_)));refine wpAny_nsSet1 (s:={s with toks:=s.toks+1}) I.ns λh' hn2 hs2=>?_;obtain⟨oD,esD,epD,hoD,hdD,hcD⟩:=hn2.count (PySem.Within.cons name v hw);refine Ua (wpAny_lookBehind hoD (by rw[hdD];exact pastItsLine_dict (Uk hcD (by rw[UH];omega))) ?_);exact Ub (h _ ⟨(hs2.2 _ (Ne.symm I.ne)).trans I.obj,hn2,I.ne⟩ hs2)
theorem QjZ{R:Result->Shared->Prop}{vs:List Value}{kw:List (Str×Value)}(X:K.In s.heap)(hm:makesIn K C=true)(hi:findIn K (.ref C) "__init__"=some (some (.ref f)))(hf:typeIn K (.ref f)=some (.type "function"))(h:codeAny (model prog w) (A.under (.builtin "type.__call__" ⟨.ref C::vs,kw⟩)) (.call (.ref f) ⟨.ref (s.heap.objs.size+1)::vs,kw⟩) (InitBack (s.heap.objs.size+1) R)
   {s with heap:=(s.heap.push emptyDict).push (instObj C s.heap.objs.size)}):
  codeAny (model prog w) A (.call (.ref C) ⟨vs,kw⟩) R s:=by
 obtain⟨hh,g,d,t,os⟩:=s;exact make_core (makes_of X hm) (WX X hi) (λself=>bind_fn X self hf) (.inl rfl) h
end
def putF(f:Str)(v:V):List (Str×V)->List (Str×V)
 |[]=>[(f,v)]| (g,x)::r=>if g=f then (g,v)::r else (g,x)::putF f v r
theorem QbC(f g:Str)(v:V):∀fs:List (Str×V),(putF f v fs).lookup g=if g=f then some v else fs.lookup g
 |[]=>by
  show List.lookup g [(f,v)]=_;by_cases h:g=f
  ·have hb:(g==f)=true:=TB.mpr h;simp only[List.lookup,hb,Ue h]
  ·have hb:(g==f)=false:=Th.mpr h;simp only[List.lookup,hb,Uf h]
 | (k,x)::r=>by
  have ih:=QbC f g v r;rw[show putF f v ((k,x)::r)=(if k=f then (k,v)::r else (k,x)::putF f v r) from rfl];by_cases hk:k=f
  ·rw[Ue hk];by_cases h:g=k
   ·have hb:(g==k)=true:=TB.mpr h;simp only[List.lookup,hb,Ue (h.trans hk)]
   ·have hb:(g==k)=false:=Th.mpr h;simp only[List.lookup,hb,Uf (λe:g=f=>h (e.trans hk.symm))]
  ·rw[Uf hk];by_cases h:g=k
   ·have hb:(g==k)=true:=TB.mpr h;simp only[List.lookup,hb,Uf (λe:g=f=>hk (h.symm.trans e))]
   ·have hb:(g==k)=false:=Th.mpr h;simp only[List.lookup,hb];exact ih
theorem QbD(f:Str)(v:V):∀fs:List (Str×V),f∈(putF f v fs).map (·.1)/\∀g,g∈fs.map (·.1)->g∈(putF f v fs).map (·.1)
 |[]=>⟨by simp[putF],λg h=>by simp at h⟩| (k,x)::r=>by
  obtain⟨i1,i2⟩:=QbD f v r;rw[show putF f v ((k,x)::r)=(if k=f then (k,v)::r else (k,x)::putF f v r) from rfl];by_cases hk:k=f
  ·rw[Ue hk];subst hk;exact⟨by simp,λg h=>by simpa using h⟩
  ·rw[Uf hk];refine⟨?_,λg h=>?_⟩
   ·rw[UO];exact Uz _ i1
   ·rw[UO]at h ⊢;rcases UG.mp h with e|e
    ·exact UG.mpr (.inl e)
    ·exact Uz _ (i2 g e)
theorem QbE(f:Str)(v:V):∀fs:List (Str×V),(putF f v fs).length<=fs.length+1
 |[]=>by simp[putF]
 | (k,x)::r=>by
  have ih:=QbE f v r;rw[show putF f v ((k,x)::r)=(if k=f then (k,v)::r else (k,x)::putF f v r) from rfl];by_cases hk:k=f
  ·rw[Ue hk,UH,UH];omega
  ·rw[Uf hk,UH,UH];omega
theorem RelO.some_of(r:RelO (some v) o):∃u,o=some u/\RelV v u:=by
 cases o with
 |none=>exact(show False from r).elim|some u=>exact⟨u,rfl,r⟩
theorem RelO.none_of(r:RelO none o):o=none:=by
 cases o with
 |none=>rfl|some u=>exact(show False from r).elim
theorem QhE(r:RelV v u):handedIn u=true:=by
 cases v with
 |non=>cases (show u=Value.none from r);rfl|bl b=>cases (show u=Value.bool b from r);rfl|int i=>obtain⟨t,e⟩:=(show ∃t,u=Value.int i t from r);cases e;rfl|str x=>obtain⟨t,e⟩:=(show ∃t,u=Value.str x t from r);cases e;rfl|byt b=>obtain⟨t,e⟩:=(show ∃t,u=Value.bytes b t from r);cases e;rfl|flt b=>obtain⟨t,e⟩:=(show ∃t,u=Value.float b t from r);cases e;rfl|ref a=>cases (show u=Value.ref a from r);rfl|ty n=>cases (show u=Value.type n from r);rfl
theorem Qc5(hok:HOk P w H h)(e:H a=some (.ins C dx fs)):∃mA,ObjM h a dx C mA/\(∀f,RelO (fs.lookup f) (mA f))/\PySem.Within mA (fs.map (·.1))/\fs.length<=1000/\H dx=some (.own a):=by obtain⟨d,z,ne,ob,mA,n,r,q⟩:=(show ObjOk P w H h a (.ins C dx fs) from hok a _ e);exact⟨mA,⟨ob,n,ne⟩,r,q,z,d⟩
structure Cls(K:Frag)(C:Addr):Prop where
 pg:plainGet K C Str.empty=true
 hd:hasDictIn K C=true
 po:plainOver K C=true
 sa:findIn K (.ref C) "__setattr__"=some (some (.builtin "object.__setattr__"))
theorem Cls.get{K:Frag}{C:Addr}(c:Cls K C)(f:Str):plainGet K C f=true:=c.pg
def NoAttr(K:Frag)(C:Addr)(f:Str):Prop:=findIn K (.ref C) f=some none
theorem NoAttr.taker{K:Frag}{C:Addr}{f:Str}(n:NoAttr K C f):takerIn K C f=some none:=by unfold takerIn;rw[show findIn K (.ref C) f=some none from n];rfl
structure Meth(K:Frag)(C:Addr)(m:Str)(f:Addr):Prop where
 at_:findIn K (.ref C) m=some (some (.ref f))
 fn:isFn K (.ref f)=true
 kp:keepIn K (.ref f)=true
theorem QgE{b:Bool}{Q:VP}(I:Inv X pins σ H s)(e:H a=some (.ins C dx fs))(c:Cls X.K C)(n:NoAttr X.K C f)(l:fs.lookup f=some v)(h:∀u s',Inv X pins σ H s'->RelV v u->Q u s'):wpAny (model X.prog X.w) A (getAttr (.ref a) f b) Q E s:=by obtain⟨mA,O,r,_,_,_⟩:=Qc5 I.hok e;obtain⟨u,hu,ru⟩:=RelO.some_of (v:=v) (o:=mA f) (by rw[<-l];exact r f);exact Ql4 I.kIn O (c.get f) c.hd n hu (QhE ru) (h u _ (I.tok _) ru)
theorem Qcv{m:Str}{g:Addr}{pl:Sem Bool}{Q:Value×List Value->Shared->Prop}(I:Inv X pins σ H s)(e:H a=some (.ins C dx fs))(c:Cls X.K C)(k:Meth X.K C m g)(l:fs.lookup m=none)(h:Q (.ref g,[.ref a]) s):wpAny (model X.prog X.w) A (getMethod (.ref a) m pl) Q E s:=by obtain⟨mA,O,r,_,_,_⟩:=Qc5 I.hok e;have hn:mA m=none:=RelO.none_of (by rw[<-l];exact r m);exact QjY I.kIn O (c.get m) k.at_ k.fn hn h
theorem setattr_ok{y:V}{u:Value}{Q:Unit->Shared->Prop}(I:Inv X pins σ H s)(e:H a=some (.ins C dx fs))(c:Cls X.K C)(n:NoAttr X.K C f)(hl:fs.length<1000)(ry:RelV y u)(h:∀s',Inv X pins σ (upd H a (.ins C dx (putF f y fs))) s'->Q () s'):wpAny (model X.prog X.w) A (setAttr (.ref a) f u) Q E s:=by
 obtain⟨mA,O,r,wi,_,ho⟩:=Qc5 I.hok e;have hz:(fs.map (·.1)).length<=sizeLine:=by rw[Ud,TU];omega
 refine Ql5 I.kIn O c.sa c.po n.taker c.hd wi hz λh' O' sb=>h _ ?_;have hd:∃o,h'.get? dx=some o:=let ⟨o,_,_,e',_⟩:=O'.ns;⟨o,e'⟩;refine I.write (x:=a) (e:=dx) (by rw[e];exact True.intro) (.inr ho) (λb q hb z=>(sb.2 b hb).trans z) hd ?_;refine⟨by rw[Qo O.ne];exact ho,?_,O.ne,O'.obj,_,O'.ns,λg=>?_,λg hg=>?_⟩
 ·have:=QbE f y fs;omega
 ·show RelO ((putF f y fs).lookup g) (if g=f then some u else mA g);rw[QbC];by_cases q:g=f
  ·rw[Ue q,Ue q];exact ry
  ·rw[Uf q,Uf q];exact r g
 ·by_cases q:g=f
  ·rw[q];exact(QbD f y fs).1
  ·refine(QbD f y fs).2 g (wi g λz=>hg ?_);show(if g=f then some u else mA g)=none;rw[Uf q];exact z
theorem Inv.made(I:Inv X pins σ H s):Inv X pins σ (upd (upd H s.heap.objs.size (.own (s.heap.objs.size+1))) (s.heap.objs.size+1) (.ins C s.heap.objs.size []))
  {s with heap:=(s.heap.push emptyDict).push (instObj C s.heap.objs.size)}:=by
 have e1:(s.heap.push emptyDict).get? s.heap.objs.size=some emptyDict:=Uy s.heap rfl;have e2:((s.heap.push emptyDict).push (instObj C s.heap.objs.size)).get? (s.heap.objs.size+1)=some (instObj C s.heap.objs.size):=by have:=Uy (s.heap.push emptyDict) (o:=instObj C s.heap.objs.size) rfl;rwa[Rg]at this
 have e3:(s.heap.push emptyDict).Ns s.heap.objs.size (λ_=>none):=⟨emptyDict,#[],_,e1,rfl,(λe he=>absurd he (by simp)),λ_=>rfl⟩;have I1:=I.laid (a:=s.heap.objs.size) (o:=.own (s.heap.objs.size+1)) (h':=s.heap.push emptyDict) (t':=s.toks) (λb u q=>Uc _ q) (Ug _) ⟨_,e1⟩;refine I1.laid (a:=s.heap.objs.size+1) (o:=.ins C s.heap.objs.size []) (t':=s.toks) (λb u q=>Uc _ q) (WH (Rg _ _)) ?_;have ne:s.heap.objs.size≠s.heap.objs.size+1:=UR (T6 _);refine⟨by rw[Qo ne,Qk],TC _,ne,e2,λ_=>none,(Heap.Ns1.of_empty e3).at λo q=>Uc _ q,λ_=>True.intro,λy hy=>absurd rfl hy⟩
theorem Ql6{prog:Program}{w:World}{env:Env}{e:Expr}{f:Str}{pos:Pos}{s:Shared}{Q:VP}(hb:attributeBase e f env (eval e env)=eval e env)(h:wpAny (model prog w) A (eval e env) (λo s₁=>wpAny (model prog w) A (getAttr o f true) Q E s₁) E s):wpAny (model prog w) A (eval (.Attribute e f pos) env) Q E s:=Attribute_any_ h (by rw[arm_eval_Attribute,hb])
def tFld(K:Frag)(ta:TE)(f:Str):TE:=λσ H Q=>ta σ H λx H1=>∃a C dx fs v,x=.ref a/\H1 a=some (.ins C dx fs)/\Cls K C/\NoAttr K C f/\fs.lookup f=some v/\Q v H1
def sFld(K:Frag)(ta tv:TE)(f:Str):TS:=λD σ H=>tv σ H λy H1=>ta σ H1 λx H2=>∃a C dx fs,x=.ref a/\H2 a=some (.ins C dx fs)/\Cls K C/\NoAttr K C f/\fs.length<1000/\D.nx σ (upd H2 a (.ins C dx (putF f y fs)))
theorem QnM(he:PE X e ta)(hb:attributeBase e f X.env (eval e X.env)=eval e X.env):PE X (.Attribute e f pos) (tFld X.K ta f):=by intro pins s σ H Q I h;refine Ql6 hb (thn (he pins s σ H _ I h) λu s1 ⟨x,H1,I1,rx,a,C,dx,fs,v,ex,ea,c,n,l,q⟩=>?_);subst ex;obtain rfl:u=Value.ref a:=rx;exact QgE I1 ea c n l λu' s2 I2 ru=>⟨v,H1,I2,ru,q⟩
theorem QnN(ha:PE X o ta)(hv:PE X value tv)(hs:swapsWith value (some (.Attribute o f pos')) pos.line X.env=pure false):PS X (.Assign [.Attribute o f pos'] value pos) (sFld X.K ta tv f):=by intro pins s σ H D I h;refine plainObj_wpAny_Assign_Attribute (thn (hv pins s σ H _ I h) λu s1 ⟨y,H1,I1,ry,q⟩=>thn (ha pins s1 σ H1 _ I1 q) λov s2 ⟨x,H2,I2,rx,a,C,dx,fs,ex,ea,c,n,l,q2⟩=>?_) hs;subst ex;obtain rfl:ov=Value.ref a:=rx;exact setattr_ok I2 ea c n l ry λs3 I3=>⟨σ,_,I3,q2⟩
inductive TyOf(K:Frag)(H:Hp):V->Value->Prop where
 |non:TyOf K H .non (.type "NoneType")
 |bl (x:Bool):TyOf K H (.bl x) (.type "bool")
 |int (i:Int):TyOf K H (.int i) (.type "int")
 |str (x:Str):TyOf K H (.str x) (.type "str")
 |flt (x:UInt64):TyOf K H (.flt x) (.type "float")
 |lst {a:Addr} {xs:List V} (e:H a=some (.lst xs)):TyOf K H (.ref a) (.type "list")
 |frz {a:Addr} {o:Obj} {xs:List V} (e:H a=some (.frz o (.lst xs))):TyOf K H (.ref a) (.type "list")
 |tup {a:Addr} {xs:List V} (e:H a=some (.tup xs)):TyOf K H (.ref a) (.type "tuple")
 |dK {a:Addr} {kvs:List (Key×V)} (e:H a=some (.dK kvs)):TyOf K H (.ref a) (.type "dict")
 |dT {a:Addr} {kvs:List (List Key×V)} (e:H a=some (.dT kvs)):TyOf K H (.ref a) (.type "dict")
 |ins {a C dx:Addr} {fs:List (Str×V)} (e:H a=some (.ins C dx fs)) (cl:Cls K C) (ha:findIn K (.ref C) "__class__"=some (some (.builtin "object.__class__")))
   (hn:specialIn K (.builtin "object.__class__") "__get__"=some (some (.builtin "getset_descriptor.__get__"))) (htk:takesIn K (.builtin "object.__class__")=some true)
   (hm:mroIn K C (.type "object")=some true):TyOf K H (.ref a) (.ref C)
theorem Yk(I:Inv X pins σ H s)(rx:RelV x u)(ty:TyOf X.K H x t)(e:kitOne X.K t c=some b)(h:∀tk,Q (.bool b) {s with toks:=tk}):
  wpAny (model X.prog X.w) A (call (.builtin "isinstance") [u,c]) Q E s:=by
 cases ty with
 |non=>cases (show u=Value.none from rx);exact U8 kitx_none I.kIn True.intro e (λz=>nomatch z) h|bl y=>cases (show u=Value.bool y from rx);exact U8 kitx_bool I.kIn True.intro e (λz=>nomatch z) h|int i=>obtain⟨t,q⟩:=(show ∃t,u=Value.int i t from rx);cases q;exact U8 kitx_int I.kIn True.intro e (λz=>nomatch z) h|str y=>obtain⟨t,q⟩:=(show ∃t,u=Value.str y t from rx);cases q;exact U8 kitx_str I.kIn True.intro e (λz=>nomatch z) h|flt y=>obtain⟨t,q⟩:=(show ∃t,u=Value.float y t from rx);cases q;exact U8 kitx_float I.kIn True.intro e (λz=>nomatch z) h|@lst a xs ea =>cases (show u=Value.ref a from rx);obtain⟨_,_,n,_,h1⟩:=(show ObjOk X.prog X.w H s.heap a (.lst xs) from I.hok a _ ea);exact U8 Bw I.kIn ⟨_,h1,rfl⟩ e (λz=>nomatch z) h|@frz a ob xs ea =>cases (show u=Value.ref a from rx);obtain⟨_,_,_,n,_,h1⟩:=(show ObjOk X.prog X.w H s.heap a (.frz ob (.lst xs)) from I.hok a _ ea);exact U8 Bw I.kIn ⟨_,h1,rfl⟩ e (λz=>nomatch z) h|@tup a xs ea =>cases (show u=Value.ref a from rx);obtain⟨_,_,_,p⟩:=(show ObjOk X.prog X.w H s.heap a (.tup xs) from I.hok a _ ea);obtain⟨o,h1,h2,_⟩:=p;exact U8 kitx_tuple I.kIn ⟨o,h1,h2⟩ e (λz=>nomatch z) h|@dK a kvs ea =>cases (show u=Value.ref a from rx);obtain⟨_,_,vs,_,p⟩:=(show ObjOk X.prog X.w H s.heap a (.dK kvs) from I.hok a _ ea);obtain⟨o,es,ep,h1,h2,_⟩:=p;exact U8 kitx_dict I.kIn ⟨o,h1,h2.1⟩ e (λz=>nomatch z) h|@dT a kvs ea =>cases (show u=Value.ref a from rx);obtain⟨_,_,xs,_,o,es,ep,h1,h2,_⟩:=(show ObjOk X.prog X.w H s.heap a (.dT kvs) from I.hok a _ ea);exact U8 kitx_dict I.kIn ⟨o,h1,h2.1⟩ e (λz=>nomatch z) h|@ins a C dx fs ea cl ha hn htk hm =>cases (show u=Value.ref a from rx);obtain⟨mA,O,_⟩:=Qc5 I.hok ea;obtain⟨od,J,_⟩:=O.look;exact U8 (kitx_own (cl.get _) cl.hd ha hn htk hm) I.kIn J e (λz=>nomatch z) h
structure Room(k:Nat)(A:Around):Prop where
 hd:A.handled=none
 dp:A.depth+3*k+5<recursionLimit
 un:A.units+16*k+200<cLine
theorem Room.mono(r:Room k A)(h:j<=k):Room j A:=⟨r.hd,by have:=r.dp;omega,by have:=r.un;omega⟩
theorem Room.deeper(r:Room (k+1) A)(env:Env):Room k (A.deeper env):=⟨r.hd,by have:=r.dp;show A.depth+1+3*k+5<_;omega,by have:=r.un;show A.units+3+16*k+200<_;omega⟩
theorem Room.in1(r:Room (k+1) A):Room k A.in1:=⟨r.hd,by have:=r.dp;show A.depth+3*k+5<_;omega,by have:=r.un;show A.units+1+16*k+200<_;omega⟩
theorem QgF{A:Around}{C:Addr}{us:List Value}{kw:List (Str×Value)}:(A.under (.builtin "type.__call__" ⟨.ref C::us,kw⟩)).depth=A.depth+1:=by first|rfl|simp[Around.under,Code.weight,Code.isCreation,Code.isGuard,Code.isCaller,Code.frames,Code.isFrame,guardIds]
theorem QgG{A:Around}{C:Addr}{us:List Value}{kw:List (Str×Value)}:(A.under (.builtin "type.__call__" ⟨.ref C::us,kw⟩)).units=A.units+1:=by first|rfl|simp[Around.under,Code.cUnits,Code.frames,Code.isFrame]
theorem Room.make(r:Room (k+1) A)(C:Addr)(us:List Value)(kw:List (Str×Value)):Room k (A.under (.builtin "type.__call__" ⟨.ref C::us,kw⟩)):=⟨r.hd,by have:=r.dp;rw[QgF];omega,by have:=r.un;rw[QgG];omega⟩
theorem Room.depth(r:Room k A):A.depth<recursionLimit:=by have:=r.dp;omega
theorem Room.units(r:Room k A):A.units+64<cLine:=by have:=r.un;omega
def tNil:TA:=λ_ H Q=>Q [] H
def Qpu(ta:TE)(tr:TA):TA:=λσ H Q=>ta σ H λx H1=>tr σ H1 λxs H2=>Q (x::xs) H2
theorem Qcw:PA X [] tNil:=λ_ _ _ _ H Q I h=>Calls.spliced_nil ⟨[],H,I,.nil,h⟩
theorem Yl(ha:PE X e te)(hr:PA X es t)(hs:starEach (e::es) X.env=(false,eval e X.env)::starEach es X.env:=by rfl):PA X (e::es) (Qpu te t):=by intro pos pins s σ H Q I h;rw[hs];show wpAny _ _ (spliced ((false,eval e X.env)::backTo pos (starEach es X.env))) _ _ s;refine Calls.spliced_cons (thn (ha pins s σ H _ I h) λu s1 ⟨x,H1,I1,r1,q1⟩=>?_);exact thn (hr pos pins s1 σ H1 _ I1 q1) λus s2 ⟨xs,H2,I2,r2,q2⟩=>⟨x::xs,H2,I2,.cons r1 r2,q2⟩
def tTup(t:TA):TE:=λσ H Q=>t σ H λxs H1=>xs.length<=sizeLine/\∀p,H1 p=none->Q (.ref p) (upd H1 p (.tup xs))
def tLst(t:TA):TE:=λσ H Q=>t σ H λxs H1=>xs.length<=sizeLine/\∀p,H1 p=none->Q (.ref p) (upd H1 p (.lst xs))
theorem Qk3(h:PA X es t):PE X (.Tuple es x1 pos) (tTup t):=by intro pins s σ H Q I hq;refine wpAny_Tuple_spliced (thn (h pos pins s σ H _ I hq) λus s1 ⟨xs,H1,I1,r,z,q⟩=>⟨by rw[<-r.length];exact z,?_⟩);have hf:H1 s1.heap.objs.size=none:=I1.hok.fresh (Ug _);refine⟨.ref s1.heap.objs.size,upd H1 s1.heap.objs.size (.tup xs),I1.laid (t':=s1.toks) (λb u e=>Uc _ e) (Ug _) ?_,rfl,q _ hf⟩;exact⟨z,us,r,⟨_,Uy _ rfl,rfl,_,rfl⟩⟩
theorem QnO(h:PA X es t):PE X (.List es pos) (tLst t):=by intro pins s σ H Q I hq;refine wpAny_List_spliced (thn (h pos pins s σ H _ I hq) λus s1 ⟨xs,H1,I1,r,z,q⟩=>⟨by rw[<-r.length];exact z,?_⟩);have hf:H1 s1.heap.objs.size=none:=I1.hok.fresh (Ug _);refine⟨.ref s1.heap.objs.size,upd H1 s1.heap.objs.size (.lst xs),I1.laid (t':=s1.toks) (λb u e=>Uc _ e) (Ug _) ?_,rfl,q _ hf⟩;exact⟨z,us,0,r,Uy _ rfl⟩
abbrev Sp:=List V->Hp->VK->XK->Prop
abbrev CXT:=List Env->Hp->Shared->XK->Value->Shared->Prop
structure Env0(P:Program)(w:World)(K:Frag)(mg:SOV)(base:Heap)(A:Around)(outer:List Env)(s:Shared)(H:Hp):Prop where
 frames:A.frames=some outer
 mod:Mod K mg base
 bs:∀b o,base.get? b=some o->s.heap.get? b=some o/\H b=none
 bsz:base.objs.size<=s.heap.objs.size
 funs:s.heap.FunFrames base outer
 frf:∀b∈frs outer,H b=none
 hok:HOk P w H s.heap
 bare:AllBare s.gens
def CE(outer:List Env)(P:Program)(w:World)(H:Hp)(s:Shared)(Q:VK)(u:Value)(s':Shared):Prop:=∃v H',s'.os=s.os/\AllBare s'.gens/\Un (frs outer) [] H H' s.heap s'.heap/\HOk P w H' s'.heap/\RelV v u/\Q v H'
def CR(CX:CXT)(outer:List Env)(P:Program)(w:World)(H:Hp)(s:Shared)(Q:VK)(E:XK)(r:Result)(s':Shared):Prop:=
 match r with
 |.ok (.ret u)=>CE outer P w H s Q u s'|.ok _=>False|.error e=>CX outer H s E e s'
structure FnOk(P:Program)(w:World)(K:Frag)(mg:SOV)(base:Heap)(CX:CXT)(k:Nat)(f:Addr)(fd:FuncData)(ps:List Str)(sp:Sp):Prop where
 len:∀vs H Q E,sp vs H Q E->vs.length=ps.length
 run:∀(A:Around)(outer:List Env)(s:Shared)(H:Hp)(args:Args)(us:List Value)(vs:List V)(Q:VK)(E:XK),Room k A->Env0 P w K mg base A outer s H->BindsTo s fd args (ps.zip us)->Vals vs us->sp vs H Q E->codeAny (model P w) A (.call (.ref f) args) (CR CX outer P w H s Q E) s
theorem FnOk.mono{P:Program}{w:World}{K:Frag}{mg:SOV}{base:Heap}{CX:CXT}{j k:Nat}{f:Addr}{fd:FuncData}{ps:List Str}{sp:Sp}(F:FnOk P w K mg base CX j f fd ps sp)(h:j<=k):
  FnOk P w K mg base CX k f fd ps sp:=⟨F.len,λA outer s H args us vs Q E hr=>F.run A outer s H args us vs Q E (hr.mono h)⟩
theorem FnOk.imp{P:Program}{w:World}{K:Frag}{mg:SOV}{base:Heap}{CX:CXT}{k:Nat}{f:Addr}{fd:FuncData}{ps:List Str}{sp sp':Sp}(F:FnOk P w K mg base CX k f fd ps sp)(h:∀vs H Q E,sp' vs H Q E->sp vs H Q E):FnOk P w K mg base CX k f fd ps sp':=⟨λvs H Q E q=>F.len vs H Q E (h _ _ _ _ q),λA outer s H args us vs Q E hr he hb hv hs=>F.run A outer s H args us vs Q E hr he hb hv (h _ _ _ _ hs)⟩
theorem Env0.make{P:Program}{w:World}{K:Frag}{mg:SOV}{base:Heap}{A:Around}{outer:List Env}{s:Shared}{H:Hp}(e:Env0 P w K mg base A outer s H)(C:Addr)(us:List Value)(kw:List (Str×Value)):
  Env0 P w K mg base (A.under (.builtin "type.__call__" ⟨.ref C::us,kw⟩)) outer s H:=⟨by first|exact e.frames|(simpa[Around.under,Code.envs,Code.isFrame,pushEnvs]using e.frames),e.mod,e.bs,e.bsz,e.funs,e.frf,e.hok,e.bare⟩
theorem Env0.in1{P:Program}{w:World}{K:Frag}{mg:SOV}{base:Heap}{A:Around}{outer:List Env}{s:Shared}{H:Hp}(e:Env0 P w K mg base A outer s H):
  Env0 P w K mg base A.in1 outer s H:=⟨e.frames,e.mod,e.bs,e.bsz,e.funs,e.frf,e.hok,e.bare⟩
theorem Inv.env0(I:Inv X pins σ H s):Env0 X.prog X.w X.K X.mg X.base X.A X.stack s H:=⟨I.ok.frames,I.ok.mod,I.bs,Uk I.ok.bsz I.sz,I.stack,I.stkFree,I.hok,I.bare⟩
theorem Inv.after(I:Inv X pins σ H s)(h:CE X.stack X.prog X.w H s Q u s'):EP X pins σ Q u s':=by obtain⟨v,H',os,bare,un,hok,r,q⟩:=h;obtain⟨hh,g,d,t,os'⟩:=s';obtain rfl:os'=s.os:=os;exact⟨v,H',I.call (h':=hh) (g':=g) (d':=d) (t':=t) (ch:=[]) un hok bare (λb z=>absurd z (by simp)),r,q⟩
def Binds(K:Frag)(fd:FuncData)(ps:List Str)(ds:List Value):Prop:=∀(s:Shared)(us:List Value),K.In s.heap->(us++ds).length=ps.length->BindsTo s fd ⟨us,[]⟩ (ps.zip (us++ds))
theorem Binds.all{K:Frag}{fd:FuncData}{ps:List Str}(h:∀us:List Value,us.length=ps.length->bindArgs fd ⟨us,[]⟩=pure (ps.zip us)):Binds K fd ps []:=λs us _ hl=>by rw[UY]at hl ⊢;exact .of_eq (h us hl)
structure Mk(K:Frag)(C f:Addr):Prop where
 makes:makesIn K C=true
 init:findIn K (.ref C) "__init__"=some (some (.ref f))
 fn:isFn K (.ref f)=true
 kp:keepIn K (.ref C)=true
structure FnScope(N P:List Str)(sc:Scope):Prop where
 kind:sc.kind=.function
 co:sc.isCoroutine=false
 gen:sc.isGenerator=false
 nd:N.Nodup
 pre:N.take P.length=P
 par:∀x∈P,sc.names.lookup x=some .local\/sc.names.lookup x=some .cell
 nofree:∀y∈sc.names,y.2≠.free
theorem Qd7{kindOf:Str->Option NameKind}{x:Str}:∀{binds:List (Str×Value)}{m:SOV},(∀v,(x,v)∉binds)->bindL kindOf binds m x=m x
 |[],_,_=>rfl| (n,v)::r,m,h=>by
  unfold bindL;rw[Qd7 λw hw=>h w (Uz _ hw)];split
  ·have:x≠n:=by rintro rfl;exact h v UD
   simp[this]
  ·rfl
theorem Qd8{kindOf:Str->Option NameKind}{x:Str}:∀{binds:List (Str×Value)}{m:SOV},(∀v,(x,v)∉binds)->bindC kindOf binds m x=m x
 |[],_,_=>rfl| (n,v)::r,m,h=>by
  unfold bindC;rw[Qd8 λw hw=>h w (Uz _ hw)];split
  ·rfl
  ·have:x≠n:=by rintro rfl;exact h v UD
   simp[this]
theorem Qd9{kindOf:Str->Option NameKind}{x:Str}{v:Value}:∀{P:List Str}{vs:List Value}{i:Nat}{m:SOV},P.Nodup->P[i]?=some x->vs[i]?=some v->kindOf x=some .local->bindL kindOf (P.zip vs) m x=some v
 |[],_,_,_,_,h,_,_=>by simp at h
 |_::_,[],_,_,_,_,h,_=>by simp at h
 |p::P,w::vs,0,m,nd,h1,h2,hk=>by simp at h1 h2;subst h1;subst h2;show bindL kindOf ((p,w)::P.zip vs) m p=_;unfold bindL;rw[Qd7 λv hv=>(T0.mp nd).1 (BZ hv).1,Ue hk];simp
 |p::P,w::vs,i+1,m,nd,h1,h2,hk=>by show bindL kindOf ((p,w)::P.zip vs) m x=_;unfold bindL;exact Qd9 (i:=i) (T0.mp nd).2 (by simpa using h1) (by simpa using h2) hk
theorem Qea{kindOf:Str->Option NameKind}{x:Str}{v:Value}:∀{P:List Str}{vs:List Value}{i:Nat}{m:SOV},P.Nodup->P[i]?=some x->vs[i]?=some v->kindOf x≠some .local->bindC kindOf (P.zip vs) m x=some v
 |[],_,_,_,_,h,_,_=>by simp at h
 |_::_,[],_,_,_,_,h,_=>by simp at h
 |p::P,w::vs,0,m,nd,h1,h2,hk=>by simp at h1 h2;subst h1;subst h2;show bindC kindOf ((p,w)::P.zip vs) m p=_;unfold bindC;rw[Qd8 λv hv=>(T0.mp nd).1 (BZ hv).1,Uf hk];simp
 |p::P,w::vs,i+1,m,nd,h1,h2,hk=>by show bindC kindOf ((p,w)::P.zip vs) m x=_;unfold bindC;exact Qea (i:=i) (T0.mp nd).2 (by simpa using h1) (by simpa using h2) hk
def start(N:List Str)(vs:List V):St:=vs.map some++List.replicate (N.length-vs.length) none
def cxOf(CX:CXT)(P:Program)(w:World)(K:Frag)(mg:SOV)(base:Heap)(N:List Str)(qual:Str)(scope:Scope)(f:Addr)(cd:Value)(A:Around)(outer:List Env)(s:Shared)(H:Hp)(E:XK):Cx where
 prog:=P
 w:=w
 K:=K
 mg:=mg
 base:=base
 A:=A.deeper (envOfC qual scope s.heap.objs.size f cd)
 N:=N
 s₀:=s
 H₀:=H
 env:=envOfC qual scope s.heap.objs.size f cd
 outer:=outer
 stack:=envOfC qual scope s.heap.objs.size f cd::outer
 ex:=[]
 calm:=true
 fn:=λ_=>true
 pn:=[]
 xe:=λe s'=>wpAny (model P w) (A.deeper (envOfC qual scope s.heap.objs.size f cd)) (leaving (envOfC qual scope s.heap.objs.size f cd) e) (λ_ s''=>CX outer H s E e s'') (λe' s''=>CX outer H s E e' s'') s'
theorem QfN{sc:Scope}{n:Nat}{x:Str}(h:sc.names.lookup x=some .cell):∃c,(cellsFrom n sc.names []).lookup x=some c:=by have q:=BN sc.names n [] (.inl h);exact T8.mp q
theorem QhF{CX:CXT}{P:Program}{w:World}{K:Frag}{mg:SOV}{base:Heap}{N ps:List Str}{qual:Str}{scope:Scope}{f:Addr}{cd:Value}{A:Around}{outer:List Env}{s s1:Shared}{H:Hp}{E:XK}{us:List Value}{vs:List V}(S:FnScope N ps scope)(hd:A.handled=none)(e0:Env0 P w K mg base A outer s H)(hl:vs.length=ps.length)(r:Vals vs us)(x:InCallC s s.heap.objs.size (bindL (envOfC qual scope s.heap.objs.size f cd).kindOf (ps.zip us) λ_=>none) (cellsFrom (s.heap.objs.size+1) scope.names []) (bindC (envOfC qual scope s.heap.objs.size f cd).kindOf (ps.zip us) λ_=>none) s1):
  Inv (cxOf CX P w K mg base N qual scope f cd A outer s H E) [] (start N vs) H s1:=by
 have hpl:ps.length<=N.length:=by have:=RL List.length S.pre;rw[Tw]at this;omega
 obtain⟨h1,tk,rfl,hk⟩:=x.done;have noA:∀b:Addr,b∉(cxOf CX P w K mg base N qual scope f cd A outer s H E).ex:=λb z=>absurd (show b∈([]:List Addr) from z) (by simp);refine⟨⟨e0.mod,S.kind,rfl,rfl,Ug _,λy z c h1 h2=>?_,λy hy=>?_,λy c _ h=>?_,λ_=>hd,Around.frames_deeper e0.frames,.inr ⟨rfl,rfl⟩,λb z=>absurd z (noA b),e0.bs,e0.bsz,λb _ _=>noA b,λb z=>absurd z (noA b),e0.funs,e0.frf⟩,rfl,e0.bare,Un.kept hk,⟨_,x.toInCall.ns,λi y v h1 h2 h3=>?_⟩,λy c h=>⟨_,x.cell y c h⟩,e0.hok.fresh (Ug _),λy c h=>?_,λp hp=>absurd (show p∈([]:LAO) from hp) (by simp),e0.hok.kept hk,?_⟩
 ·exact name_of_addr x.apart (Ro h1) (Ro h2)
 ·have hy:scope.names.lookup y=some .cell\/scope.names.lookup y=some .free:=hy;rcases hy with hy|hy
  ·exact QfN hy
  ·exact absurd rfl (S.nofree _ (Ro hy))
 ·exact Rf (x.above y c (Ro h))
 ·have hi:i<vs.length:=by
   unfold start at h2;by_cases hi:i<vs.length
   ·exact hi
   ·rw[UE (by simpa using hi)]at h2;rw[RN]at h2;split at h2<;>cases h2
  have ha:vs[i]?=some v:=by
   unfold start at h2;rw[Ul (by simpa using hi),UJ]at h2;cases e:vs[i]? with
   |none=>rw[e]at h2;cases h2|some a=>rw[e]at h2;cases h2;rfl
  obtain⟨u,hu,rv⟩:=r.get ha;have hp:ps[i]?=some y:=by rw[<-S.pre,BB (by omega)];exact h1
  have ndP:ps.Nodup:=by rw[<-S.pre];exact S.nd.sublist (List.take_sublist _ _)
  refine⟨u,rv,?_⟩;rcases S.par y (Td hp) with k|k
  ·exact .inl ⟨k,Qd9 ndP hp hu k⟩
  ·obtain⟨c,e⟩:=QfN (n:=s.heap.objs.size+1) k;refine .inr ⟨.inl k,c,e,?_⟩;have q:=x.cell y c e;rw[Qea ndP hp hu (by show scope.names.lookup y≠_;rw[k];decide)]at q;exact q
 ·exact e0.hok.fresh (Rf (x.above y c (Ro h)))
 ·unfold start;show _=N.length;rw[Us,Ud,Ta];omega
theorem QnP{CX:CXT}{P:Program}{w:World}{K:Frag}{mg:SOV}{base:Heap}{k:Nat}{f:Addr}{name qual:Str}{params:Arguments}{body:List Stmt}{scope:Scope}{dV kV doc pm cdv ct oc:Value}{an od:Option Addr}{osl:Array (Option Value)}{N ps:List Str}{sp:Sp}(lk:K.lookup f=some ⟨oc,od,.func (fnOf name qual params body scope dV kV doc pm an cdv ct),osl⟩)(hcd:codeIn K cdv qual=true)(S:FnScope N ps scope)(len:∀vs H Q E,sp vs H Q E->vs.length=ps.length)(hbody:∀(A:Around) (outer:List Env) (s:Shared) (H:Hp) (vs:List V) (Q:VK) (E:XK),Room k (A.deeper (envOfC qual scope s.heap.objs.size f cdv))->sp vs H Q E->∃t,PSs (cxOf CX P w K mg base N qual scope f cdv A outer s H E) body t/\t {nx:=λ_ H'=>Q .non H',rt:=Q} (start N vs) H):
  FnOk P w K mg base CX (k+1) f (fnOf name qual params body scope dV kV doc pm an cdv ct) ps sp:=by
 refine⟨len,λA outer s H args us vs Q E hr e0 hb r hsp=>?_⟩;have hl:=len _ _ _ _ hsp;have KX:K.In s.heap:=e0.mod.kin.keeps λb o e=>(e0.bs b o e).1;have lim:s.heap.NoLimit:=e0.mod.nolimit.keeps λb o e=>(e0.bs b o e).1;have hkind:∀y∈ps.zip us,scope.names.lookup y.1=some .local\/(scope.names.lookup y.1=some .cell/\((cellsFrom (s.heap.objs.size+1) scope.names []).lookup y.1).isSome=true):=λ⟨n,v⟩ hy=>by
  rcases S.par n (BZ hy).1 with q|q
  ·exact .inl q
  ·exact .inr ⟨q,BN _ _ _ (.inl q)⟩
 refine codeAny_call_function hr.depth (KX _ _ lk) rfl S.co S.gen rfl (codeRec_of KX hcd) (hb _ _ _ _ ?_);refine wpAny_newFunctionEnv_cells S.kind hkind λenv he s1 x=>?_;subst he;refine⟨lim.keeps x.toInCall.keep,codeAny_func ?_⟩;obtain⟨t,ht,hq⟩:=hbody A outer s H vs Q E (hr.deeper _) hsp;have I:Inv (cxOf CX P w K mg base N qual scope f cdv A outer s H E) [] (start N vs) H s1:=QhF S hr.hd e0 hl r x;refine Tg (ht [] s1 (start N vs) H _ I hq) (λfl s' hs=>?_) λe s' hs=>hs;have fin:∀{σ':St}{H':Hp}{v:V}{u:Value},Inv (cxOf CX P w K mg base N qual scope f cdv A outer s H E) [] σ' H' s'->RelV v u->Q v H'->CE outer P w H s Q u s':=λ{σ' H' v u} J rv q=>⟨v,H',J.os,J.bare,J.base,J.hok,rv,q⟩
 cases fl with
 |ret u =>obtain⟨v,σ',H',J,rv,q⟩:=hs;exact fin J rv q|next =>obtain⟨σ',H',J,q⟩:=hs;exact fin (v:=V.non) (u:=Value.none) J rfl q|brk =>obtain⟨_,_,_,q⟩:=hs;exact False.elim q|cont =>obtain⟨_,_,_,q⟩:=hs;exact False.elim q
section
variable{X:Cx}{x:Str}{p pos:Pos}{e:Expr}{es:List Expr}{t:TA}{id T:String}{r:List V->Hp->VK->Prop}
def tCB(r:List V->Hp->VK->Prop)(t:TA):TE:=λσ H Q=>t σ H λvs H1=>r vs H1 Q
theorem JD(hc:CallR X (.builtin id) r)(hg:Gl X x)(hm:X.mg x=none)(hv:bootBuiltins x=some (.builtin id))(ha:PA X (e::es) t)(hn:x ≠"__name__":=by decide)(hdb:(x==("__debug__" : Str))=false:=by decide)(he:starEach (e::es) X.env=(false,eval e X.env)::starEach es X.env:=by rfl)(hpl:(backTo pos (starEach es X.env)).any (·.1)=false:=by rfl):PE X (.Call (.Name x p) (e::es) [] pos) (tCB r t):=by intro pins s σ H Q I h;refine RU (Qd5 I hg hm hv ?_ hn hdb);exact PyProof.Rows.callWith_builtin1 (thn (ha pos pins s σ H _ I h) λus s1 ⟨vs,H1,I1,r1,q1⟩=>hc pins s1 σ H1 vs us Q I1 r1 q1) he hpl
theorem QhG(hc:CallR X (.type T) r)(hg:Gl X x)(hm:X.mg x=none)(hv:bootBuiltins x=some (.type T))(ha:PA X (e::es) t)(hn:x ≠"__name__":=by decide)(hdb:(x==("__debug__" : Str))=false:=by decide)(he:starEach (e::es) X.env=(false,eval e X.env)::starEach es X.env:=by rfl)(hpl:(backTo pos (starEach es X.env)).any (·.1)=false:=by rfl):PE X (.Call (.Name x p) (e::es) [] pos) (tCB r t):=by intro pins s σ H Q I h;refine RU (Qd5 I hg hm hv ?_ hn hdb);exact R0 (thn (ha pos pins s σ H _ I h) λus s1 ⟨vs,H1,I1,r1,q1⟩=>hc pins s1 σ H1 vs us Q I1 r1 q1) he hpl
end
end L2
namespace HT
open PySem PyProof.Rows
theorem cat_tup{t b:Addr}{vs ws:List Value}{Q:VP}(ht:IsTup s.heap t vs.toArray)(hb:IsTup s.heap b ws.toArray)(hv:vs≠[])(h1:ws=[]->Q (.ref t) s)(h2:ws≠[]->Q (.ref s.heap.objs.size) {s with heap:=s.heap.push {cls:=.type "tuple",data:=.seq (vs++ws).toArray} })(hsz:vs.length+ws.length<=sizeLine):wpAny (model prog w) A (binaryOp .Add (.ref t) (.ref b)) Q E s:=by
 obtain⟨⟨cls,dd,data,sl⟩,ho,hc,n,hd⟩:=id ht;obtain⟨⟨cls2,dd2,data2,sl2⟩,ho2,hc2,n2,hd2⟩:=id hb;simp only at hc hd hc2 hd2;subst hc hd hc2 hd2;have e:vs.toArray++ws.toArray=(vs++ws).toArray:=by simp
 by_cases hw:ws=[]
 ·exact concat_meets ⟨_,ho,rfl⟩ ⟨_,ho2,rfl⟩ BK seq_tuple_add WC Ww (Wt _ _)
   (tuple_addW1 t b vs.toArray ws.toArray n n2 dd dd2 sl sl2 (by simpa using hv) (by simp[hw])) ⟨ho,ho2,h1 hw⟩
 ·refine concat_meets ⟨_,ho,rfl⟩ ⟨_,ho2,rfl⟩ BK seq_tuple_add WC Ww (Wt _ _)
   (tuple_addW2 t b vs.toArray ws.toArray n n2 dd dd2 sl sl2 (by simpa using hv) (by simpa using hw) (by rw[Ux,Ux];exact hsz)) ⟨ho,ho2,?_⟩
  rw[e];exact h2 hw
def sIx(n d:Nat):Option Int->Nat
 |none=>d|some v=>if v<0 then (v+(n:Int)).toNat else min v.toNat n
theorem QnQ(n d:Nat)(hd:d<=n)(o:Option Int):sIx n d o<=n:=by
 cases o with
 |none=>exact hd|some v=>
  show(if v<0 then (v+(n:Int)).toNat else min v.toNat n)<=n;by_cases hv:v<0
  ·rw[Ue hv];omega
  ·rw[Uf hv];exact Nat.min_le_right _ _
theorem QhH(v:Int)(n d:Nat):(if v<0 then max (v+(n:Int)) 0 else min v (n:Int))=((sIx n d (some v):Nat):Int):=by
 show(if v<0 then max (v+(n:Int)) 0 else min v (n:Int))=(((if v<0 then (v+(n:Int)).toNat else min v.toNat n):Nat):Int);by_cases hv:v<0
 ·simp only[Ue hv];omega
 ·simp only[Uf hv];omega
theorem QgH(lo hi:Option Int)(n:Nat):Builtin.Slice.sliceAdjust lo hi 1 (n:Int)=(((sIx n 0 lo:Nat):Int),((sIx n n hi:Nat):Int)):=by
 have h1:¬((1:Int)<0):=by omega
 unfold Builtin.Slice.sliceAdjust;simp only[h1,TQ];refine Prod.ext ?_ ?_
 ·cases lo with
  |none=>rfl|some v=>exact QhH v n 0
 ·cases hi with
  |none=>rfl|some v=>exact QhH v n n
theorem QgI(i j:Nat):Builtin.Slice.slicePlaces (i:Int) (j:Int) 1=j-i:=by
 unfold Builtin.Slice.slicePlaces;have h1:(1:Int)>0:=by omega
 simp only[h1,Wk,Int.ediv_one];split<;>omega
theorem Qcx(p:IsPart v o)(h:Q o s):wpAny (model prog w) A (Builtin.Slice.slicePartIndex v) Q E s:=by
 cases p with
 |none=>exact slicePart_none h|int i t=>exact slicePart_int h
theorem sliceApplied_gen{sl:Addr}{vl vu:Value}{lo hi:Option Int}{n:Nat}{Q:Int×Int×Nat->Shared->Prop}(hs:s.heap.IsSliceOf sl vl vu .none)(pl:IsPart vl lo)(pu:IsPart vu hi)(h:Q (((sIx n 0 lo:Nat):Int),1,sIx n n hi-sIx n 0 lo) s):wpAny (model prog w) A (Builtin.Slice.sliceApplied (.ref sl) (pure (n:Int))) Q E s:=by obtain⟨os,hos,hcs,hds⟩:=id hs;unfold Builtin.Slice.sliceApplied Builtin.Slice.sliceFields;refine Ua (Ua (U0 hos hds (x:=vl) rfl (Ua (U0 hos hds (x:=vu) rfl (Ua (U0 hos hds (x:=.none) rfl (Ub ?_)))))));refine Ua (slicePart_none ?_);show wpAny _ _ (if ((1:Int)==0)=true then _ else _) _ _ s;rw[Uf (by decide)];refine Ua (Qcx pl (Ua (Qcx pu (Ua (Ub ?_)))));show wpAny _ _ (match Builtin.Slice.sliceAdjust lo hi 1 (n:Int) with|(lo,hi)=>pure (lo,(1:Int),Builtin.Slice.slicePlaces lo hi 1)) _ _ s;rw[QgH lo hi n];show wpAny _ _ (pure (((sIx n 0 lo:Nat):Int),(1:Int),Builtin.Slice.slicePlaces ((sIx n 0 lo:Nat):Int) ((sIx n n hi:Nat):Int) 1)) _ _ s;rw[QgI];exact Ub h
theorem Qj0(xs:Array Value)(i k:Nat):((List.range k).filterMap λ(m:Nat)=>xs[((i:Int)+(m:Int)*1).toNat]?).toArray=((xs.toList.drop i).take k).toArray:=by
 have e:(λ(m:Nat)=>xs[((i:Int)+(m:Int)*1).toNat]?)=λm=>xs[i+m]?:=by
  funext m;have:((i:Int)+(m:Int)*1).toNat=i+m:=by omega
  rw[this]
 rw[e];have:=pick_run xs i k;rw[List.filterMap_map]at this;have e2:((λx=>xs[x]?)∘λx=>i+x)=λm=>xs[i+m]?:=rfl;rw[e2]at this;rw[this]
theorem getItem_tuple_cut{t sl:Addr}{items:Array Value}{vl vu:Value}{lo hi:Option Int}{Q:VP}(ht:IsTup s.heap t items)(hs:s.heap.IsSliceOf sl vl vu .none)(pl:IsPart vl lo)(pu:IsPart vu hi)(hw:¬(sIx items.size 0 lo=0/\sIx items.size items.size hi=items.size))(h:Q (.ref s.heap.objs.size) {s with heap:=s.heap.push {cls:=.type "tuple",data:=.seq ((items.toList.drop (sIx items.size 0 lo)).take (sIx items.size items.size hi-sIx items.size 0 lo)).toArray} })(hsz:items.size<=sizeLine):wpAny (model prog w) A (getItem (.ref t) (.ref sl)) Q E s:=by
 have htake:sizeOk (.seq ((items.toList.drop (sIx items.size 0 lo)).take (sIx items.size items.size hi-sIx items.size 0 lo)).toArray):=by show((items.toList.drop (sIx items.size 0 lo)).take (sIx items.size items.size hi-sIx items.size 0 lo)).toArray.size<=sizeLine;rw[Ux,Tw,Rt,Ur];omega
 have hj:sIx items.size items.size hi<=items.size:=QnQ _ _ (Ug _) hi;obtain⟨os,hos,hcs,hds⟩:=id hs;have hTs:s.TypeIs (.ref sl) "slice":=⟨os,hos,hcs⟩;unfold getItem;try with_reducible refine Tn ?_
 first|refine Ua (Ub ?_)|skip
 refine Ua (wpAny_sequenceKey ht.typeIs (by decide) ?_);refine Ua (UT (name:=Str.ofString "__getitem__") ht.typeIs U9
  (UQ U9 ht.typeIs entry_tuple_getitem ?_ (args_tuple_getitem _ _)))
 show wpAny _ _ (Builtin.Tuple.tupleItemsOf (.ref t) >>= _) _ _ s;refine Ua (tupleItemsOf_ ht ?_);refine Ua (WI hTs ?_);rw[Ue (by decide)];refine Ua (sliceApplied_gen hs pl pu ?_);have hno:¬((((sIx items.size 0 lo:Nat):Int)==0&&(1:Int)==1&&(sIx items.size items.size hi-sIx items.size 0 lo)==items.size)=true):=by intro q;rw[UN,UN]at q;have q1:((sIx items.size 0 lo:Nat):Int)=0:=eq_of_beq q.1.1;have q2:sIx items.size items.size hi-sIx items.size 0 lo=items.size:=eq_of_beq q.2;exact hw ⟨by omega,by omega⟩
 show wpAny _ _ (if (((sIx items.size 0 lo:Nat):Int)==0&&(1:Int)==1&&(sIx items.size items.size hi-sIx items.size 0 lo)==items.size)=true then _ else _) _ _ s;rw[Uf hno,Qj0];first
  |exact Ua (m:=Builtin.Tuple.tupleExact _) (UX (Ub ⟨_,rfl,Ub h⟩) htake)
  |exact Ua (m:=Builtin.Tuple.tupleExact _) (UX (Ua (Ub (Ub ⟨_,rfl,Ub h⟩))) htake)
  |exact Ua (Ua (m:=Builtin.Tuple.tupleExact _) (UX (Ub (Ub ⟨_,rfl,Ub h⟩)) htake))
  |exact Ua (Ua (m:=Builtin.Tuple.tupleExact _) (UX (Ub ⟨_,rfl,Ub h⟩) htake))
end HT
namespace L2
open PySem PySem.Spec PyProof.Rows
abbrev TO:=St->Hp->(Option Int->Hp->Prop)->Prop
def PO(X:Cx)(e:Option Expr)(t:TO):Prop:=∀(pins:LAO)(s:Shared)(σ:St)(H:Hp)(Q:Option Int->Hp->Prop),Inv X pins σ H s->t σ H Q->wpAny (model X.prog X.w) X.A (evalPart e X.env) (λu s'=>∃o H',Inv X pins σ H' s'/\IsPart u o/\Q o H') X.xe s
def Ql7:TO:=λ_ H Q=>Q none H
def Qpv(t:TE):TO:=λσ H Q=>t σ H λx H1=>∃i,x=.int i/\Q (some i) H1
section
variable{X:Cx}{e:Expr}{te:TE}{lo hi:Option Expr}{tl th:TO}{pos p2:Pos}
theorem Ql8:PO X none Ql7:=by intro pins s σ H Q I h;rw[evalPart_none];exact Ub ⟨none,H,I,.none,h⟩
theorem Ql9(h:PE X e te):PO X (some e) (Qpv te):=by intro pins s σ H Q I hw;rw[evalPart_some];refine thn (h pins s σ H _ I hw) λu s1 ⟨x,H1,I1,r1,q1⟩=>?_;obtain⟨i,rfl,q⟩:=q1;obtain⟨t,rfl⟩:=r1;exact⟨some i,H1,I1,.int i t,q⟩
def SlR(X:Cx)(r:V->Option Int->Option Int->Hp->VK->Prop):Prop:=∀(pins:LAO)(s:Shared)(σ:St)(H:Hp)(x:V)(v vl vu:Value)(lo hi:Option Int)(sl:Addr)(Q:VK),Inv X pins σ H s->RelV x v->s.heap.IsSliceOf sl vl vu .none->IsPart vl lo->IsPart vu hi->r x lo hi H Q->∃T id,typeLookup (.type T) "__getitem__"=pure (some (.builtin id))/\s.TypeIs v T/\wpAny (model X.prog X.w) X.A (getItem v (.ref sl)) (EP X pins σ Q) X.xe s
theorem SlR.or(h:SlR X r)(h':SlR X r'):SlR X (λx lo hi H Q=>r x lo hi H Q\/r' x lo hi H Q):=by
 intro pins s σ H x v vl vu lo hi sl Q I rx hs pl pu q;rcases q with q|q
 ·exact h pins s σ H x v vl vu lo hi sl Q I rx hs pl pu q
 ·exact h' pins s σ H x v vl vu lo hi sl Q I rx hs pl pu q
def tSl(r:V->Option Int->Option Int->Hp->VK->Prop)(te:TE)(tl th:TO):TE:=λσ H Q=>te σ H λx H1=>tl σ H1 λl H2=>th σ H2 λu H3=>r x l u H3 Q
theorem Qj1{r:V->Option Int->Option Int->Hp->VK->Prop}(hr:SlR X r)(he:PE X e te)(hl:PO X lo tl)(hu:PO X hi th):PE X (.Subscript e (.Slice lo hi none p2) pos) (tSl r te tl th):=by intro pins s σ H Q I h;refine Subscript_ (thn (he pins s σ H _ I h) λv s1 ⟨x,H1,I1,r1,q1⟩=>?_);refine wpAny_Slice (thn (hl pins s1 σ H1 _ I1 q1) λvl s2 ⟨l,H2,I2,pl,q2⟩=>thn (hu pins s2 σ H2 _ I2 q2) λvu s3 ⟨u,H3,I3,pu,q3⟩=>?_);rw[evalPart_none];refine Ub ?_;have I4:Inv X pins σ H3 {s3 with heap:=s3.heap.push {cls:=.type "slice",data:=.fields #[vl,vu,.none]} }:=I3.kept (t':=s3.toks) λb ob q=>Uc _ q;obtain⟨T,id,hT,ht,hg⟩:=hr pins {s3 with heap:=s3.heap.push {cls:=.type "slice",data:=.fields #[vl,vu,.none]} } σ H3 x v vl vu l u s3.heap.objs.size Q I4 r1 (Heap.IsSliceOf.new ..) pl pu q3;show wpAny (model X.prog X.w) X.A (subscriptTail e (.Slice lo hi none p2) v (.ref s3.heap.objs.size)) (EP X pins σ Q) X.xe {s3 with heap:=s3.heap.push {cls:=.type "slice",data:=.fields #[vl,vu,.none]} };exact tail_any (ops:=[.ref s3.heap.objs.size,v]) ht hT hg (by with_unfolding_all rfl)
def cutV(xs:List V)(lo hi:Option Int):List V:=(xs.drop (HT.sIx xs.length 0 lo)).take (HT.sIx xs.length xs.length hi-HT.sIx xs.length 0 lo)
theorem QbF(xs:List V)(lo hi:Option Int):(cutV xs lo hi).length<=xs.length:=by unfold cutV;rw[Tw,Rt];omega
def rSlT(K:Frag):V->Option Int->Option Int->Hp->VK->Prop:=λx lo hi H Q=>∃a xs,x=.ref a/\SqT K H a xs/\¬(HT.sIx xs.length 0 lo=0/\HT.sIx xs.length xs.length hi=xs.length)/\∀p,H p=none->Q (.ref p) (upd H p (.tup (cutV xs lo hi)))
theorem sl_tup:SlR X (rSlT X.K):=by
 intro pins s σ H x v vl vu lo hi sl Q I rx hs pl pu h;obtain⟨a,xs,rfl,hx,hw,q⟩:=h;cases rx;obtain⟨its,r,ht,hz⟩:=I.tuple hx;have hlen:its.toArray.size=xs.length:=by rw[Ux];exact r.length.symm
 refine⟨"tuple",_,U9.lookup,ht.typeIs,?_⟩;refine HT.getItem_tuple_cut ht hs pl pu (by rw[hlen];exact hw) ?_ (by rw[hlen];exact hz);rw[hlen];refine⟨.ref s.heap.objs.size,_,I.laid (t':=s.toks) (o:=.tup (cutV xs lo hi)) (λb ob q=>Uc _ q) (Ug _) ?_,rfl,q _ (I.hok.fresh (Ug _))⟩;exact⟨Uk (QbF xs lo hi) hz,_,(r.drop (HT.sIx xs.length 0 lo)).take (HT.sIx xs.length xs.length hi-HT.sIx xs.length 0 lo),IsTup.new _ _⟩
def QnR(K:Frag):R2:=λx y H Q=>∃a b xs ys,x=.ref a/\y=.ref b/\SqT K H a xs/\SqT K H b ys/\xs≠[]/\xs.length+ys.length<=sizeLine/\(ys=[]->Q (.ref a) H)/\(ys≠[]->∀p,H p=none->Q (.ref p) (upd H p (.tup (xs++ys))))
theorem Vals.nil_iff(r:Vals xs us):us=[]↔xs=[]:=by
 cases r with
 |nil=>simp|cons _ _=>simp
theorem Qma:OpR X (binaryOp .Add) (QnR X.K):=by intro pins s σ H x y v u Q I rx ry h;obtain⟨a,b,xs,ys,rfl,rfl,ha,hb,hx,hz,q1,q2⟩:=h;cases rx;cases ry;obtain⟨its,r1,p1,_⟩:=I.tuple ha;obtain⟨its2,r2,p2,_⟩:=I.tuple hb;refine HT.cat_tup p1 p2 (λz=>hx (r1.nil_iff.mp z)) (λz=>⟨.ref a,H,I,rfl,q1 (r2.nil_iff.mp z)⟩) (λz=>?_) (by rw[<-r1.length,<-r2.length];exact hz);refine⟨.ref s.heap.objs.size,_,I.laid (t':=s.toks) (o:=.tup (xs++ys)) (λb ob q=>Uc _ q) (Ug _) ?_,rfl,q2 (λw=>z (r2.nil_iff.mpr w)) _ (I.hok.fresh (Ug _))⟩;exact⟨by rw[Us];exact hz,_,r1.append r2,IsTup.new _ _⟩
end
def ixN(n:Nat)(i:Int):Option Nat:=if 0<=i then (if i<n then some i.toNat else none) else if -(n:Int)<=i then some (i+n).toNat else none
def atI(xs:List α)(i:Int):Option α:=(ixN xs.length i).bind λj=>xs[j]?
theorem QhI(h:ixN n i=some j):seqIndex? i n=some j/\j<n/\-(n:Int)<=i/\i<n:=by
 unfold ixN at h;by_cases h0:0<=i
 ·rw[Ue h0]at h;by_cases h1:i<n
  ·rw[Ue h1]at h;have e:i.toNat=j:=Option.some.inj h;exact⟨by rw[seqIndex_of h0 h1,e],by omega,by omega,h1⟩
  ·rw[Uf h1]at h;cases h
 ·rw[Uf h0]at h;by_cases h1 : -(n:Int)<=i
  ·rw[Ue h1]at h;have e:(i+n).toNat=j:=Option.some.inj h;exact⟨by rw[seqIndex_neg (by omega) h1,e],by omega,h1,by omega⟩
  ·rw[Uf h1]at h;cases h
theorem QeY(h:atI xs i=some v):∃j,seqIndex? i xs.length=some j/\xs[j]?=some v/\j<xs.length/\-(xs.length:Int)<=i/\i<xs.length:=by
 unfold atI at h;cases e:ixN xs.length i with
 |none=>rw[e]at h;cases h|some j =>rw[e]at h;obtain⟨h1,h2,h3,h4⟩:=QhI e;exact⟨j,h1,h,h2,h3,h4⟩
def Qc6(b:Expr):Prop:=∀o i,subscripted b false o i=operate [o,i] (getItem o i)
def IxR(X:Cx)(r:R2):Prop:=∀(value slice:Expr)(pins:LAO)(s:Shared)(σ:St)(H:Hp)(x y:V)(v u:Value)(Q:VK),Inv X pins σ H s->RelV x v->RelV y u->r x y H Q->subscripted slice false v u=operate [v,u] (getItem v u)->wpAny (model X.prog X.w) X.A (subscriptTail value slice v u) (EP X pins σ Q) X.xe s
def MtR(X:Cx)(id:String)(r:V->List V->Hp->VK->Prop):Prop:=∀(pins:LAO)(s:Shared)(σ:St)(H:Hp)(x:V)(xs:List V)(v:Value)(us:List Value)(Q:VK),Inv X pins σ H s->RelV x v->Vals xs us->r x xs H Q->wpAny (model X.prog X.w) X.A (call (.builtin id) (v::us)) (EP X pins σ Q) X.xe s
section
variable{X:Cx}{a b:Expr}{ta tb:TE}{pos:Pos}
theorem IxR.or(h:IxR X r)(h':IxR X r'):IxR X (λx y H Q=>r x y H Q\/r' x y H Q):=by
 intro value slice pins s σ H x y v u Q I rx ry q hs;rcases q with q|q
 ·exact h value slice pins s σ H x y v u Q I rx ry q hs
 ·exact h' value slice pins s σ H x y v u Q I rx ry q hs
theorem MtR.or{id:String}{r r':V->List V->Hp->VK->Prop}(h:MtR X id r)(h':MtR X id r'):MtR X id (λx xs H Q=>r x xs H Q\/r' x xs H Q):=by
 intro pins s σ H x xs v us Q I rx rs q;rcases q with q|q
 ·exact h pins s σ H x xs v us Q I rx rs q
 ·exact h' pins s σ H x xs v us Q I rx rs q
theorem Qpw(hr:IxR X r)(ha:PE X a ta)(hb:PE X b tb)(hs:Qc6 b):PE X (.Subscript a b pos) (tOp r ta tb):=by intro pins s σ H Q I h;exact Subscript_ (binT ha hb I h λv u s2 x y H2 I2 rx ry q=>hr a b pins s2 σ H2 x y v u Q I2 rx ry q (hs _ _))
def rIxL(K:Frag):R2:=λx y H Q=>∃p xs i v,x=.ref p/\y=.int i/\SqL K H p xs/\atI xs i=some v/\Q v H
def rIxT(K:Frag):R2:=λx y H Q=>∃p xs i v,x=.ref p/\y=.int i/\SqT K H p xs/\atI xs i=some v/\Q v H
def rIxS:R2:=λx y H Q=>∃z i c,x=.str z/\y=.int i/\z.length<=sizeLine/\atI z.cps.toList i=some c/\Q (.str ⟨#[c]⟩) H
theorem ix_list:IxR X (rIxL X.K):=by
 intro value slice pins s σ H x y v u Q I rx ry h hs;obtain⟨p,xs,i,z,rfl,rfl,hq,he,q⟩:=h;cases rx;obtain⟨t,rfl⟩:=ry;obtain⟨its,r,pl,hz⟩:=I.list hq;obtain⟨j,h1,h2,h3,h4,h5⟩:=QeY he;obtain⟨w,ew,rw'⟩:=r.get h2;have hl:=r.length;have hn:=Qcu;have fin:EP X pins σ Q w s:=⟨z,H,I,rw',q⟩;by_cases h0:0<=i
 ·have hj:i.toNat=j:=by rw[seqIndex_of h0 h5]at h1;exact Option.some.inj h1
  exact item_listR pl.isList h0 (by omega) (by rw[hj];simpa using ew) fin hs
 ·have hj:(i+(its.toArray.size:Int)).toNat=j:=by rw[seqIndex_neg (by omega) h4]at h1;rw[Ux,<-hl];exact Option.some.inj h1
  exact subscriptTail_builtinR (x:=w) pl.isList.typeIs slot_list_getitem.lookup
   (wpAny_getItem_list_neg (Q:=λr s'=>r=w/\EP X pins σ Q r s') pl.isList (by omega) (by rw[Ux]<;>omega) (by omega) (by rw[hj];simpa using ew) ⟨rfl,fin⟩) hs
theorem ix_tup:IxR X (rIxT X.K):=by
 intro value slice pins s σ H x y v u Q I rx ry h hs;obtain⟨p,xs,i,z,rfl,rfl,hq,he,q⟩:=h;cases rx;obtain⟨t,rfl⟩:=ry;obtain⟨its,r,pl,hz⟩:=I.tuple hq;obtain⟨j,h1,h2,h3,h4,h5⟩:=QeY he;obtain⟨w,ew,rw'⟩:=r.get h2;have hl:=r.length;have hn:=Qcu;have fin:EP X pins σ Q w s:=⟨z,H,I,rw',q⟩;exact subscriptTail_builtinR (x:=w) pl.typeIs slot_tuple_getitem.lookup
  (getItem_tuple (j:=j) (Q:=λr s'=>r=w/\EP X pins σ Q r s') pl (by omega) (by omega) (by rw[Ux,<-hl];exact h1) (by simpa using ew) ⟨rfl,fin⟩) hs
theorem QnS:IxR X rIxS:=by
 intro value slice pins s σ H x y v u Q I rx ry h hs;obtain⟨z,i,c,rfl,rfl,hz,he,q⟩:=h;obtain⟨t,rfl⟩:=rx;obtain⟨t',rfl⟩:=ry;obtain⟨j,h1,h2,h3,h4,h5⟩:=QeY he;have hl:z.cps.toList.length=z.length:=by simp[Str.length]
 rw[hl]at h1 h4 h5;have hn:=Qcu;exact tail_any (typeIs_str s z t) slot_str_getitem.lookup (getItem_str (c:=c) (by have e1:decide (i < -(2^63:Int))=false:=UC (by omega);have e2:decide (i>=2^63)=false:=UC (by omega);rw[e1,e2,Uay]) (by rw[h1];simpa using h2) ⟨.str ⟨#[c]⟩,H,I.tok _,⟨_,rfl⟩,q⟩) hs
def rIx(K:Frag):R2:=λx y H Q=>rIxL K x y H Q\/rIxT K x y H Q\/rIxS x y H Q
theorem QnT:IxR X (rIx X.K):=ix_list.or (ix_tup.or QnS)
theorem QgJ(its:List Value)(n j:Nat)(u:Value):Obj.mapSeq (·.setIfInBounds j u) {cls:=.type "list",data:=.seq its.toArray n} = {cls:=.type "list",data:=.seq (its.set j u).toArray n}:=by simp[Obj.mapSeq]
theorem Inv.lst(I:Inv X pins σ H s)(h:H p=some (.lst xs)):
  ∃(its:List Value)(n:Nat),Vals xs its/\s.heap.get? p=some {cls:=.type "list",data:=.seq its.toArray n}/\xs.length<=sizeLine:=by
 obtain⟨z,its,n,r,e⟩:=I.hok p _ h;exact⟨its,n,r,e,z⟩
theorem Inv.lstUpd{pins:LAO}{σ:St}{H:Hp}{s:Shared}{p:Addr}{xs ys:List V}{its its':List Value}{n n':Nat}{f:Obj->Obj}(I:Inv X pins σ H s)(h:H p=some (.lst xs))(ho:s.heap.get? p=some {cls:=.type "list",data:=.seq its.toArray n})(hf:f {cls:=.type "list",data:=.seq its.toArray n} = {cls:=.type "list",data:=.seq its'.toArray n'})(r:Vals ys its')(hz:ys.length<=sizeLine)(t:Nat):
  Inv X pins σ (upd H p (.lst ys)) {s with heap:=s.heap.update p f,toks:=t}:=by
 have e:(s.heap.update p f).get? p=some {cls:=.type "list",data:=.seq its'.toArray n'}:=by rw[RD f ho (by rw[hf]<;>rfl),hf]
 refine I.write (x:=p) (e:=p) (by rw[h];trivial) (.inl rfl) (λb u hb q=>(Tt _ _ (Ne.symm hb)).trans q) ⟨_,e⟩ ?_;exact⟨hz,its',n',r,e⟩
def Qpx:V->V->V->Hp->(Hp->Prop)->Prop:=λo i v H Q=>∃p xs k j,o=.ref p/\i=.int k/\H p=some (.lst xs)/\ixN xs.length k=some j/\Q (upd H p (.lst (xs.set j v)))
theorem Qj2:PSet X Qpx:=by
 intro pins s σ H o i v ov iv u Q I ro ri rv h;obtain⟨p,xs,k,j,rfl,rfl,hp,hj,q⟩:=h;cases ro;obtain⟨t,rfl⟩:=ri;obtain⟨its,n,r,ho,hz⟩:=I.lst hp;obtain⟨h1,h2,h3,h4⟩:=QhI hj;have hl:=r.length;have hn:=Qcu;have I':Inv X pins σ (upd H p (.lst (xs.set j v))) {s with heap:=s.heap.update p (Obj.mapSeq (·.setIfInBounds j u))}:=I.lstUpd hp ho (QgJ its n j u) (r.set rv j) (by rw[UK];exact hz) s.toks
 by_cases h0:0<=k
 ·have hk:k.toNat=j:=by rw[seqIndex_of h0 h4]at h1;exact Option.some.inj h1
  exact ki_setAt ho h0 (by omega) (by rw[Ux,<-hl];exact h4) (by rw[hk];exact⟨_,I',q⟩)
 ·have hk:(k+(its.toArray.size:Int)).toNat=j:=by rw[seqIndex_neg (by omega) h3]at h1;rw[Ux,<-hl];exact Option.some.inj h1
  exact ki_setBack ho (by omega) (by rw[Ux,<-hl];exact h3) (by omega) (by rw[hk];exact⟨_,I',q⟩)
theorem Qeb(lo hi:Option Int)(n:Nat):(sliceBounds lo hi none n).1=((HT.sIx n 0 lo:Nat):Int)/\(sliceBounds lo hi none n).2.1=((HT.sIx n n hi:Nat):Int)/\(sliceBounds lo hi none n).2.2=1:=by
 refine⟨?_,?_,rfl⟩
 ·cases lo with
  |none=>simp[sliceBounds,HT.sIx]|some i=>
   simp only[sliceBounds,HT.sIx,Option.getD_none,show(1:Int)>0 by decide,Wk];by_cases h:i<0
   ·simp only[h,Wk]<;>omega
   ·simp only[h,TQ]<;>omega
 ·cases hi with
  |none=>simp[sliceBounds,HT.sIx]|some i=>
   simp only[sliceBounds,HT.sIx,Option.getD_none,show(1:Int)>0 by decide,Wk];by_cases h:i<0
   ·simp only[h,Wk]<;>omega
   ·simp only[h,TQ]<;>omega
theorem Qc7(its:List Value)(lo hi:Option Int):slicePick its.toArray lo hi none=((its.drop (HT.sIx its.length 0 lo)).take (HT.sIx its.length its.length hi-HT.sIx its.length 0 lo)).toArray:=by obtain⟨h1,h2,h3⟩:=Qeb lo hi its.toArray.size;unfold slicePick;rw[h1,h2,h3];simp only[sliceRange_one,pick_run,Ux]<;>rfl
def rSlL(K:Frag):V->Option Int->Option Int->Hp->VK->Prop:=λx lo hi H Q=>∃a xs,x=.ref a/\SqL K H a xs/\∀p,H p=none->Q (.ref p) (upd H p (.lst (cutV xs lo hi)))
theorem Qmb:SlR X (rSlL X.K):=by intro pins s σ H x v vl vu lo hi sl Q I rx hs pl pu h;obtain⟨a,xs,rfl,hx,q⟩:=h;cases rx;obtain⟨its,r,ht,hz⟩:=I.list hx;have hlen:=r.length;refine⟨"list",_,slot_list_getitem.lookup,ht.isList.typeIs,?_⟩;refine wpAny_getItem_list_slice ht.isList hs pl pu .none (by simp) ?_ (by rw[Ux]<;>omega);rw[Qc7,<-hlen];refine⟨.ref s.heap.objs.size,_,I.laid (t':=s.toks) (o:=.lst (cutV xs lo hi)) (λb ob q=>Uc _ q) (Ug _) ?_,rfl,q _ (I.hok.fresh (Ug _))⟩;exact⟨Uk (QbF xs lo hi) hz,_,0,(r.drop (HT.sIx xs.length 0 lo)).take (HT.sIx xs.length xs.length hi-HT.sIx xs.length 0 lo),Uy _ rfl⟩
def Qcn:V->Bool
 |.non=>true|.bl _=>true|.int _=>true|.str _=>true|_=>false
def eqV:V->V->Bool
 |.non,.non=>true|.bl a,.bl b=>a==b|.bl a,.int b=>(if a then 1 else 0)==b|.int a,.bl b=>a==(if b then 1 else 0)|.int a,.int b=>a==b|.str a,.str b=>a==b|_,_=>false
theorem QnU(ry:RelV y u)(rx:RelV x v)(fy:Qcn y=true)(fx:Qcn x=true):SeqAt.EqAt A s u v (eqV y x):=by
 cases y with
 |non=>
  cases ry;cases x with
  |non=>cases rx;exact SeqAt.EqAt.same _|bl b=>cases rx;exact SeqAt.EqAt.none_bool b|int b=>obtain⟨t,rfl⟩:=rx;exact SeqAt.EqAt.none_int b t|str b=>obtain⟨t,rfl⟩:=rx;exact SeqAt.EqAt.none_str b t|_=>exact absurd (show false=true from fx) Ui
 |bl a=>
  cases ry;cases x with
  |non=>cases rx;exact SeqAt.EqAt.bool_none a|bl b=>cases rx;exact SeqAt.EqAt.bool_bool a b|int b=>obtain⟨t,rfl⟩:=rx;exact SeqAt.EqAt.bool_int a b t|str b=>obtain⟨t,rfl⟩:=rx;exact SeqAt.EqAt.bool_str a b t|_=>exact absurd (show false=true from fx) Ui
 |int a=>
  obtain⟨t',rfl⟩:=ry;cases x with
  |non=>cases rx;exact SeqAt.EqAt.int_none a t'|bl b=>cases rx;exact SeqAt.EqAt.int_bool a t' b|int b=>obtain⟨t,rfl⟩:=rx;exact SeqAt.EqAt.int_int a t' b t|str b=>obtain⟨t,rfl⟩:=rx;exact SeqAt.EqAt.int_str a t' b t|_=>exact absurd (show false=true from fx) Ui
 |str a=>
  obtain⟨t',rfl⟩:=ry;cases x with
  |non=>cases rx;exact SeqAt.EqAt.str_none a t'|bl b=>cases rx;exact SeqAt.EqAt.str_bool a t' b|int b=>obtain⟨t,rfl⟩:=rx;exact SeqAt.EqAt.str_int a t' b t|str b=>obtain⟨t,rfl⟩:=rx;exact SeqAt.EqAt.str_str a t' b t|_=>exact absurd (show false=true from fx) Ui
 |_=>exact absurd (show false=true from fy) Ui
def eqU(x:V)(u:Value):Bool:=match u with
 |.none=>eqV .non x|.bool b=>eqV (.bl b) x|.int i _=>eqV (.int i) x|.str z _=>eqV (.str z) x|_=>false
theorem Qk4(r:RelV y u)(f:Qcn y=true):eqU x u=eqV y x:=by
 cases y with
 |non=>cases r;rfl|bl b=>cases r;rfl|int i=>obtain⟨t,rfl⟩:=r;rfl|str z=>obtain⟨t,rfl⟩:=r;rfl|_=>exact absurd (show false=true from f) Ui
theorem QeZ:∀{xs:List V}{us:List Value},Vals xs us->xs.all Qcn=true->us.any (eqU x)=xs.any λy=>eqV y x
 |_,_,.nil,_=>rfl|y::xs,u::us,.cons r t,f=>by rw[WY,UN]at f;rw[TY,TY,Qk4 r f.1,QeZ t f.2]
theorem Qc8(rx:RelV x v)(fx:Qcn x=true):∀{xs:List V}{us:List Value},Vals xs us->xs.all Qcn=true->∀u∈us,SeqAt.EqAt A s u v (eqU x u)
 |_,_,.nil,_=>λu hu=>by cases hu
 |y::xs,u::us,.cons r t,f=>λu' hu=>by
  rw[WY,UN]at f;rcases UG.mp hu with rfl|hu
  ·rw[Qk4 r f.1];exact QnU r rx f.1 fx
  ·exact Qc8 rx fx t f.2 u' hu
def inV(x:V)(xs:List V):Bool:=xs.any λy=>eqV y x
def rIn(K:Frag)(neg:Bool):R2:=λx y H Q=>∃p xs,y=.ref p/\(SqL K H p xs\/SqT K H p xs)/\Qcn x=true/\xs.all Qcn=true/\Q (.bl (if neg then !inV x xs else inV x xs)) H
theorem QhJ:OpR X (compareOp .In) (rIn X.K false):=by
 intro pins s σ H x y v u Q I rx ry h;obtain⟨p,xs,rfl,hq,fx,fs,q⟩:=h;cases ry;rcases hq with hq|hq
 ·obtain⟨its,r,pl,hz⟩:=I.list hq;refine SeqAt.in_listAt (eqU x) pl.isList (λw hw=>Qc8 rx fx r fs w (by simpa using hw)) ⟨.bl _,H,I,rfl,?_⟩;rw[show its.toArray.any (eqU x)=its.any (eqU x) by simp,QeZ r fs];exact q
 ·obtain⟨its,r,pl,hz⟩:=I.tuple hq;refine SeqAt.in_tupleAt (eqU x) pl (λw hw=>Qc8 rx fx r fs w (by simpa using hw)) ⟨.bl _,H,I,rfl,?_⟩;rw[show its.toArray.any (eqU x)=its.any (eqU x) by simp,QeZ r fs];exact q
theorem Qec:CallR X (.builtin "len") (λxs H Q=>∃p ys,xs=[.ref p]/\(SqL X.K H p ys\/SqT X.K H p ys)/\Q (.int ys.length) H):=by
 intro pins s σ H xs us Q I r h;obtain⟨p,ys,rfl,hq,q⟩:=h;obtain⟨u,rfl,rx⟩:=QnL r;cases rx;have hn:=Qcu;rcases hq with hq|hq
 ·obtain⟨its,r',pl,hz⟩:=I.list hq;have hlen:=r'.length;exact Calls.call_len_list pl.isList (by simp only[Ux]<;>omega) ⟨.int ys.length,H,I.tok _,⟨s.toks+1,by rw[Ux,hlen]⟩,q⟩
 ·obtain⟨its,r',pl,hz⟩:=I.tuple hq;have hlen:=r'.length;exact len_tuple pl (by simp only[Ux]<;>omega) ⟨.int ys.length,H,I.tok _,⟨s.toks+1,by rw[Ux,hlen]⟩,q⟩
theorem CallR.or(h:CallR X f r)(h':CallR X f r'):CallR X f (λxs H Q=>r xs H Q\/r' xs H Q):=by
 intro pins s σ H xs us Q I rs q;rcases q with q|q
 ·exact h pins s σ H xs us Q I rs q
 ·exact h' pins s σ H xs us Q I rs q
theorem Qc9:CallR X (.type "tuple") (λxs H Q=>∃p ys,xs=[.ref p]/\((SqL X.K H p ys/\∀l,H l=none->Q (.ref l) (upd H l (.tup ys)))\/(SqT X.K H p ys/\Q (.ref p) H))):=by
 intro pins s σ H xs us Q I r h;obtain⟨p,ys,rfl,h⟩:=h;obtain⟨u,rfl,rx⟩:=QnL r;cases rx;rcases h with⟨hq,q⟩|⟨hq,q⟩
 ·obtain⟨its,r',pl,hz⟩:=I.list hq;have hlen:=r'.length;refine call_tuple_list pl.isList (λh' kp=>?_) (by simp only[Ux]<;>omega);have I1:Inv X pins σ H {s with heap:=h'}:=I.kept (t':=s.toks) kp;have I2:Inv X pins σ (upd H h'.objs.size (.tup ys)) {s with heap:=h'.push {cls:=.type "tuple",data:=.seq its.toArray} }:=I1.laid (t':=s.toks) (λb o e=>Uc _ e) (Ug _) (show ObjOk X.prog X.w _ _ _ (.tup ys) from ⟨hz,its,r',IsTup.new _ _⟩)
  exact⟨.ref h'.objs.size,_,I2,rfl,q _ (I1.hok.fresh (Ug _))⟩
 ·obtain⟨its,r',pl,hz⟩:=I.tuple hq;exact call_tuple_same pl ⟨.ref p,H,I,rfl,q⟩
def tyV(K:Frag)(T:String)(x:V)(H:Hp):Prop:=match x with
 |.str _=>T ="str"|.int _=>T ="int"|.ref p=>(T ="list"/\∃xs,SqL K H p xs)\/(T ="tuple"/\∃o,K.lookup p=some o/\o.cls=.type "tuple"/\o.dict=none)\/(T ="dict"/\((∃kvs,H p=some (.dK kvs))\/∃kvs,H p=some (.dT kvs)))\/(T ="set"/\∃S n,H p=some (.set S n))
 |_=>False
theorem Qk5(I:Inv X pins σ H s)(r:RelV x v)(ty:tyV X.K T x H):
  s.TypeIs v T/\∀a,v=.ref a->∃ob,s.heap.get? a=some ob/\ob.dict=none:=by
 cases x with
 |str z =>obtain⟨t,rfl⟩:=r;cases (show T ="str" from ty);exact⟨typeIs_str s z t,λ_ e=>nomatch e⟩|int i =>obtain⟨t,rfl⟩:=r;cases (show T ="int" from ty);exact⟨typeIs_int s i t,λ_ e=>nomatch e⟩|ref p=>
  cases r;rcases ty with⟨rfl,xs,hq⟩|⟨rfl,o,hk,hc,hd⟩|⟨rfl,hk⟩|⟨rfl,S,n,hk⟩
  ·obtain⟨its,_,pl,_⟩:=I.list hq;refine⟨pl.isList.typeIs,λa e=>?_⟩;cases e;obtain⟨o,n,e,c,hd,_⟩:=pl;exact⟨o,e,hd⟩
  ·refine⟨⟨o,I.kIn p o hk,hc⟩,λa e=>?_⟩;cases e;exact⟨o,I.kIn _ o hk,hd⟩
  ·have z:∃o,s.heap.get? p=some o/\o.ExactDict:=by
    rcases hk with⟨kvs,hk⟩|⟨kvs,hk⟩
    ·obtain⟨_,_,_,_,o,_,_,e,ex,_⟩:=I.hok p _ hk;exact⟨o,e,ex⟩
    ·obtain⟨_,_,_,_,o,_,_,e,ex,_⟩:=I.hok p _ hk;exact⟨o,e,ex⟩
   obtain⟨o,e,ex⟩:=z;refine⟨⟨o,e,ex.1⟩,λa e2=>?_⟩;cases e2;exact⟨o,e,ex.2.1⟩
  ·obtain⟨o,_,_,_,e,ex,_⟩:=I.hok p _ hk;refine⟨⟨o,e,ex.1⟩,λa e2=>?_⟩;cases e2;exact⟨o,e,ex.2.1⟩
 |_=>exact False.elim ty
def tBM0(K:Frag)(T:String)(r:V->List V->Hp->VK->Prop)(to:TE):TE:=λσ H Q=>to σ H λx H1=>tyV K T x H1/\r x [] H1 Q
def tBM(K:Frag)(T:String)(r:V->List V->Hp->VK->Prop)(to:TE)(t:TA):TE:=λσ H Q=>to σ H λx H1=>tyV K T x H1/\t σ H1 λxs H2=>r x xs H2 Q
variable{o e:Expr}{es:List Expr}{to:TE}{t:TA}{name:Str}{apos cpos:Pos}{T id:String}{r:V->List V->Hp->VK->Prop}
theorem QnV(pa:PlainAttrs T)(slot:Slot T name id)(hty:typeOf (.builtin id)=pure (.type "method_descriptor"))(hm:MtR X id r)(ho:PE X o to)(hbase:attributeBase o name X.env (eval o X.env)=eval o X.env:=by rfl)(hline:(apos.endLine==cpos.line)=true:=by rfl):PE X (.Call (.Attribute o name apos) [] [] cpos) (tBM0 X.K T r to):=by intro pins s σ H Q I h;refine wpAny_Call_method0_late hbase hline (thn (ho pins s σ H _ I h) λv s1 ⟨x,H1,I1,r1,ty,q1⟩=>?_);obtain⟨h1,h2⟩:=Qk5 I1 r1 ty;exact⟨T,id,pa,slot,hty,h1,h2,RS rfl (PySem.evalArgs_none (hm pins s1 σ H1 x [] v [] Q I1 r1 .nil q1))⟩
theorem QnW(pa:PlainAttrs T)(slot:Slot T name id)(hty:typeOf (.builtin id)=pure (.type "method_descriptor"))(hm:MtR X id r)(ho:PE X o to)(ha:PA X (e::es) t)(hbase:attributeBase o name X.env (eval o X.env)=eval o X.env:=by rfl)(hfew:((backTo cpos (starEach (e::es) X.env)).all (λx=>!x.1)&&(backToKw cpos (keywordEach [] X.env)).all (λx=>x.1.isSome)
   && decide ((e::es).length+([]:List Keyword).length+(if ([]:List Keyword).isEmpty then 0 else 1)<30))=true:=by rfl)(hline:(apos.endLine==cpos.line)=true:=by rfl)(hs:starEach (e::es) X.env=(false,eval e X.env)::starEach es X.env:=by rfl)(hplain:(backTo cpos (starEach es X.env)).any (·.1)=false:=by rfl):
  PE X (.Call (.Attribute o name apos) (e::es) [] cpos) (tBM X.K T r to t):=by
 intro pins s σ H Q I h;refine wpAny_Call_method_late hbase hfew hline rfl (thn (ho pins s σ H _ I h) λv s1 ⟨x,H1,I1,r1,ty,q1⟩=>?_);obtain⟨h1,h2⟩:=Qk5 I1 r1 ty;refine⟨T,id,pa,slot,hty,h1,h2,?_⟩;have hA:=ha cpos pins s1 σ H1 _ I1 q1;rw[hs]at hA ⊢;refine RS (by show(false||(backTo cpos (starEach es X.env)).any (·.1))=false;rw[hplain]<;>rfl) (WZ ?_);exact thn hA λus s2 ⟨vs,H2,I2,r2,q2⟩=>hm pins s2 σ H2 x vs v us Q I2 r1 r2 q2
end
def MtM(X:Cx)(id:String)(r:V->List V->Hp->VK->Prop):Prop:=∀(pins:LAO)(s:Shared)(σ:St)(H:Hp)(x:V)(xs:List V)(v:Value)(us:List Value)(Q:VK),Inv X pins σ H s->RelV x v->Vals xs us->r x xs H Q->wpAny (model X.prog X.w) X.A (call (.builtin id) (v::us)) (EP X pins σ Q) X.xe s
theorem Vals.one:∀{x:V}{us:List Value},Vals [x] us->∃u,us=[u]/\RelV x u
 |_,_,.cons r .nil=>⟨_,rfl,r⟩
theorem Vals.two:∀{x y:V}{us:List Value},Vals [x,y] us->∃u v,us=[u,v]/\RelV x u/\RelV y v
 |_,_,_,.cons r (.cons q .nil)=>⟨_,_,rfl,r,q⟩
theorem Vals.zero:∀{us:List Value},Vals [] us->us=[]
 |_,.nil=>rfl
theorem Vals.dropLast(h:Vals xs us):Vals xs.dropLast us.dropLast:=by
 induction h with
 |nil=>exact .nil|cons r t ih=>
  cases t with
  |nil=>exact .nil|cons q t'=>exact .cons r ih
theorem Vals.eraseIdx:∀{xs:List V}{us:List Value}(i:Nat),Vals xs us->Vals (xs.eraseIdx i) (us.eraseIdx i)
 |_,_,_,.nil=>.nil|_,_,0,.cons _ t=>t|_,_,i+1,.cons r t=>.cons r (Vals.eraseIdx i t)
theorem Vals.reverse(h:Vals xs us):Vals xs.reverse us.reverse:=by
 induction h with
 |nil=>exact .nil|cons r t ih=>rw[List.reverse_cons,List.reverse_cons];exact Vals.append ih (.cons r .nil)
theorem QgK(l:List α):l.eraseIdx (l.length-1)=l.dropLast:=by
 induction l with
 |nil=>rfl|cons a r ih=>
  cases r with
  |nil=>rfl|cons b r=>
   have e:(a::b::r).length-1=((b::r).length-1)+1:=by have h1:(a::b::r).length=r.length+2:=rfl;have h2:(b::r).length=r.length+1:=rfl;omega
   rw[e,BF,ih];all_goals rfl
theorem Inv.lset{its its':List Value}{n:Nat}{f:Array Value->Array Value}{t':Nat}(I:Inv X pins σ H s)(hH:H l=some (.lst xs))(e:s.heap.get? l=some {cls:=.type "list",data:=.seq its.toArray n})(hf:f its.toArray=its'.toArray)(hv:Vals ys its')(hz:ys.length<=sizeLine):
  Inv X pins σ (upd H l (.lst ys)) {s with heap:=s.heap.update l (Obj.mapSeq f),toks:=t'}:=by
 have q:=PySem.IsL.update e f;rw[hf]at q;refine I.write (x:=l) (e:=l) (by rw[hH];exact trivial) (.inl rfl) (λb' u hb hu=>(Tt s.heap (Obj.mapSeq f) (Ne.symm hb)).trans hu) ⟨_,q⟩ ?_;exact⟨hz,its',_,hv,q⟩
theorem Inv.lnew(I:Inv X pins σ H s)(hv:Vals ys its)(hz:ys.length<=sizeLine):
  Inv X pins σ (upd H s.heap.objs.size (.lst ys)) {s with heap:=s.heap.push {cls:=.type "list",data:=.seq its.toArray},toks:=t'}:=I.laid (λ_ _ q=>Uc _ q) (Ug _) ⟨hz,its,0,hv,Uy _ rfl⟩
theorem Inv.fresh(I:Inv X pins σ H s):H s.heap.objs.size=none:=I.hok.fresh (Ug _)
theorem Inv.lstM(I:Inv X pins σ H s)(hH:H l=some (.lst xs)):xs.length<=sizeLine/\∃(its:List Value)(n:Nat),Vals xs its/\xs.length=its.length/\s.heap.get? l=some {cls:=.type "list",data:=.seq its.toArray n}:=by obtain⟨z,its,n,r,e⟩:=I.hok l _ hH;exact⟨z,its,n,r,r.length,e⟩
theorem Qj3(h:n<=sizeLine):Builtin.List.listTooLong n=false:=by unfold Builtin.List.listTooLong;exact UC (by omega)
def Qmc:V->List V->Hp->VK->Prop:=λx vs H Q=>∃l xs y,x=.ref l/\vs=[y]/\H l=some (.lst xs)/\xs.length<sizeLine/\Q .non (upd H l (.lst (xs++[y])))
theorem QhK:MtM X "list.append" Qmc:=by intro pins s σ H x vs v us Q I rx rv h;obtain⟨l,xs,y,rfl,rfl,hH,hz,q⟩:=h;cases rx;obtain⟨u,rfl,ru⟩:=rv.one;obtain⟨z,its,n,r,hl,e⟩:=I.lstM hH;refine B0 F.slot_list_append ⟨_,e,rfl⟩ F.entry_list_append (F.args_list_append_2 _ _) (PySem.list_append l its.toArray n u (by rw[Ux];omega)) ⟨e,?_⟩;refine⟨.non,_,I.lset (its':=its++[u]) hH e (by simp) (r.append (.cons ru .nil)) ?_,rfl,q⟩;rw[Us,Ti];omega
def Qmd:V->List V->Hp->VK->Prop:=λx vs H Q=>∃l b xs zs,x=.ref l/\vs=[.ref b]/\H l=some (.lst xs)/\H b=some (.lst zs)/\xs.length+zs.length<=sizeLine/\Q .non (upd H l (.lst (xs++zs)))
theorem QhL:MtM X "list.extend" Qmd:=by
 intro pins s σ H x vs v us Q I rx rv h;obtain⟨l,b,xs,zs,rfl,rfl,hH,hB,hz,q⟩:=h;cases rx;obtain⟨u,rfl,ru⟩:=rv.one;cases ru;obtain⟨z,its,n,r,hl,e⟩:=I.lstM hH;obtain⟨z2,its2,n2,r2,hl2,e2⟩:=I.lstM hB;have hsz:its.toArray.size+its2.toArray.size<=sizeLine:=by rw[Ux,Ux];omega
 have hlong:¬(!its.toArray.isEmpty&&Builtin.List.listTooLong (its.toArray.size+its2.toArray.size))=true:=by rw[Qj3 hsz,Bool.and_false];exact Ui
 refine B0 F.slot_list_extend ⟨_,e,rfl⟩ F.entry_list_extend (F.args_list_extend_2 _ _)
  (AutoSeq1.list_extend_list_list_0 l its.toArray n b its2.toArray n2 hlong (by rw[Ux];omega) (by omega)) ⟨e,e2,?_⟩
 refine⟨.non,_,I.lset (its':=its++its2) hH e (by simp) (r.append r2) ?_,rfl,q⟩;rw[Us];omega
def rPop:V->List V->Hp->VK->Prop:=λx vs H Q=>∃l xs y,x=.ref l/\vs=[]/\H l=some (.lst xs)/\xs[xs.length-1]?=some y/\Q y (upd H l (.lst xs.dropLast))
theorem QnX:MtM X "list.pop" rPop:=by
 intro pins s σ H x vs v us Q I rx rv h;obtain⟨l,xs,y,rfl,rfl,hH,hy,q⟩:=h;cases rx;have hus:=rv.zero;subst hus;obtain⟨z,its,n,r,hl,e⟩:=I.lstM hH;obtain⟨u,hu,ru⟩:=r.get hy;have hy':its.toArray[its.toArray.size-1]?=some u:=by show its.toArray[its.length-1]?=some u;rw[<-Tj,<-hl];exact hu
 refine B0 F.slot_list_pop ⟨_,e,rfl⟩ F.entry_list_pop (F.args_list_pop_1 _) (MeetsSeq.list_pop_last l its.toArray n u hy' (by rw[Ux];omega)) ⟨e,?_⟩;refine⟨y,_,I.lset (its':=its.dropLast) hH e ?_ r.dropLast ?_,ru,q⟩
 ·show its.toArray.eraseIdxIfInBounds (its.toArray.size-1)=its.dropLast.toArray;rw[Ux,List.eraseIdxIfInBounds_toArray,QgK]
 ·rw[Rc];omega
def rCat:R2:=λx y H Q=>∃l b xs zs,x=.ref l/\y=.ref b/\H l=some (.lst xs)/\H b=some (.lst zs)/\xs.length+zs.length<=sizeLine/\∀p,H p=none->Q (.ref p) (upd H p (.lst (xs++zs)))
theorem QnY:OpR X (binaryOp .Add) rCat:=by
 intro pins s σ H x y v u Q I rx ry h;obtain⟨l,b,xs,zs,rfl,rfl,hH,hB,hz,q⟩:=h;cases rx;cases ry;obtain⟨z,its,n,r,hl,e⟩:=I.lstM hH;obtain⟨z2,its2,n2,r2,hl2,e2⟩:=I.lstM hB;refine PySem.P.add_list e e2 ?_ (by rw[Ux,Ux];omega);have ea:its.toArray++its2.toArray=(its++its2).toArray:=by simp
 rw[ea];exact⟨.ref _,_,I.lnew (t':=s.toks) (r.append r2) (by rw[Us];omega),rfl,q _ I.fresh⟩
end L2
namespace Att
open PySem PySem.W PySem.Calls PyProof.Rows
theorem QbG  : ∀(ns:List Int)(vs:List Value),WellAll P h vs (ns.map WData.int)->IntsAre vs ns:=by
 intro ns;induction ns with
 |nil =>intro vs w;rw[List.map_nil]at w;cases w;exact .nil|cons n ns ih=>
  intro vs w;rw[UO]at w;cases w with
  |cons a b =>cases a;exact .cons _ _ (ih _ b)
theorem QhM{l:OpenLaw}{n:Nat}(hn:l.most=some n){P:Params}{h:Heap}{args:List WData}{vals:List Value}(hpre:l.row.toRowW.claim.pre args=true)(hwl:WellAll P h vals args):
  ∃a vs ns,vals=[Value.ref a]/\args=[WData.list (ns.map WData.int)]/\h.get? a=some {cls:=.type "list",data:=.seq vs.toArray}/\IntsAre vs ns/\ns.length<=n:=by
 have hsh:WShape.hasAll [] args [.list .int]=true:=(pre_splitW hpre).1;have hc:l.pre.holds [] {args:=args}=true:=(pre_splitW hpre).2;obtain⟨d,r,rfl,h1,h2⟩:=hasAllW_cons hsh;obtain rfl:=hasAllW_nil h2;obtain⟨xs,rfl,h3⟩:=hasW_list h1;obtain⟨ns,rfl⟩:=items_int h3;have hlen:ns.length<=n:=by
  unfold OpenLaw.pre at hc;have h4:(WTm.not (.lt (.lit (.int (n:Int))) (.len (.arg 0)))).holds [] {args:=[.list (ns.map .int)]}=true:=by have h4:=(holds_andW hc).1;rw[hn]at h4;exact h4
  have h5:=condW_of h4 (w_not (w_lt w_lit (w_len_list (w_arg rfl))));rw[Ud]at h5;refine Wl λq=>?_;have q':(n:Int)<((ns.length:Nat):Int):=by omega
  first
   | (rw[Uq q']at h5;exact absurd h5 (by decide))
   | (simp at h5;omega)
 cases hwl with
 |cons w1 w2=>
  cases w2;cases w1 with
  |list ho hall=>exact⟨_,_,ns,rfl,rfl,ho,QbG ns _ hall,hlen⟩
theorem QhN(l:OpenLaw)(args:List WData):l.row.toRowW.claim.post args (.bool true) args=true:=postW_of (r:=l.row.toRowW) (X:=(true==true))
  (show WShape.has [] (.bool true) .bool=true by first|rfl|decide|simp[WShape.has,WShape.arms,WShape.armsAll])
  (show(WTm.eq .res (.lit (.bool true))).value [] {args:=args,res:=some (.bool true),after:=args}=some (.bool (true==true)) from w_eq_bool (w_res rfl) w_lit) rfl
theorem attach_call{l:OpenLaw}{n:Nat}{q:Program}{loose:List Str}{XP:SOV->Heap->Prop}{YP:World->Heap->Prop}{d:DefRec}(hn:l.most=some n)(hdf:d.params.defaults=[])(call:∀(w:World) (s₀ s₁:Shared) (mg mb:SOV) (fa:Addr) (o:Obj) (pm cd doc:Value) (a:Addr) (vs:List Value) (ns:List Int),Ground q loose [] XP w s₀ mg mb s₁.heap->YP w s₁.heap->s₁.heap.get? fa=some o->o.data=.func (docDef d.name d.params d.body d.scope pm cd doc)->s₁.heap.CodeRec cd d.name->mg d.name=some (.ref fa)->s₁.heap.get? a=some {cls:=.type "list",data:=.seq vs.toArray}->IntsAre vs ns->ns.length<=n->s₁.gens = #[]->codeAny (model l.prog w) callerA (.call (.ref fa) ⟨[.ref a],[]⟩) (λr s'=>r=.ok (.ret (.bool true))/\OldK s₁.heap s'.heap/\s'.os=s₁.os/\AllBare s'.gens) s₁):
  WalkO q loose XP YP l.row.toRowW d [] (λf vs=>PySem.call f vs):=by
 intro w s₀ s₁ mg mb G Y fa o pm cd doc dV kV ho hd hcd hD hmg hg args vals as hpre hlay hrd hwl hlo;obtain rfl:dV=.none:=Dflts.none hD hdf;obtain rfl:kV=.none:=Dflts.noKw hD;obtain⟨a,vs,ns,rfl,rfl,hobj,hints,hlen⟩:=QhM hn hpre hwl;refine enter_call (BV (call w s₀ s₁ mg mb fa o pm cd doc a vs ns G Y ho (fd_plain hd) hcd hmg hobj hints hlen hg) λr s' hq=>?_);obtain⟨rfl,h2,h3,h4⟩:=hq;exact⟨.inl ⟨.bool true,.bool true,[],rfl,λ_=>rfl,.bool true,QhN l _,λ_=>⟨List.Pairwise.nil,λ_ hm=>(nomatch hm)⟩⟩,h2,h3,h4⟩
end Att
namespace L2
open PySem PySem.Spec PyProof.Rows
theorem Qed:∀{vs:List Value}{ns:List Int},IntsAre vs ns->Vals (ns.map V.int) vs
 |_,_,.nil=>.nil|_,_,.cons n t h=>.cons ⟨t,rfl⟩ (Qed h)
def Only(H:Hp):Prop:=∀b,H b=none\/∃o xs,H b=some (.frz o (.lst xs))
theorem Qj4{P:Program}{w:World}{K:Frag}{mg mb:SOV}{CX:CXT}{k:Nat}{fa a:Addr}{fd:FuncData}{x:Str}{sp:Sp}{s₁:Shared}{vs:List Value}{ns:List Int}(KX:K.In s₁.heap)(hns:s₁.heap.Ns mainGlobals mg)(hb:s₁.heap.Ns builtinsNs mb)(hbb:∀x:Str,x ≠"__name__"->mb x=bootBuiltins x)(hlim:s₁.heap.NoLimit)(hg:s₁.gens = #[])(ha:s₁.heap.get? a=some {cls:=.type "list",data:=.seq vs.toArray})(hi:IntsAre vs ns)(hl:ns.length<=sizeLine)(hr:Room k callerA)(F:∀base:Heap,K.In base->base.Ns mainGlobals mg->FnOk P w K mg base CX k fa fd [x] sp)(hbind:∀(s:Shared) (u:Value),BindsTo s fd ⟨[u],[]⟩ [(x,u)])(hsp:∀H:Hp,Only H->SqL K H a (ns.map V.int)->sp [.ref a] H (λv _=>v=.bl true) λ_ _ _=>False)(hCX:∀H e s',CX [] H s₁ (λ_ _ _=>False) e s'->False):
  codeAny (model P w) callerA (.call (.ref fa) ⟨[.ref a],[]⟩) (λr s'=>r=.ok (.ret (.bool true))/\OldK s₁.heap s'.heap/\s'.os=s₁.os/\AllBare s'.gens) s₁:=by
 have rv:=Qed hi;have lenV:=hi.length
 -- from an abstract heap in which nothing but the script may be tracked
 have core:∀H:Hp,Only H->SqL K H a (ns.map V.int)->HOk P w H s₁.heap->(∀b,H b≠none->b=a)->(H a≠none->K.lookup a=none)->codeAny (model P w) callerA (.call (.ref fa) ⟨[.ref a],[]⟩) (λr s'=>r=.ok (.ret (.bool true))/\OldK s₁.heap s'.heap/\s'.os=s₁.os/\AllBare s'.gens) s₁:=by
  intro H hO hS hok hA hK;have base_of:∀{b:Addr}{o:Obj},s₁.heap.get? b=some o->H b=none->(hidT s₁.heap H).get? b=some o:=λe n=>QjP e n;have noA:∀{b:Addr}{o:Obj}{es:Array DictEntry}{ep:Nat},s₁.heap.get? b=some o->o.data=.dict es ep->H b=none:=λ{b o es ep} e d=>by
   cases q:H b with
   |none=>rfl|some u =>have e':b=a:=hA b (by rw[q];simp);subst e';rw[ha]at e;cases e;have d':Data.seq vs.toArray _=Data.dict es ep:=d;cases d'
  have nsK:∀{b:Addr}{m:SOV},s₁.heap.Ns b m->(hidT s₁.heap H).Ns b m:=λ{b m} ⟨o,es,ep,e,d,r⟩=>⟨o,es,ep,base_of e (noA e d),d,r⟩;have hKb:K.In (hidT s₁.heap H):=λb o e=>base_of (KX b o e) (by
   cases q:H b with
   |none=>rfl|some u =>have e':b=a:=hA b (by rw[q];simp);subst e';rw[hK (by rw[q];simp)]at e;cases e)
  have hM:Mod K mg (hidT s₁.heap H):=⟨hKb,nsK hns,⟨mb,nsK hb,hbb⟩,let ⟨mc,h1,h2⟩:=hlim;⟨mc,nsK h1,h2⟩⟩;have e0:Env0 P w K mg (hidT s₁.heap H) callerA [] s₁ H:=⟨rfl,hM,λb o e=>QlS e,WH (Qhs _ _),trivial,λb hb=>absurd (show b∈([]:List Addr) from hb) (by simp),hok,.of_eq hg⟩;refine BV ((F _ hKb (nsK hns)).run callerA [] s₁ H ⟨[.ref a],[]⟩ [.ref a] [.ref a] _ _ hr e0 (hbind s₁ (.ref a)) (.cons rfl .nil) (hsp H hO hS)) λr s' h=>?_;cases r with
  |error e=>exact(hCX H e s' h).elim|ok fl=>
   cases fl with
   |next=>exact False.elim h|brk=>exact False.elim h|cont=>exact False.elim h|ret u=>
    obtain⟨v,H',os,bare,un,hok',r',q⟩:=h;have q':v=.bl true:=q;subst q';obtain rfl:u=Value.bool true:=r';refine⟨rfl,OldK.of_keep λb o e=>?_,os,bare⟩;cases q:H b with
    |none=>exact un.keep b o e q (by intro z;exact absurd (show b∈([]:List Addr) from z) (by simp)) (by simp)|some u=>
     rcases hO b with z|⟨ob,xs,z⟩
     ·rw[q]at z;cases z
     ·have z2:=un.frzs b ob _ z;obtain⟨e1,_⟩:=hok b _ z;obtain⟨e2,_⟩:=hok' b _ z2;rw[e]at e1;cases e1;exact e2
 cases hk:K.lookup a with
 |some o=>
  -- the script is one of the module's own objects
  have e:=KX a o hk;rw[ha]at e;cases e;refine core (λ_=>none) (λ_=>.inl rfl) (.inr ⟨_,vs.toArray,_,hk,rfl,rfl,rfl,by rw[Ux,lenV];exact hl,by simpa using rv⟩) (λb u z=>by have z':(none:Option HO)=some u:=z;cases z') (λb z=>absurd rfl z) λz=>absurd rfl z
 |none=>
  refine core (λb=>if b=a then some (.frz {cls:=.type "list",data:=.seq vs.toArray} (.lst (ns.map V.int))) else none) (λb=>?_) (.inl (.inr ⟨{cls:=.type "list",data:=.seq vs.toArray},Ue rfl⟩)) (λb u z=>?_) (λb z=>?_) λ_=>hk
  ·by_cases hb:b=a
   ·exact .inr ⟨_,_,Ue hb⟩
   ·exact .inl (Uf hb)
  ·by_cases hb:b=a
   ·have z':=(Ue hb).symm.trans z;cases z';subst hb;exact⟨ha,by rw[Ud];exact hl,vs,_,rv,ha⟩
   ·have z':=(Uf hb).symm.trans z;cases z'
  ·by_cases hb:b=a
   ·exact hb
   ·exact absurd (Uf hb) z
theorem walk_of{l:PySem.W.OpenLaw}{n k:Nat}{q:Program}{loose:List Str}{XP:SOV->Heap->Prop}{YP:World->Heap->Prop}{d:DefRec}{K:Params->Frag}{CX:World->CXT}{sp:World->Sp}{x:Str}(hn:l.most=some n)(hn2:n<=sizeLine)(hdf:d.params.defaults=[])(hr:Room k callerA)(hY:∀(w:World) (h:Heap),YP w h->(K w.params).In h)(F:∀(w:World) (mg:SOV) (fa:Addr) (h:Heap),(K w.params).In h->h.Ns mainGlobals mg->mg d.name=some (.ref fa)->∃fd:FuncData,(∀(s:Shared) (u:Value),BindsTo s fd ⟨[u],[]⟩ [(x,u)])/\∀base:Heap,(K w.params).In base->base.Ns mainGlobals mg->FnOk l.prog w (K w.params) mg base (CX w) k fa fd [x] (sp w))(hsp:∀(w:World) (H:Hp) (a:Addr) (ns:List Int),ns.length<=n->Only H->SqL (K w.params) H a (ns.map V.int)->sp w [.ref a] H (λv _=>v=.bl true) λ_ _ _=>False)(hCX:∀(w:World) (H:Hp) (s:Shared) (e:Value) (s':Shared),CX w [] H s (λ_ _ _=>False) e s'->False):
  PySem.W.WalkO q loose XP YP l.row.toRowW d [] (λf vs=>PySem.call f vs):=by
 refine Att.attach_call hn hdf λw s₀ s₁ mg mb fa o pm cd doc a vs ns G Y ho hd hcd hmg hobj hints hlen hg=>?_;have KX:=hY w _ Y;obtain⟨fd,hb,hF⟩:=F w mg fa _ KX G.T.g hmg;exact Qj4 KX G.T.g G.T.b G.T.builtins G.T.nolimit hg hobj hints (Uk hlen hn2) hr hF hb (λH hO hS=>hsp w H a ns hlen hO hS) λH e s'=>hCX w H s₁ e s'
def Ym(s:Stmt)(j:Nat):Stmt:=match s with
 |.ClassDef _ _ _ body _ _ _ _ _ _ _=>body.getD j (.Pass ⟨0,0,0,0⟩)|_=>.Pass ⟨0,0,0,0⟩
def Y6(s:Stmt):Arguments:=match s with
 |.FunctionDef _ a _ _ _ _ _ _ _ _=>a|_=>{posonlyargs:=[],args:=[],vararg:=none,kwonlyargs:=[],kw_defaults:=[],kwarg:=none,defaults:=[]}
def Z1(s:Stmt):List Stmt:=match s with
 |.FunctionDef _ _ b _ _ _ _ _ _ _=>b|_=>[]
def Qe(s:Stmt):Scope:=match s with
 |.FunctionDef _ _ _ _ _ _ sc _ _ _=>sc|_=>{kind:=.function,names:=[],isGenerator:=false,isCoroutine:=false}
abbrev CX0:CXT:=λ_ _ _ _ _ _=>False
structure Fun(K:Frag)(x qual:Str)(st:Stmt)(f:Addr)(fd:FuncData):Prop where
 ex:∃(oc:Value)(od:Option Addr)(kV doc pm:Value)(an:Option Addr)(cdv ct:Value)(osl:Array (Option Value)),fd=fnOf x qual (Y6 st) (Z1 st) (Qe st) .none kV doc pm an cdv ct/\K.lookup f=some ⟨oc,od,.func fd,osl⟩/\codeIn K cdv qual=true
 kp:keepIn K (.ref f)=true
section
variable{P:Program}{w:World}{K:Frag}{mg:SOV}{base:Heap}
theorem Fun.ok{x qual:Str}{st:Stmt}{f:Addr}{fd:FuncData}{N ps:List Str}{k:Nat}{sp:Sp}(F:Fun K x qual st f fd)(S:FnScope N ps (Qe st))(len:∀vs H Q E,sp vs H Q E->vs.length=ps.length)(hbody:∀(cdv:Value) (A:Around) (outer:List Env) (s:Shared) (H:Hp) (vs:List V) (Q:VK) (E:XK),Room k (A.deeper (envOfC qual (Qe st) s.heap.objs.size f cdv))->sp vs H Q E->∃t,PSs (cxOf CX0 P w K mg base N qual (Qe st) f cdv A outer s H E).nox (Z1 st) t/\t {nx:=λ_ H'=>Q .non H',rt:=Q} (start N vs) H):FnOk P w K mg base CX0 (k+1) f fd ps sp:=by
 obtain⟨oc,od,kV,doc,pm,an,cdv,ct,osl,rfl,lk,hcd⟩:=F.ex;refine QnP lk hcd S len λA outer s H vs Q E hr hsp=>?_;obtain⟨t,h,q⟩:=hbody cdv A outer s H vs Q E hr hsp;exact⟨t,h.nox,q⟩
theorem Fun.binds{x qual:Str}{st:Stmt}{f:Addr}{fd:FuncData}{ps:List Str}(F:Fun K x qual st f fd)(h:∀(kV doc pm:Value) (an:Option Addr) (cdv ct:Value) (us:List Value),us.length=ps.length->bindArgs (fnOf x qual (Y6 st) (Z1 st) (Qe st) .none kV doc pm an cdv ct) ⟨us,[]⟩=pure (ps.zip us)):Binds K fd ps []:=by obtain⟨oc,od,kV,doc,pm,an,cdv,ct,osl,rfl,lk,hcd⟩:=F.ex;exact .all (h kV doc pm an cdv ct)
theorem QhO{x qual:Str}{st:Stmt}{f:Addr}{oc:Value}{od an:Option Addr}{osl:Array (Option Value)}{kV doc pm cdv ct:Value}(l:K.lookup f=some ⟨oc,od,.func (fnOf x qual (Y6 st) (Z1 st) (Qe st) .none kV doc pm an cdv ct),osl⟩)(c:codeIn K cdv qual=true)(k:keepIn K (.ref f)=true):Fun K x qual st f (fnOf x qual (Y6 st) (Z1 st) (Qe st) .none kV doc pm an cdv ct):=⟨⟨oc,od,kV,doc,pm,an,cdv,ct,osl,rfl,l,c⟩,k⟩
end
def Same(H H':Hp):Prop:=∀b o,H b=some o->H' b=some o
theorem Same.refl(H:Hp):Same H H:=λ_ _ h=>h
theorem Same.trans(a:Same H H1)(b:Same H1 H2):Same H H2:=λc o h=>b c o (a c o h)
theorem Same.free(e:Same H H')(h:H' l=Option.none):H l=Option.none:=by
 cases q:H l with
 |none=>rfl|some o =>rw[e l o q]at h;cases h
theorem Same.seq{K:Frag}{H H':Hp}{a:Addr}{xs:List V}(e:Same H H')(h:SqL K H a xs):SqL K H' a xs:=by
 rcases h with(h|⟨o,h⟩)|h
 ·exact .inl (.inl (e _ _ h))
 ·exact .inl (.inr ⟨o,e _ _ h⟩)
 ·exact .inr h
end L2
set_option maxHeartbeats 4000000
namespace SO
open PySem PyProof PyProof.Rows
class Rk where
 rk:Value->Int
 ok:Keyed->Prop
 kd:SortKind
abbrev KI[Rk](x:Keyed):Prop:=Rk.ok x
noncomputable abbrev nk[Rk](x:Keyed):Int:=Rk.rk x.1
class Cmp [Rk] (prog:Program) (w:World) (A:Around) (s:Shared):Prop where
 lt:∀x y,KI x->KI y->∀{E:VP}{Q:Bool->Shared->Prop},Q (decide (nk x<nk y)) s->wpAny (model prog w) A (keyLt' Rk.kd x.1 y.1) Q E s
variable[Rk]
noncomputable def K(xs:Array Keyed)(i:Nat):Int:=match xs[i]? with
 |some p=>nk p|none=>0
def JE(xs:Array Keyed)(k:Nat):Prop:=∀i j,i<=j->j<k->K xs i<=K xs j
theorem Qda(h:xs[i]?=ys[j]?):K xs i=K ys j:=by unfold K;rw[h]
theorem K_eq(hi:i<xs.size):K xs i=nk xs[i]:=by unfold K;rw[BW xs i hi]
theorem Qj5(hs:src<xs.size)(hd:d<=src)(k:Nat):K (bubble xs src d) k=if k=src-d then K xs src else if src-d<k/\k<=src then K xs (k-1) else K xs k:=by
 have e:=getElem?_bubble hs d hd k
 repeat' split
 all_goals (first|rw[Ue (by assumption)]at e|(rw[Uf (by assumption)]at e;first|rw[Ue (by assumption)]at e|rw[Uf (by assumption)]at e))
 all_goals exact Qda e
theorem Qbm(hj:j<=xs.size)(k:Nat):K (mirror xs i j ((j-i) / 2)) k=if i<=k/\k<j then K xs (i+j-1-k) else K xs k:=by
 have e:=getElem?_mirror_all (i:=i) hj k;split
 ·rw[Ue (by assumption)]at e;exact Qda e
 ·rw[Uf (by assumption)]at e;exact Qda e
theorem Zj(hj:j<=xs.size)(heq:∀k,i<=k->k<j->K xs k=K xs (j-1))(k:Nat):K (mirror xs i j ((j-i) / 2)) k=K xs k:=by
 rw[Qbm hj];split
 ·rw[heq _ (by omega) (by omega),heq k (by omega) (by omega)]
 ·rfl
noncomputable def gal':Bool->Keyed->Array Keyed->Nat->Nat->Nat->StateT SortSt Sem (Option Nat):=sortPriv% PySem.Builtin.gallop
noncomputable def look(lf:Bool)(ky:Keyed)(ar:Array Keyed)(bs i:Nat):StateT SortSt Sem (Option Bool):=do
 let z <-elem' ar (bs+i)
 if lf then lt' z ky else return (<-lt' ky z).map (!·)
theorem Qme(lf:Bool)(ky:Keyed)(ar:Array Keyed)(bs n hn:Nat):gal' lf ky ar bs n hn=(do
 let mut lst:=0
 let mut o:=1
 let mut lo:=0
 let mut hi:=0
 let some r <-look lf ky ar bs hn|return none
 if r then
  let mx:=n-hn
  for _ in [0:n] do
   if o>=mx then break
   let some m <-look lf ky ar bs (hn+o)|return none
   if !m then break
   lst:=o
   o:=2*o+1
  lo:=hn+lst+1
  hi:=hn+min o mx
 else
  let mx:=hn+1
  for _ in [0:n] do
   if o>=mx then break
   let some f <-look lf ky ar bs (hn-o)|return none
   if f then break
   lst:=o
   o:=2*o+1
  lo:=hn+1-min o mx
  hi:=hn-lst
 for _ in [0:n] do
  if lo>=hi then break
  let m:=lo+(hi-lo) / 2
  let some y <-look lf ky ar bs m|return none
  if y then lo:=m+1 else hi:=m
 return some hi):=rfl
section
variable{A:Around}{E:VP}{s:Shared}
theorem Qp{σ α:Type}{M:Model}{c:Prop}[Decidable c]{m1 m2:StateT σ Sem α}{Q:α->σ->Prop}{st:σ}(h:c)(k:wpS M A E s m1 Q st):wpS M A E s (if c then m1 else m2) Q st:=by rw[Ue h];exact k
theorem Qq{σ α:Type}{M:Model}{c:Prop}[Decidable c]{m1 m2:StateT σ Sem α}{Q:α->σ->Prop}{st:σ}(h:¬c)(k:wpS M A E s m2 Q st):wpS M A E s (if c then m1 else m2) Q st:=by rw[Uf h];exact k
theorem Qee{σ α:Type}{M:Model}{c:Prop}[Decidable c]{m1 m2:StateT σ Sem α}{Q:α->σ->Prop}{st:σ}(k1:wpS M A E s m1 Q st)(k2:wpS M A E s m2 Q st):wpS M A E s (if c then m1 else m2) Q st:=by
 split
 ·exact k1
 ·exact k2
theorem Zl{x y:Nat}(h:¬x=y):¬(x==y)=true:=λe=>h (TB.mp e)
theorem QQ{x y:Nat}(h:x=y):(x==y)=true:=TB.mpr h
theorem QbH[Decidable p](h:¬p):¬decide p=true:=λe=>h (UA e)
end
section
variable{prog:Program}{w:World}{A:Around}{E:VP}{s:Shared}[Cmp prog w A s]
theorem QhP{st:SortSt}{x y:Keyed}{Q:Option Bool->SortSt->Prop}(hk:kindOf st=Rk.kd)(hx:KI x)(hy:KI y)(h:Q (some (decide (nk x<nk y))) st):wpS (model prog w) A E s (lt' x y) Q st:=by rw[lt'_eq];refine Uo (Bt ?_);rw[hk];exact Uo (BU (Ru (Cmp.lt x y hx hy ⟨rfl,Uv h⟩)))
theorem QK{st:SortSt}{ar:Array Keyed}{i:Nat}{Q:Keyed->SortSt->Prop}(hi:i<ar.size)(h:Q ar[i] st):
  wpS (model prog w) A E s (elem' ar i) Q st:=by
 rw[elem'_eq,BW ar i hi];exact Uv h
noncomputable def LK(lf:Bool)(kv v:Int):Bool:=if lf then decide (v<kv) else decide (v<=kv)
theorem Qmf{st:SortSt}{lf:Bool}{ky:Keyed}{ar:Array Keyed}{bs i:Nat}{Q:Option Bool->SortSt->Prop}(hk:kindOf st=Rk.kd)(hky:KI ky)(ha:∀x∈ar,KI x)(hi:bs+i<ar.size)(h:Q (some (LK lf (nk ky) (nk ar[bs+i]))) st):
  wpS (model prog w) A E s (look lf ky ar bs i) Q st:=by
 unfold look;refine Uo (QK hi ?_);have hz:=ha _ (U2 hi);cases lf with
 |true =>rw[Ue rfl];exact QhP hk hz hky (by unfold LK at h;rw[Ue rfl]at h;exact h)|false=>
  rw[Uf (by decide)];refine Uo (QhP hk hky hz (Uv ?_));have e:(some (decide (nk ky<nk ar[bs+i]))).map (!·)=some (decide (nk ar[bs+i]<=nk ky)):=by show some (!decide _)=_;rw[<-decide_not];exact RL some (TM.mpr WA)
  rw[e];unfold LK at h;rw[Uf (by decide)]at h;exact h
theorem QnZ{st:SortSt}{lf:Bool}{ky:Keyed}{ar:Array Keyed}{bs n hn:Nat}{Q:Option Nat->SortSt->Prop}(hk:kindOf st=Rk.kd)(hky:KI ky)(ha:∀x∈ar,KI x)(hb:bs+n<=ar.size)(hh:hn<n)(p:Nat->Bool)(hp:∀i (h:bs+i<ar.size),i<n->p i=LK lf (nk ky) (nk ar[bs+i]))(mono:∀i j,i<=j->j<n->p j=true->p i=true)(h:∀k,k<=n->(∀i,i<k->p i=true)->(∀i,k<=i->i<n->p i=false)->Q (some k) st):
  wpS (model prog w) A E s (gal' lf ky ar bs n hn) Q st:=by
 have ask:∀{i:Nat}{R:Option Bool->SortSt->Prop},i<n->R (some (p i)) st->wpS (model prog w) A E s (look lf ky ar bs i) R st:=by intro i R hi hR;exact Qmf hk hky ha (by omega) (by rw[<-hp i (by omega) hi];exact hR)
 have bin:∀{lo hi:Nat}{R:Option (Option Nat)×Nat×Nat->SortSt->Prop},lo<=hi->hi<=n->(∀i,i<lo->p i=true)->(∀i,hi<=i->i<n->p i=false)->(∀l k,k<=n->(∀i,i<k->p i=true)->(∀i,k<=i->i<n->p i=false)->R (none,l,k) st)->
   wpS (model prog w) A E s (forIn [0:n] ((none,lo,hi):Option (Option Nat)×Nat×Nat) λ_ c=>do
    if c.2.1>=c.2.2 then pure (ForInStep.done (none,c.2.1,c.2.2)) else do
     let z <-look lf ky ar bs (c.2.1+(c.2.2-c.2.1) / 2)
     match z with
     |some y=>if y=true then pure (ForInStep.yield (none,c.2.1+(c.2.2-c.2.1) / 2+1,c.2.2)) else pure (ForInStep.yield (none,c.2.1,c.2.1+(c.2.2-c.2.1) / 2))
     |_=>pure (ForInStep.done (some none,c.2.1,c.2.2))) R st:=by
  intro lo hi R h1 h2 h3 h4 hR;refine Tf (I:=λx c st'=>st'=st/\∃l r,c=(none,l,r)/\l<=r/\r<=n/\r-l<=n-x/\(∀i,i<l->p i=true)/\(∀i,r<=i->i<n->p i=false)) ?step ?fin ⟨rfl,lo,hi,rfl,h1,h2,by omega,h3,h4⟩;case fin=>
   rintro c st' ⟨rfl,l,r,rfl,a1,a2,a3,a4,a5⟩;have e:l=r:=by omega
   subst e;exact hR l l a2 a4 a5
  case step=>
   rintro x c st' _ hx ⟨rfl,l,r,rfl,a1,a2,a3,a4,a5⟩;dsimp only;by_cases hge:l>=r
   ·refine Qp hge ?_;have e:l=r:=by omega
    subst e;exact Uv (hR l l a2 a4 a5)
   ·refine Qq hge ?_;refine Uo (ask (by omega) ?_);dsimp only;cases hm:p (l+(r-l) / 2) with
    |true =>refine Qp rfl ?_;exact Uv ⟨rfl,_,r,rfl,by omega,a2,by omega,λi hi=>mono i _ (by omega) (by omega) hm,a5⟩|false=>
     refine Qq (by decide) ?_;refine Uv ⟨rfl,l,_,rfl,by omega,by omega,by omega,a4,λi q1 q2=>?_⟩;cases hi:p i with
     |false=>rfl|true=>rw[mono _ i q1 q2 hi]at hm;cases hm
 rw[Qme];refine Uo (ask hh ?_);dsimp only;cases hq:p hn with
 |true=>
  refine Qp rfl ?_;refine Uo (Tf (I:=λx c st'=>st'=st/\∃l o,c=(none,l,o)/\l+1<=o/\x+1<=o/\hn+l<n/\p (hn+l)=true) ?step ?fin ⟨rfl,0,1,rfl,by omega,by omega,by omega,hq⟩);case fin =>rintro c st' ⟨rfl,l,o,rfl,a1,a2,a3,a4⟩;dsimp only;refine Uo (bin (by omega) (by omega) (λi hi=>mono i _ (by omega) a3 a4) (λi q1 q2=>absurd q2 (by omega)) λl' k b1 b2 b3=>Uv (h k b1 b2 b3))
  case step=>
   rintro x c st' _ hx ⟨rfl,l,o,rfl,a1,a2,a3,a4⟩;dsimp only;by_cases hge:o>=n-hn
   ·refine Qp hge ?_;refine Uv ?_;dsimp only;exact(Uo (bin (by omega) (by omega) (λi hi=>mono i _ (by omega) a3 a4) (λi q1 q2=>absurd q2 (by omega)) λl' k b1 b2 b3=>Uv (h k b1 b2 b3)))
   ·refine Qq hge ?_;refine Uo (ask (by omega) ?_);dsimp only;cases hm:p (hn+o) with
    |true =>refine Qq (by decide) ?_;exact Uv ⟨rfl,o,_,rfl,by omega,by omega,by omega,hm⟩|false=>
     refine Qp (by decide) ?_;refine Uv ?_;dsimp only;refine(Uo (bin (by omega) (by omega) (λi hi=>mono i _ (by omega) a3 a4) (λi q1 q2=>?_) λl' k b1 b2 b3=>Uv (h k b1 b2 b3)));cases hi:p i with
     |false=>rfl|true=>rw[mono (hn+o) i (by omega) q2 hi]at hm;cases hm
 |false=>
  rw[Uf (by decide)];have lowF:∀{l:Nat},l<=hn->p (hn-l)=false->∀i,hn-l<=i->i<n->p i=false:=by
   intro l _ hl i q1 q2;cases hi:p i with
   |false=>rfl|true=>rw[mono (hn-l) i q1 q2 hi]at hl;cases hl
  refine Uo (Tf (I:=λx c st'=>st'=st/\∃l o,c=(none,l,o)/\l+1<=o/\x+1<=o/\l<=hn/\p (hn-l)=false) ?step ?fin ⟨rfl,0,1,rfl,by omega,by omega,by omega,hq⟩);case fin =>rintro c st' ⟨rfl,l,o,rfl,a1,a2,a3,a4⟩;dsimp only;refine Uo (bin (by omega) (by omega) (λi hi=>absurd hi (by omega)) (lowF a3 a4) λl' k b1 b2 b3=>Uv (h k b1 b2 b3))
  case step=>
   rintro x c st' _ hx ⟨rfl,l,o,rfl,a1,a2,a3,a4⟩;dsimp only;by_cases hge:o>=hn+1
   ·refine Qp hge ?_;refine Uv ?_;dsimp only;exact(Uo (bin (by omega) (by omega) (λi hi=>absurd hi (by omega)) (lowF a3 a4) λl' k b1 b2 b3=>Uv (h k b1 b2 b3)))
   ·refine Qq hge ?_;refine Uo (ask (by omega) ?_);dsimp only;cases hm:p (hn-o) with
    |true =>refine Qp rfl ?_;refine Uv ?_;dsimp only;exact(Uo (bin (by omega) (by omega) (λi hi=>mono i (hn-o) (by omega) (by omega) hm) (lowF a3 a4) λl' k b1 b2 b3=>Uv (h k b1 b2 b3)))|false =>refine Qq (by decide) ?_;exact Uv ⟨rfl,o,_,rfl,by omega,by omega,by omega,hm⟩
end
noncomputable def mlo':Array Keyed->Array Keyed->StateT SortSt Sem (Array Keyed):=sortPriv% PySem.Builtin.mergeLo
noncomputable def mhi':Array Keyed->Array Keyed->StateT SortSt Sem (Array Keyed):=sortPriv% PySem.Builtin.mergeHi
noncomputable def setG(g:Nat):StateT SortSt Sem Unit:=modify λz=>SortSt.mk' (kindOf z) (arrOf z) (pendingOf z) g (failedOf z)
abbrev Srt(l:List Keyed):Prop:=l.Pairwise λx y=>nk x<=nk y
structure JL(o p q t:List Keyed):Prop where
 perm:(o++(p++q)).Perm t
 sp:Srt (o++p)
 sq:Srt (o++q)
theorem JL.swap(h:JL o p q t):JL o q p t:=⟨(WL o WM).trans h.perm,h.sq,h.sp⟩
theorem JL.take(h:JL o (x++p) q t)(c:∀u∈x,∀v∈q,nk u<=nk v):JL (o++x) p q t:=by
 refine⟨by rw[Ut,<-Ut x];exact h.perm,by rw[Ut];exact h.sp,?_⟩;have h1:=h.sp;rw[<-Ut]at h1;have h2:=Re.mp h.sq;refine Re.mpr ⟨(Re.mp h1).1,h2.2.1,λu hu v hv=>?_⟩;rcases Uu.mp hu with hu|hu
 ·exact h2.2.2 u hu v hv
 ·exact c u hu v hv
abbrev Mrg(out a b:Array Keyed):Prop:=out.toList.Perm (a.toList++b.toList)/\Srt out.toList
theorem Qdb(a:Array Keyed)(i:Nat):(a.extract i a.size).toList=a.toList.drop i:=by rw[Wf,RF,RT];simp
theorem Qk6(a:Array Keyed)(i k:Nat):(a.extract i (i+k)).toList=(a.toList.drop i).take k:=by rw[Wf,RF,Ri]
theorem YB(h:i<a.size):nk a[i]=K a i:=(K_eq h).symm
theorem Qbn(h:y∈a.toList.drop i):∃m,i<=m/\m<a.size/\nk y=K a m:=by obtain⟨m,hm,e⟩:=RM h;rw[Rt,Ur]at hm;rw[List.getElem_drop,TL]at e;exact⟨i+m,by omega,by omega,by rw[<-e,YB]⟩
theorem JF(h:y∈(a.toList.drop i).take k):∃m,i<=m/\m<i+k/\m<a.size/\nk y=K a m:=by obtain⟨m,hm,e⟩:=RM h;rw[Tw,Rt,Ur]at hm;rw[List.getElem_take,List.getElem_drop,TL]at e;exact⟨i+m,by omega,by omega,by omega,by rw[<-e,YB]⟩
theorem QhQ{a:Array Keyed}{i:Nat}(h:i<a.size):a.toList.drop i=a[i]::a.toList.drop (i+1):=by rw[Wm (by rw[Ur];exact h),TL]
structure Mid(a b r:Array Keyed)(i j:Nat):Prop where
 jl:JL r.toList (a.toList.drop i) (b.toList.drop j) (a.toList++b.toList)
 hi:i<=a.size
 hj:j<=b.size
theorem Mid.size(M:Mid a b r i j):r.size+(a.size-i)+(b.size-j)=a.size+b.size:=by have:=M.jl.perm.length_eq;simp only[Us,Rt,Ur]at this;omega
theorem Mid.pushA{a b r:Array Keyed}{i j:Nat}(M:Mid a b r i j)(h:i<a.size)(c:∀m,j<=m->m<b.size->K a i<=K b m):Mid a b (r.push a[i]) (i+1) j:=by refine⟨?_,h,M.hj⟩;rw[Wb];refine JL.take (by have:=M.jl;rw[QhQ h]at this;exact this) λu hu v hv=>?_;obtain⟨m,h1,h2,e⟩:=Qbn hv;rw[Uj.mp hu,YB h,e];exact c m h1 h2
theorem Mid.pushB{a b r:Array Keyed}{i j:Nat}(M:Mid a b r i j)(h:j<b.size)(c:∀m,i<=m->m<a.size->K b j<=K a m):Mid a b (r.push b[j]) i (j+1):=by refine⟨?_,M.hi,h⟩;rw[Wb];refine(JL.take (by have:=M.jl.swap;rw[QhQ h]at this;exact this) λu hu v hv=>?_).swap;obtain⟨m,h1,h2,e⟩:=Qbn hv;rw[Uj.mp hu,YB h,e];exact c m h1 h2
theorem Mid.manyA(M:Mid a b r i j)(h:i+k<=a.size)(c:∀m n,i<=m->m<i+k->j<=n->n<b.size->K a m<=K b n):Mid a b (r++a.extract i (i+k)) (i+k) j:=by refine⟨?_,h,M.hj⟩;rw[UZ,Qk6];refine JL.take (by rw[<-Bp,Tz];exact M.jl) λu hu v hv=>?_;obtain⟨m,h1,h2,h3,e⟩:=JF hu;obtain⟨n,h4,h5,e2⟩:=Qbn hv;rw[e,e2];exact c m n h1 h2 h4 h5
theorem Mid.manyB(M:Mid a b r i j)(h:j+k<=b.size)(c:∀m n,j<=m->m<j+k->i<=n->n<a.size->K b m<=K a n):Mid a b (r++b.extract j (j+k)) i (j+k):=by refine⟨?_,M.hi,h⟩;rw[UZ,Qk6];refine(JL.take (by rw[<-Bp,Tz];exact M.jl.swap) λu hu v hv=>?_).swap;obtain⟨m,h1,h2,h3,e⟩:=JF hu;obtain⟨n,h4,h5,e2⟩:=Qbn hv;rw[e,e2];exact c m n h1 h2 h4 h5
theorem Mid.endB(M:Mid a b r i j)(h:j=b.size):Mrg (r++a.extract i a.size++b.extract j b.size) a b:=by have e:b.toList.drop j=[]:=BQ (by rw[Ur];omega);have p:=M.jl.perm;have q:=M.jl.sp;rw[e,UY]at p;rw[Mrg,UZ,UZ,Qdb,Qdb,e,UY];exact⟨p,q⟩
theorem Mid.endA(M:Mid a b r i j)(h:i=a.size):Mrg (r++a.extract i a.size++b.extract j b.size) a b:=by have e:a.toList.drop i=[]:=BQ (by rw[Ur];omega);have p:=M.jl.perm;have q:=M.jl.sq;rw[e,Wu]at p;rw[Mrg,UZ,UZ,Qdb,Qdb,e,UY];exact⟨p,q⟩
theorem Mid.lastA(M:Mid a b r i j)(h:i+1=a.size)(c:∀m,m<b.size->K b m<=K a (a.size-1)):Mrg (r++b.extract j b.size++a.extract i a.size) a b:=by
 have N:=M.manyB (k:=b.size-j) (by have:=M.hj;omega) λm n h1 h2 h3 h4=>by rw[show n=a.size-1 by omega];exact c m (by have:=M.hj;omega)
 have e:j+(b.size-j)=b.size:=by have:=M.hj;omega
 rw[e]at N;have:=N.endB rfl;rw[show b.extract b.size b.size = #[] by simp,Array.append_empty]at this;exact this
noncomputable abbrev StO:=Option (Array Keyed)×Array Keyed×Nat×Nat×Nat×Nat
noncomputable abbrev StR:=Option (Array Keyed)×Array Keyed×Nat×Nat×Nat
noncomputable abbrev StL:=Option (Array Keyed)×Array Keyed×Nat×Nat×Nat×Nat×Nat
noncomputable def Qmg(a b:Array Keyed)(g:Nat)(r:Array Keyed)(i j ac bc:Nat):StateT SortSt Sem (ForInStep StO):=do
 let z <-lt' (<-elem' b j) (<-elem' a i)
 match z with
 |some y=>
  if y=true then do
   let r:=r.push (<-elem' b j)
   if (j+1==b.size)=true then pure (ForInStep.done (some (r++a.extract i a.size++b.extract (j+1) b.size),r,i,j+1,0,bc+1))
   else if bc+1>=g then pure (ForInStep.done (none,r,i,j+1,0,bc+1)) else pure (ForInStep.yield (none,r,i,j+1,0,bc+1))
  else do
   let r:=r.push (<-elem' a i)
   if (i+1+1==a.size)=true then pure (ForInStep.done (some (r++b.extract j b.size++a.extract (i+1) a.size),r,i+1,j,ac+1,0))
   else if ac+1>=g then pure (ForInStep.done (none,r,i+1,j,ac+1,0)) else pure (ForInStep.yield (none,r,i+1,j,ac+1,0))
 |_=>pure (ForInStep.done (some (r++a.extract i a.size++b.extract j b.size),r,i,j,ac,bc))
noncomputable def Qdc(a b:Array Keyed)(g k k2 i j:Nat)(r:Array Keyed):StateT SortSt Sem (ForInStep StL):=do
 let r:=r.push (<-elem' a i)
 if (i+1+1==a.size)=true then pure (ForInStep.done (some (r++b.extract j b.size++a.extract (i+1) a.size),r,i+1,j,g,k,k2))
 else if (decide (k<7)&&decide (k2<7))=true then pure (ForInStep.done (none,r,i+1,j,g,k,k2))
 else pure (ForInStep.yield (none,r,i+1,j,g,k,k2))
noncomputable def Qdd(a b:Array Keyed)(g k bc i j:Nat)(r:Array Keyed):StateT SortSt Sem (ForInStep StL):=do
 let r:=r.push (<-elem' b j)
 if (j+1==b.size)=true then pure (ForInStep.done (some (r++a.extract i a.size++b.extract (j+1) b.size),r,i,j+1,g,k,bc)) else do
  let z <-gal' true (<-elem' a i) b (j+1) (b.size - (j+1)) 0
  match z with
  |some y=>
   if y>0 then
    if (j+1+y==b.size)=true then pure (ForInStep.done (some (r++b.extract (j+1) (j+1+y)++a.extract i a.size++b.extract (j+1+y) b.size),r++b.extract (j+1) (j+1+y),i,j+1+y,g,k,y))
    else Qdc a b g k y i (j+1+y) (r++b.extract (j+1) (j+1+y))
   else Qdc a b g k y i (j+1) r
  |_=>pure (ForInStep.done (some (r++a.extract i a.size++b.extract (j+1) b.size),r,i,j+1,g,k,bc))
noncomputable def Qef(a b r:Array Keyed)(i j ac bc g:Nat):StateT SortSt Sem (ForInStep StL):=do
 setG g
 let z <-gal' false (<-elem' b j) a i (a.size-i) 0
 match z with
 |some y=>
  if y>0 then
   if (i+y+1==a.size)=true then pure (ForInStep.done (some (r++a.extract i (i+y)++b.extract j b.size++a.extract (i+y) a.size),r++a.extract i (i+y),i+y,j,g,y,bc))
   else if (i+y==a.size)=true then pure (ForInStep.done (some (r++a.extract i (i+y)++a.extract (i+y) a.size++b.extract j b.size),r++a.extract i (i+y),i+y,j,g,y,bc))
   else Qdd a b g y bc (i+y) j (r++a.extract i (i+y))
  else Qdd a b g y bc i j r
 |_=>pure (ForInStep.done (some (r++a.extract i a.size++b.extract j b.size),r,i,j,g,ac,bc))
noncomputable def Qe0(a b r:Array Keyed)(i j ac bc g:Nat):StateT SortSt Sem (ForInStep StR):=do
 liftM (rule "list.sort.gallop")
 let c <-forIn [0:a.size+b.size] ((none,r,i,j,g+1,ac,bc):StL) λ_ c=>
  if c.snd.snd.snd.snd.fst>1 then Qef a b c.snd.fst c.snd.snd.fst c.snd.snd.snd.fst c.snd.snd.snd.snd.snd.fst c.snd.snd.snd.snd.snd.snd (c.snd.snd.snd.snd.fst-1)
  else Qef a b c.snd.fst c.snd.snd.fst c.snd.snd.snd.fst c.snd.snd.snd.snd.snd.fst c.snd.snd.snd.snd.snd.snd c.snd.snd.snd.snd.fst
 match c.fst with
 |some o=>pure (ForInStep.done (some o,c.snd.fst,c.snd.snd.fst,c.snd.snd.snd.fst,c.snd.snd.snd.snd.fst))|none=>do
  setG (c.snd.snd.snd.snd.fst+1)
  pure (ForInStep.yield (none,c.snd.fst,c.snd.snd.fst,c.snd.snd.snd.fst,c.snd.snd.snd.snd.fst+1))
noncomputable def Qe1(a b r:Array Keyed)(i j g:Nat):StateT SortSt Sem (ForInStep StR):=do
 let c <-forIn [0:a.size+b.size] ((none,r,i,j,0,0):StO) λ_ c=>Qmg a b g c.snd.fst c.snd.snd.fst c.snd.snd.snd.fst c.snd.snd.snd.snd.fst c.snd.snd.snd.snd.snd
 match c.fst with
 |some o=>pure (ForInStep.done (some o,c.snd.fst,c.snd.snd.fst,c.snd.snd.snd.fst,g))|none=>Qe0 a b c.snd.fst c.snd.snd.fst c.snd.snd.snd.fst c.snd.snd.snd.snd.fst c.snd.snd.snd.snd.snd g
noncomputable def Qn0(a b r:Array Keyed)(g:Nat):StateT SortSt Sem (Array Keyed):=do
 let c <-forIn [0:a.size+b.size] ((none,r,0,1,g):StR) λ_ c=>Qe1 a b c.snd.fst c.snd.snd.fst c.snd.snd.snd.fst c.snd.snd.snd.snd
 match c.fst with
 |some o=>pure o|none=>liftM (unsupported "internal:list.sort.merge-bound")
theorem Qn1(a b:Array Keyed):mlo' a b=(do
 liftM (rule "list.sort.merge-lo")
 let x <-elem' b 0
 if (1==b.size)=true then pure (#[x]++a.extract 0 a.size++b.extract 1 b.size)
 else if (0+1==a.size)=true then pure (#[x]++b.extract 1 b.size++a.extract 0 a.size)
 else do
  let t <-get
  Qn0 a b #[x] (gallopOf t)):=by
 kernel_rfl
section
variable{prog:Program}{w:World}{A:Around}{E:VP}{s:Shared}[Cmp prog w A s]
def Alike(st st':SortSt):Prop:=kindOf st'=kindOf st/\arrOf st'=arrOf st/\pendingOf st'=pendingOf st/\failedOf st'=failedOf st
theorem Alike.refl(st:SortSt):Alike st st:=⟨rfl,rfl,rfl,rfl⟩
theorem QfO(sx:JE x x.size):Srt x.toList:=by refine RG.mpr λi j hi hj hij=>?_;rw[Ur]at hi hj;rw[TL,TL,YB hi,YB hj];exact sx i j (Rf hij) hj
theorem Qde{st:SortSt}{g:Nat}{Q:Unit->SortSt->Prop}(h:∀st',(∀z,Alike z st->Alike z st')->Q () st'):wpS (model prog w) A E s (setG g) Q st:=by unfold setG;exact Bu (h _ λz hz=>hz)
theorem LK_f:LK false kv v=decide (v<=kv):=rfl
theorem LK_t:LK true kv v=decide (v<kv):=rfl
theorem QaN{st:SortSt}{lf:Bool}{ky:Keyed}{ar:Array Keyed}{bs n hn:Nat}{Q:Option Nat->SortSt->Prop}(hk:kindOf st=Rk.kd)(hky:KI ky)(ha:∀x∈ar,KI x)(hb:bs+n<=ar.size)(hh:hn<n)(so:∀i j,i<=j->j<n->K ar (bs+i)<=K ar (bs+j))(h:∀k,k<=n->(∀i,i<k->LK lf (nk ky) (K ar (bs+i))=true)->(∀i,k<=i->i<n->LK lf (nk ky) (K ar (bs+i))=false)->Q (some k) st):
  wpS (model prog w) A E s (gal' lf ky ar bs n hn) Q st:=by
 refine QnZ hk hky ha hb hh (λi=>LK lf (nk ky) (K ar (bs+i))) (λi hi _=>by rw[YB hi]) (λi j hij hj hp=>?_) h;have:=so i j hij hj;cases lf with
 |true=>rw[LK_t]at hp ⊢;exact Uq (Int.lt_of_le_of_lt this (UA hp))|false=>rw[LK_f]at hp ⊢;exact Uq (U5 this (UA hp))
structure Two(a b:Array Keyed):Prop where
 ka:∀x∈a,KI x
 kb:∀x∈b,KI x
 sa:JE a a.size
 sb:JE b b.size
 c0:K b 0<=K a 0
 cl:∀m,m<b.size->K b m<=K a (a.size-1)
structure Am(a b r:Array Keyed)(i j n:Nat):Prop where
 mid:Mid a b r i j
 hi:i+1<a.size
 hj:j<b.size
 hn:n<=r.size
noncomputable def Qpy(st:SortSt)(a b:Array Keyed)(n N:Nat):ForInStep StO->SortSt->Prop
 |.done c,st'=>st'=st/\((∃out r i j ac bc,c=(some out,r,i,j,ac,bc)/\Mrg out a b)\/∃r i j ac bc,c=(none,r,i,j,ac,bc)/\Am a b r i j n)|.yield c,st'=>st'=st/\∃r i j ac bc,c=(none,r,i,j,ac,bc)/\Am a b r i j N
noncomputable def Qmh(st:SortSt)(a b:Array Keyed)(n N:Nat):ForInStep StL->SortSt->Prop
 |.done c,st'=>Alike st st'/\((∃out r i j g ac bc,c=(some out,r,i,j,g,ac,bc)/\Mrg out a b)\/∃r i j g ac bc,c=(none,r,i,j,g,ac,bc)/\Am a b r i j n)|.yield c,st'=>Alike st st'/\∃r i j g ac bc,c=(none,r,i,j,g,ac,bc)/\Am a b r i j N
noncomputable def Qmi(st:SortSt)(a b:Array Keyed)(N:Nat):ForInStep StR->SortSt->Prop
 |.done c,st'=>Alike st st'/\∃out r i j g,c=(some out,r,i,j,g)/\Mrg out a b|.yield c,st'=>Alike st st'/\∃r i j g,c=(none,r,i,j,g)/\Am a b r i j N
variable{st st2:SortSt}{a b r:Array Keyed}{i j n N g:Nat}
theorem Am.no(M:Am a b r i j n)(h:a.size+b.size<=n):False:=by have:=M.mid.size;have:=M.hi;have:=M.hn;omega
theorem Am.pushA(M:Am a b r i j n)(h:i<a.size)(c:∀m,j<=m->m<b.size->K a i<=K b m)(e:¬i+1+1=a.size)(hN:N<=n+1):Am a b (r.push a[i]) (i+1) j N:=⟨M.mid.pushA h c,by have:=M.hi;omega,M.hj,by rw[W5];have:=M.hn;omega⟩
theorem Am.pushB(M:Am a b r i j n)(c:∀m,i<=m->m<a.size->K b j<=K a m)(e:¬j+1=b.size)(hN:N<=n+1):Am a b (r.push (b[j]'M.hj)) i (j+1) N:=⟨M.mid.pushB M.hj c,M.hi,by have:=M.hj;omega,by rw[W5];have:=M.hn;omega⟩
theorem Qj6(T:Two a b)(hk:kindOf st=Rk.kd)(M:Am a b r i j n)(hN:N<=n+1):
  wpS (model prog w) A E s (Qmg a b g r i j ac bc) (Qpy st a b N N) st:=by
 have hi:=TX M.hi;have hj:=M.hj;unfold Qmg;refine Uo (QK hj (Uo (QK hi (Uo (QhP hk (T.kb _ (U2 hj)) (T.ka _ (U2 hi)) ?_)))));rw[YB hj,YB hi];by_cases hw:K b j<K a i
 ·refine Qp (Uq hw) (Uo (QK hj ?_));have c:∀m,i<=m->m<a.size->K b j<=K a m:=λm h1 h2=>U5 (TK hw) (T.sa i m h1 h2);by_cases e:j+1=b.size
  ·exact Qp (QQ e) (Uv ⟨rfl,.inl ⟨_,_,_,_,_,_,rfl,(M.mid.pushB hj c).endB e⟩⟩)
  have M':=M.pushB c e hN;exact Qq (Zl e) (Qee (Uv ⟨rfl,.inr ⟨_,_,_,_,_,rfl,M'⟩⟩) (Uv ⟨rfl,_,_,_,_,_,rfl,M'⟩))
 ·refine Qq (QbH hw) (Uo (QK hi ?_));have c:∀m,j<=m->m<b.size->K a i<=K b m:=λm h1 h2=>U5 (WA.mp hw) (T.sb j m h1 h2);by_cases e:i+1+1=a.size
  ·exact Qp (QQ e) (Uv ⟨rfl,.inl ⟨_,_,_,_,_,_,rfl,(M.mid.pushA hi c).lastA e T.cl⟩⟩)
  have M':=M.pushA hi c e hN;exact Qq (Zl e) (Qee (Uv ⟨rfl,.inr ⟨_,_,_,_,_,rfl,M'⟩⟩) (Uv ⟨rfl,_,_,_,_,_,rfl,M'⟩))
theorem Qcy(T:Two a b)(al:Alike st st2)(M:Am a b r i j n)(c:∀m,j<=m->m<b.size->K a i<=K b m)(hN:N<=n+1):
  wpS (model prog w) A E s (Qdc a b g k k2 i j r) (Qmh st a b N N) st2:=by
 have hi:=TX M.hi;unfold Qdc;refine Uo (QK hi ?_);by_cases e:i+1+1=a.size
 ·exact Qp (QQ e) (Uv ⟨al,.inl ⟨_,_,_,_,_,_,_,rfl,(M.mid.pushA hi c).lastA e T.cl⟩⟩)
 have M':=M.pushA hi c e hN;exact Qq (Zl e) (Qee (Uv ⟨al,.inr ⟨_,_,_,_,_,_,rfl,M'⟩⟩) (Uv ⟨al,_,_,_,_,_,_,rfl,M'⟩))
theorem QfP{P:Nat->Prop}{x m:Nat}(h:P (x+(m-x)))(l:x<=m):P m:=by rwa[Ba l]at h
theorem Qcz{k bc:Nat}(T:Two a b)(al:Alike st st2)(k2:kindOf st2=Rk.kd)(M:Am a b r i j n)(c:∀m,i<=m->m<a.size->K b j<=K a m)(hN:N<=n+1):
  wpS (model prog w) A E s (Qdd a b g k bc i j r) (Qmh st a b N N) st2:=by
 have hi:=TX M.hi;have hj:=M.hj;unfold Qdd;refine Uo (QK hj ?_);by_cases e:j+1=b.size
 ·exact Qp (QQ e) (Uv ⟨al,.inl ⟨_,_,_,_,_,_,_,rfl,(M.mid.pushB hj c).endB e⟩⟩)
 have M2:Am a b (r.push b[j]) i (j+1) n:=M.pushB c e (Nat.le_succ n);have hj2:=M2.hj;refine Qq (Zl e) (Uo (QK hi (Uo ?_)));refine QaN k2 (T.ka _ (U2 hi)) T.kb (WH (Ba (Rf hj2))) (Nat.sub_pos_of_lt hj2) (λx y h1 h2=>T.sb _ _ (Tx h1 _) (B6 h2)) λy hy pk qk=>?_;rw[YB hi]at pk qk;have R:∀m,j+1<=m->m<j+1+y->K b m<=K a i:=λm h1 h2=>TK (UA (QfP (P:=λm=>decide (K b m<K a i)=true) (pk (m - (j+1)) (by omega)) h1));have R':∀m,j+1+y<=m->m<b.size->K a i<=K b m:=λm h1 h2=>WA.mp (Ry (QfP (P:=λm=>decide (K b m<K a i)=false) (qk (m - (j+1)) (B7 h1) (Nat.sub_lt_sub_right (Tu h1) h2)) (Tu h1)));by_cases h0:y>0
 ·refine Qp h0 ?_;have hy':j+1+y<=b.size:=by omega
  have M3:=M2.mid.manyB (k:=y) hy' λm n h1 h2 h3 h4=>U5 (R m h1 h2) (T.sa i n h3 h4);by_cases e:j+1+y=b.size
  ·exact Qp (QQ e) (Uv ⟨al,.inl ⟨_,_,_,_,_,_,_,rfl,M3.endB e⟩⟩)
  exact Qq (Zl e) (Qcy (n:=n) T al ⟨M3,M.hi,Bl hy' e,by rw[WE];exact Uk M2.hn (U6 _ _)⟩ R' hN)
 ·have e0:y=0:=by omega
  subst e0;exact Qq h0 (Qcy T al M2 R' hN)
theorem QhR(T:Two a b)(hk:kindOf st=Rk.kd)(al0:Alike st st2)(M:Am a b r i j n)(hN:N<=n+1):
  wpS (model prog w) A E s (Qef a b r i j ac bc g) (Qmh st a b N N) st2:=by
 have hi:=TX M.hi;have hj:=M.hj;unfold Qef;refine Uo (Qde λst3 h3=>?_);have al:=h3 _ al0;have k2:=al.1.trans hk;refine Uo (QK hj (Uo ?_));refine QaN k2 (T.kb _ (U2 hj)) T.ka (WH (Ba (Rf hi))) (Nat.sub_pos_of_lt hi) (λx y h1 h2=>T.sa _ _ (Tx h1 _) (B6 h2)) λy hy pk qk=>?_;rw[YB hj]at pk qk;have R:∀m,i<=m->m<i+y->K a m<=K b j:=λm h1 h2=>UA (QfP (P:=λm=>decide (K a m<=K b j)=true) (pk (m-i) (Nat.sub_lt_left_of_lt_add h1 h2)) h1);have R':∀m,i+y<=m->m<a.size->K b j<=K a m:=λm h1 h2=>TK (Int.not_le.mp (Ry (QfP (P:=λm=>decide (K a m<=K b j)=false) (qk (m-i) (B7 h1) (Nat.sub_lt_sub_right (Tu h1) h2)) (Tu h1))));by_cases h0:y>0
 ·refine Qp h0 ?_;have hy':i+y<=a.size:=by omega
  have M3:=M.mid.manyA (k:=y) hy' λm n h1 h2 h3 h4=>U5 (R m h1 h2) (T.sb j n h3 h4);by_cases e:i+y+1=a.size
  ·exact Qp (QQ e) (Uv ⟨al,.inl ⟨_,_,_,_,_,_,_,rfl,M3.lastA e T.cl⟩⟩)
  refine Qq (Zl e) ?_;by_cases e2:i+y=a.size
  ·exact Qp (QQ e2) (Uv ⟨al,.inl ⟨_,_,_,_,_,_,_,rfl,M3.endA e2⟩⟩)
  exact Qq (Zl e2) (Qcz (n:=n) T al k2 ⟨M3,Bl (Bl hy' e2) e,hj,by rw[WE];exact Uk M.hn (U6 _ _)⟩ R' hN)
 ·have e0:y=0:=by omega
  subst e0;exact Qq h0 (Qcz T al k2 M R' hN)
theorem QgL{ac bc:Nat}(T:Two a b)(hk:kindOf st=Rk.kd)(al:Alike st st2)(M:Am a b r i j n):
  wpS (model prog w) A E s (Qe0 a b r i j ac bc g) (Qmi st a b n) st2:=by
 unfold Qe0;refine Uo (BU (TD ⟨rfl,?_⟩));refine Uo (Tf (I:=λy c st'=>Alike st st'/\∃r i j g ac bc,c=(none,r,i,j,g,ac,bc)/\Am a b r i j (n+y)) ?s2 ?f2 ⟨al,r,i,j,_,ac,bc,rfl,M⟩);case f2 =>rintro c st' ⟨_,r,i,j,g,ac,bc,rfl,M⟩;exact(M.no (by omega)).elim
 case s2=>
  rintro y c st' _ hy ⟨al,r,i,j,g,ac,bc,rfl,M⟩;have fin:∀g,wpS (model prog w) A E s (Qef a b r i j ac bc g) (λr st'=>match r with
    |.done c=>wpS (model prog w) A E s (match c.fst with
      |some o=>pure (ForInStep.done (some o,c.snd.fst,c.snd.snd.fst,c.snd.snd.snd.fst,c.snd.snd.snd.snd.fst))|none=>do
       setG (c.snd.snd.snd.snd.fst+1)
       pure (ForInStep.yield (none,c.snd.fst,c.snd.snd.fst,c.snd.snd.snd.fst,c.snd.snd.snd.snd.fst+1)):StateT SortSt Sem (ForInStep StR)) (Qmi st a b n) st'
    |.yield c=>Alike st st'/\∃r i j g ac bc,c=(none,r,i,j,g,ac,bc)/\Am a b r i j (n+(y+1))) st':=λg=>
   T5 (QhR (N:=n+(y+1)) T hk al M (Ug _)) λq st4 hq=>by
    cases q with
    |yield c=>exact hq|done c=>
     obtain⟨al4,(⟨out,r,i,j,g,ac,bc,rfl,R⟩|⟨r,i,j,g,ac,bc,rfl,M⟩)⟩:=hq
     ·exact Uv ⟨al4,_,_,_,_,_,rfl,R⟩
     ·exact Uo (Qde λst5 h5=>Uv ⟨h5 _ al4,_,_,_,_,rfl,M.mid,M.hi,M.hj,Tu M.hn⟩)
  exact Qee (T5 (fin _) λq _ h=>by cases q<;>exact h) (T5 (fin _) λq _ h=>by cases q<;>exact h)
theorem QgM(T:Two a b)(hk:kindOf st=Rk.kd)(al:Alike st st2)(M:Am a b r i j n):
  wpS (model prog w) A E s (Qe1 a b r i j g) (Qmi st a b (n+1)) st2:=by
 unfold Qe1;refine Uo (Tf (I:=λy c st'=>st'=st2/\∃r i j ac bc,c=(none,r,i,j,ac,bc)/\Am a b r i j (n+y)) ?s1 ?f1 ⟨rfl,r,i,j,0,0,rfl,M⟩);case f1 =>rintro c st' ⟨_,r,i,j,ac,bc,rfl,M⟩;exact(M.no (by omega)).elim
 case s1=>
  rintro y c st' _ hy ⟨rfl,r,i,j,ac,bc,rfl,M⟩;refine T5 (Qj6 (N:=n+(y+1)) T (al.1.trans hk) M (Ug _)) λq st4 hq=>?_;cases q with
  |yield c=>exact hq|done c=>
   obtain⟨rfl,(⟨out,r,i,j,ac,bc,rfl,R⟩|⟨r,i,j,ac,bc,rfl,M⟩)⟩:=hq
   ·exact Uv ⟨al,_,_,_,_,_,rfl,R⟩
   ·exact QgL T hk al ⟨M.mid,M.hi,M.hj,Uk (Tx (WT (TC y)) n) M.hn⟩
theorem Qn2{Q:Array Keyed->SortSt->Prop}(T:Two a b)(hk:kindOf st=Rk.kd)(na:0<a.size)(nb:0<b.size)(h:∀out st',Alike st st'->Mrg out a b->Q out st'):wpS (model prog w) A E s (mlo' a b) Q st:=by
 have M0:Mid a b #[] 0 0:=⟨⟨List.Perm.refl _,by simpa using QfO T.sa,by simpa using QfO T.sb⟩,TC _,TC _⟩;have M1:Mid a b #[b[0]] 0 1:=M0.pushB nb λm _ hm=>U5 T.c0 (T.sa 0 m (TC _) hm);rw[Qn1];refine Uo (BU (TD ⟨rfl,Uo (QK nb ?_)⟩));by_cases e1:1=b.size
 ·exact Qp (QQ e1) (Uv (h _ _ (.refl st) (M1.endB e1)))
 refine Qq (Zl e1) ?_;by_cases e2:0+1=a.size
 ·exact Qp (QQ e2) (Uv (h _ _ (.refl st) (M1.lastA e2 T.cl)))
 refine Qq (Zl e2) (Uo (Bt ?_));unfold Qn0;refine Uo (Tf (I:=λx c st'=>Alike st st'/\∃r i j g,c=(none,r,i,j,g)/\Am a b r i j (x+1)) ?step ?fin ⟨.refl st,_,0,1,_,rfl,M1,by omega,by omega,Ug 1⟩);case fin =>rintro c st' ⟨_,r,i,j,g,rfl,M⟩;exact(M.no (by omega)).elim
 case step=>
  rintro x c st' _ hx ⟨al,r,i,j,g,rfl,M⟩;refine T5 (QgM T hk al M) λq st4 hq=>?_;cases q with
  |yield c=>exact hq|done c =>obtain⟨al4,out,r,i,j,g,rfl,R⟩:=hq;exact Uv (h out _ al4 R)
end
structure JH(o p q t:List Keyed):Prop where
 perm:(p++q++o).Perm t
 sp:Srt (p++o)
 sq:Srt (q++o)
theorem JH.swap(h:JH o p q t):JH o q p t:=⟨(WD o WM).trans h.perm,h.sq,h.sp⟩
theorem JH.take(h:JH o (p++x) q t)(c:∀u∈q,∀v∈x,nk u<=nk v):JH (x++o) p q t:=by
 refine⟨?_,by rw[<-Ut];exact h.sp,?_⟩
 ·refine List.Perm.trans ?_ h.perm;rw[Ut p,Ut p,Ut p];refine WL p ?_;rw[<-Ut,Ut x,<-Ut];exact WD o WM
 have h1:=h.sp;rw[Ut]at h1;have h2:=Re.mp h.sq;refine Re.mpr ⟨h2.1,(Re.mp h1).2.1,λu hu v hv=>?_⟩;rcases Uu.mp hv with hv|hv
 ·exact c u hu v hv
 ·exact h2.2.2 u hu v hv
theorem Qbo(a:Array Keyed)(i:Nat):(a.extract 0 i).toList=a.toList.take i:=by rw[Wf,RF,Uak,Nat.sub_zero]
theorem Qal(a:Array Keyed)(k i:Nat):(a.extract k i).toList=(a.toList.drop k).take (i-k):=by rw[Wf,RF]
theorem QfQ(h:y∈a.toList.take i):∃m,m<i/\m<a.size/\nk y=K a m:=by obtain⟨m,hm,e⟩:=RM h;rw[Tw,Ur]at hm;rw[List.getElem_take,TL]at e;exact⟨m,by omega,by omega,by rw[<-e,YB]⟩
theorem QcA{l:List Keyed}{k i:Nat}(h:k<=i):l.take i=l.take k++(l.drop k).take (i-k):=by rw[<-List.take_add,show k+(i-k)=i by omega]
theorem QhS{a:Array Keyed}{i:Nat}(h:i<a.size):a.toList.take (i+1)=a.toList.take i++[a[i]]:=by rw[Tk (by rw[Ur];exact h),TL]
structure MidH(a b r:Array Keyed)(i j:Nat):Prop where
 jl:JH r.toList.reverse (a.toList.take i) (b.toList.take j) (a.toList++b.toList)
 hi:i<=a.size
 hj:j<=b.size
theorem MidH.size(M:MidH a b r i j):r.size+i+j=a.size+b.size:=by have:=M.jl.perm.length_eq;simp only[Us,Tw,Ur,List.length_reverse]at this;have:=M.hi;have:=M.hj;omega
theorem MidH.pushA{a b r:Array Keyed}{i j:Nat}(M:MidH a b r (i+1) j)(h:i<a.size)(c:∀m,m<j->m<b.size->K b m<=K a i):MidH a b (r.push a[i]) i j:=by refine⟨?_,Rf h,M.hj⟩;rw[Wb,Wq,BR];refine JH.take (by have:=M.jl;rw[QhS h]at this;exact this) λu hu v hv=>?_;obtain⟨m,h1,h2,e⟩:=QfQ hu;rw[Uj.mp hv,YB h,e];exact c m h1 h2
theorem MidH.pushB{a b r:Array Keyed}{i j:Nat}(M:MidH a b r i (j+1))(h:j<b.size)(c:∀m,m<i->m<a.size->K a m<=K b j):MidH a b (r.push b[j]) i j:=by refine⟨?_,M.hi,Rf h⟩;rw[Wb,Wq,BR];refine(JH.take (by have:=M.jl.swap;rw[QhS h]at this;exact this) λu hu v hv=>?_).swap;obtain⟨m,h1,h2,e⟩:=QfQ hu;rw[Uj.mp hv,YB h,e];exact c m h1 h2
theorem MidH.manyA{a b r:Array Keyed}{i j k:Nat}(M:MidH a b r i j)(h:k<=i)(c:∀m n,k<=m->m<i->n<j->n<b.size->K b n<=K a m):MidH a b (r++(a.extract k i).reverse) k j:=by refine⟨?_,Uk h M.hi,M.hj⟩;rw[UZ,Wg,Wq,List.reverse_reverse,Qal];refine JH.take (by have:=M.jl;rw[QcA h]at this;exact this) λu hu v hv=>?_;obtain⟨n,h4,h5,e2⟩:=QfQ hu;obtain⟨m,h1,h2,h3,e⟩:=JF hv;rw[e,e2];exact c m n h1 (by omega) h4 h5
theorem MidH.manyB{a b r:Array Keyed}{i j k:Nat}(M:MidH a b r i j)(h:k<=j)(c:∀m n,k<=m->m<j->n<i->n<a.size->K a n<=K b m):MidH a b (r++(b.extract k j).reverse) i k:=by refine⟨?_,M.hi,Uk h M.hj⟩;rw[UZ,Wg,Wq,List.reverse_reverse,Qal];refine(JH.take (by have:=M.jl.swap;rw[QcA h]at this;exact this) λu hu v hv=>?_).swap;obtain⟨n,h4,h5,e2⟩:=QfQ hu;obtain⟨m,h1,h2,h3,e⟩:=JF hv;rw[e,e2];exact c m n h1 (by omega) h4 h5
theorem MidH.endA(M:MidH a b r i j)(h:i=0):Mrg (a.extract 0 i++b.extract 0 j++r.reverse) a b:=by subst h;have p:=M.jl.perm;rw[Bq,Wu]at p;rw[Mrg,UZ,UZ,Qbo,Qbo,Bq,Wu,Wg];exact⟨p,M.jl.sq⟩
theorem MidH.endB(M:MidH a b r i j)(h:j=0):Mrg (a.extract 0 i++b.extract 0 j++r.reverse) a b:=by subst h;have p:=M.jl.perm;rw[Bq,UY]at p;rw[Mrg,UZ,UZ,Qbo,Qbo,Bq,UY,Wg];exact⟨p,M.jl.sp⟩
theorem MidH.firstB(M:MidH a b r i j)(h:j=1)(sa:JE a a.size)(c:K b 0<=K a 0):Mrg (b.extract 0 j++a.extract 0 i++r.reverse) a b:=by
 subst h;have N:=M.manyA (k:=0) (TC _) λm n _ h2 h3 _=>by rw[show n=0 by omega];exact U5 c (sa 0 m (by omega) (by have:=M.hi;omega))
 have:=N.endA rfl;rw[Array.reverse_append,Array.reverse_reverse,<-Wv]at this;rw[show a.extract 0 0 = #[] by simp,Array.empty_append]at this;exact this
noncomputable abbrev HiO:=Option (Array Keyed)×Nat×Nat×Array Keyed×Nat×Nat
noncomputable abbrev HiR:=Option (Array Keyed)×Nat×Nat×Array Keyed×Nat
noncomputable abbrev HiL:=Option (Array Keyed)×Nat×Nat×Array Keyed×Nat×Nat×Nat
noncomputable def Qmj(a b:Array Keyed)(g i j:Nat)(r:Array Keyed)(ac bc:Nat):StateT SortSt Sem (ForInStep HiO):=do
 let z <-lt' (<-elem' b (j-1)) (<-elem' a (i-1))
 match z with
 |some y=>
  if y=true then do
   let r:=r.push (<-elem' a (i-1))
   if (i-1==0)=true then pure (ForInStep.done (some (a.extract 0 (i-1)++b.extract 0 j++r.reverse),i-1,j,r,ac+1,0))
   else if ac+1>=g then pure (ForInStep.done (none,i-1,j,r,ac+1,0)) else pure (ForInStep.yield (none,i-1,j,r,ac+1,0))
  else do
   let r:=r.push (<-elem' b (j-1))
   if (j-1==1)=true then pure (ForInStep.done (some (b.extract 0 (j-1)++a.extract 0 i++r.reverse),i,j-1,r,0,bc+1))
   else if bc+1>=g then pure (ForInStep.done (none,i,j-1,r,0,bc+1)) else pure (ForInStep.yield (none,i,j-1,r,0,bc+1))
 |_=>pure (ForInStep.done (some (a.extract 0 i++b.extract 0 j++r.reverse),i,j,r,ac,bc))
noncomputable def Qdf(a b:Array Keyed)(g k k2 i j:Nat)(r:Array Keyed):StateT SortSt Sem (ForInStep HiL):=do
 let r:=r.push (<-elem' a (i-1))
 if (i-1==0)=true then pure (ForInStep.done (some (a.extract 0 (i-1)++b.extract 0 j++r.reverse),i-1,j,r,g,k,k2))
 else if (decide (k<7)&&decide (k2<7))=true then pure (ForInStep.done (none,i-1,j,r,g,k,k2))
 else pure (ForInStep.yield (none,i-1,j,r,g,k,k2))
noncomputable def Qdg(a b:Array Keyed)(g k bc i j:Nat)(r:Array Keyed):StateT SortSt Sem (ForInStep HiL):=do
 let r:=r.push (<-elem' b (j-1))
 if (j-1==1)=true then pure (ForInStep.done (some (b.extract 0 (j-1)++a.extract 0 i++r.reverse),i,j-1,r,g,k,bc)) else do
  let z <-gal' true (<-elem' a (i-1)) b 0 (j-1) (j-1-1)
  match z with
  |some y=>
   if j-1-y>0 then
    if (y==1)=true then pure (ForInStep.done (some (b.extract 0 y++a.extract 0 i++(r++(b.extract y (j-1)).reverse).reverse),i,y,r++(b.extract y (j-1)).reverse,g,k,j-1-y))
    else if (y==0)=true then pure (ForInStep.done (some (a.extract 0 i++b.extract 0 y++(r++(b.extract y (j-1)).reverse).reverse),i,y,r++(b.extract y (j-1)).reverse,g,k,j-1-y))
    else Qdf a b g k (j-1-y) i y (r++(b.extract y (j-1)).reverse)
   else Qdf a b g k (j-1-y) i (j-1) r
  |_=>pure (ForInStep.done (some (a.extract 0 i++b.extract 0 (j-1)++r.reverse),i,j-1,r,g,k,bc))
noncomputable def Qeg(a b:Array Keyed)(i j:Nat)(r:Array Keyed)(ac bc g:Nat):StateT SortSt Sem (ForInStep HiL):=do
 setG g
 let z <-gal' false (<-elem' b (j-1)) a 0 i (i-1)
 match z with
 |some y=>
  if i-y>0 then
   if (y==0)=true then pure (ForInStep.done (some (a.extract 0 y++b.extract 0 j++(r++(a.extract y i).reverse).reverse),y,j,r++(a.extract y i).reverse,g,i-y,bc))
   else Qdg a b g (i-y) bc y j (r++(a.extract y i).reverse)
  else Qdg a b g (i-y) bc i j r
 |_=>pure (ForInStep.done (some (a.extract 0 i++b.extract 0 j++r.reverse),i,j,r,g,ac,bc))
noncomputable def Qe2(a b:Array Keyed)(i j:Nat)(r:Array Keyed)(ac bc g:Nat):StateT SortSt Sem (ForInStep HiR):=do
 liftM (rule "list.sort.gallop")
 let c <-forIn [0:a.size+b.size] ((none,i,j,r,g+1,ac,bc):HiL) λ_ c=>
  if c.snd.snd.snd.snd.fst>1 then Qeg a b c.snd.fst c.snd.snd.fst c.snd.snd.snd.fst c.snd.snd.snd.snd.snd.fst c.snd.snd.snd.snd.snd.snd (c.snd.snd.snd.snd.fst-1)
  else Qeg a b c.snd.fst c.snd.snd.fst c.snd.snd.snd.fst c.snd.snd.snd.snd.snd.fst c.snd.snd.snd.snd.snd.snd c.snd.snd.snd.snd.fst
 match c.fst with
 |some o=>pure (ForInStep.done (some o,c.snd.fst,c.snd.snd.fst,c.snd.snd.snd.fst,c.snd.snd.snd.snd.fst))|none=>do
  setG (c.snd.snd.snd.snd.fst+1)
  pure (ForInStep.yield (none,c.snd.fst,c.snd.snd.fst,c.snd.snd.snd.fst,c.snd.snd.snd.snd.fst+1))
noncomputable def Qe3(a b:Array Keyed)(i j:Nat)(r:Array Keyed)(g:Nat):StateT SortSt Sem (ForInStep HiR):=do
 let c <-forIn [0:a.size+b.size] ((none,i,j,r,0,0):HiO) λ_ c=>Qmj a b g c.snd.fst c.snd.snd.fst c.snd.snd.snd.fst c.snd.snd.snd.snd.fst c.snd.snd.snd.snd.snd
 match c.fst with
 |some o=>pure (ForInStep.done (some o,c.snd.fst,c.snd.snd.fst,c.snd.snd.snd.fst,g))|none=>Qe2 a b c.snd.fst c.snd.snd.fst c.snd.snd.snd.fst c.snd.snd.snd.snd.fst c.snd.snd.snd.snd.snd g
noncomputable def Qn3(a b r:Array Keyed)(g:Nat):StateT SortSt Sem (Array Keyed):=do
 let c <-forIn [0:a.size+b.size] ((none,a.size-1,b.size,r,g):HiR) λ_ c=>Qe3 a b c.snd.fst c.snd.snd.fst c.snd.snd.snd.fst c.snd.snd.snd.snd
 match c.fst with
 |some o=>pure o|none=>liftM (unsupported "internal:list.sort.merge-bound")
theorem Qn4(a b:Array Keyed):mhi' a b=(do
 liftM (rule "list.sort.merge-hi")
 let x <-elem' a (a.size-1)
 if (a.size-1==0)=true then pure (a.extract 0 (a.size-1)++b.extract 0 b.size++(#[x]:Array Keyed).reverse)
 else if (b.size==1)=true then pure (b.extract 0 b.size++a.extract 0 (a.size-1)++(#[x]:Array Keyed).reverse)
 else do
  let t <-get
  Qn3 a b #[x] (gallopOf t)):=by
 kernel_rfl
theorem MidH.popA(M:MidH a b r i j)(h0:0<i)(h:i-1<a.size)(c:∀m,m<j->m<b.size->K b m<=K a (i-1)):MidH a b (r.push a[i-1]) (i-1) j:=by obtain⟨n,rfl⟩:∃n,i=n+1:=⟨i-1,(BG h0).symm⟩;exact M.pushA h c
theorem MidH.popB(M:MidH a b r i j)(h0:0<j)(h:j-1<b.size)(c:∀m,m<i->m<a.size->K a m<=K b (j-1)):MidH a b (r.push b[j-1]) i (j-1):=by obtain⟨n,rfl⟩:∃n,j=n+1:=⟨j-1,(BG h0).symm⟩;exact M.pushB h c
structure AmH(a b r:Array Keyed)(i j n:Nat):Prop where
 mid:MidH a b r i j
 hi:0<i
 hj:1<j
 hn:n<=r.size
noncomputable def PoH(st:SortSt)(a b:Array Keyed)(n N:Nat):ForInStep HiO->SortSt->Prop
 |.done c,st'=>st'=st/\((∃out i j r ac bc,c=(some out,i,j,r,ac,bc)/\Mrg out a b)\/∃i j r ac bc,c=(none,i,j,r,ac,bc)/\AmH a b r i j n)|.yield c,st'=>st'=st/\∃i j r ac bc,c=(none,i,j,r,ac,bc)/\AmH a b r i j N
noncomputable def PlH(st:SortSt)(a b:Array Keyed)(n N:Nat):ForInStep HiL->SortSt->Prop
 |.done c,st'=>Alike st st'/\((∃out i j r g ac bc,c=(some out,i,j,r,g,ac,bc)/\Mrg out a b)\/∃i j r g ac bc,c=(none,i,j,r,g,ac,bc)/\AmH a b r i j n)|.yield c,st'=>Alike st st'/\∃i j r g ac bc,c=(none,i,j,r,g,ac,bc)/\AmH a b r i j N
noncomputable def PbH(st:SortSt)(a b:Array Keyed)(N:Nat):ForInStep HiR->SortSt->Prop
 |.done c,st'=>Alike st st'/\∃out i j r g,c=(some out,i,j,r,g)/\Mrg out a b|.yield c,st'=>Alike st st'/\∃i j r g,c=(none,i,j,r,g)/\AmH a b r i j N
section
variable{prog:Program}{w:World}{A:Around}{E:VP}{s:Shared}[Cmp prog w A s]
variable{st st2:SortSt}{a b r:Array Keyed}{i j n N g:Nat}
theorem AmH.no(M:AmH a b r i j n)(h:a.size+b.size<=n):False:=by have:=M.mid.size;have:=M.hi;have:=M.hn;omega
theorem AmH.ia(M:AmH a b r i j n):i-1<a.size:=UB (Wc M.hi) M.mid.hi
theorem AmH.jb(M:AmH a b r i j n):j-1<b.size:=UB (Wc M.hj) M.mid.hj
theorem AmH.popA(M:AmH a b r i j n)(c:∀m,m<j->m<b.size->K b m<=K a (i-1))(e:¬i-1=0)(hN:N<=n+1):AmH a b (r.push (a[i-1]'M.ia)) (i-1) j N:=⟨M.mid.popA M.hi M.ia c,Bm e,M.hj,by rw[W5];exact Uk hN (WT M.hn)⟩
theorem AmH.popB(M:AmH a b r i j n)(c:∀m,m<i->m<a.size->K a m<=K b (j-1))(e:¬j-1=1)(hN:N<=n+1):AmH a b (r.push (b[j-1]'M.jb)) i (j-1) N:=⟨M.mid.popB (TX M.hj) M.jb c,M.hi,by have:=M.hj;omega,by rw[W5];exact Uk hN (WT M.hn)⟩
theorem Qj7(T:Two a b)(hk:kindOf st=Rk.kd)(M:AmH a b r i j n)(hN:N<=n+1):
  wpS (model prog w) A E s (Qmj a b g i j r ac bc) (PoH st a b N N) st:=by
 have hi:=M.ia;have hj:=M.jb;unfold Qmj;refine Uo (QK hj (Uo (QK hi (Uo (QhP hk (T.kb _ (U2 hj)) (T.ka _ (U2 hi)) ?_)))));rw[YB hj,YB hi];by_cases hw:K b (j-1)<K a (i-1)
 ·refine Qp (Uq hw) (Uo (QK hi ?_));have c:∀m,m<j->m<b.size->K b m<=K a (i-1):=λm h1 _=>U5 (T.sb m (j-1) (WF h1) hj) (TK hw);by_cases e:i-1=0
  ·exact Qp (QQ e) (Uv ⟨rfl,.inl ⟨_,_,_,_,_,_,rfl,(M.mid.popA M.hi hi c).endA e⟩⟩)
  have M':=M.popA c e hN;exact Qq (Zl e) (Qee (Uv ⟨rfl,.inr ⟨_,_,_,_,_,rfl,M'⟩⟩) (Uv ⟨rfl,_,_,_,_,_,rfl,M'⟩))
 ·refine Qq (QbH hw) (Uo (QK hj ?_));have c:∀m,m<i->m<a.size->K a m<=K b (j-1):=λm h1 _=>U5 (T.sa m (i-1) (WF h1) hi) (WA.mp hw);by_cases e:j-1=1
  ·exact Qp (QQ e) (Uv ⟨rfl,.inl ⟨_,_,_,_,_,_,rfl,(M.mid.popB (TX M.hj) hj c).firstB e T.sa T.c0⟩⟩)
  have M':=M.popB c e hN;exact Qq (Zl e) (Qee (Uv ⟨rfl,.inr ⟨_,_,_,_,_,rfl,M'⟩⟩) (Uv ⟨rfl,_,_,_,_,_,rfl,M'⟩))
theorem QcB(al:Alike st st2)(M:AmH a b r i j n)(c:∀m,m<j->m<b.size->K b m<=K a (i-1))(hN:N<=n+1):
  wpS (model prog w) A E s (Qdf a b g k k2 i j r) (PlH st a b N N) st2:=by
 unfold Qdf;refine Uo (QK M.ia ?_);by_cases e:i-1=0
 ·exact Qp (QQ e) (Uv ⟨al,.inl ⟨_,_,_,_,_,_,_,rfl,(M.mid.popA M.hi M.ia c).endA e⟩⟩)
 have M':=M.popA c e hN;exact Qq (Zl e) (Qee (Uv ⟨al,.inr ⟨_,_,_,_,_,_,rfl,M'⟩⟩) (Uv ⟨al,_,_,_,_,_,_,rfl,M'⟩))
theorem Qn5(h:n<=r.size):n<=(r++x).size:=by rw[WE];exact Uk h (U6 _ _)
theorem QcC(T:Two a b)(al:Alike st st2)(k2:kindOf st2=Rk.kd)(M:AmH a b r i j n)(c:∀m,m<i->m<a.size->K a m<=K b (j-1))(hN:N<=n+1):
  wpS (model prog w) A E s (Qdg a b g k bc i j r) (PlH st a b N N) st2:=by
 have hi:=M.ia;have hj:=M.jb;unfold Qdg;refine Uo (QK hj ?_);by_cases e:j-1=1
 ·exact Qp (QQ e) (Uv ⟨al,.inl ⟨_,_,_,_,_,_,_,rfl,(M.mid.popB (TX M.hj) hj c).firstB e T.sa T.c0⟩⟩)
 have M2:AmH a b (r.push b[j-1]) i (j-1) n:=M.popB c e (Nat.le_succ n);refine Qq (Zl e) (Uo (QK hi (Uo ?_)));refine QaN k2 (T.ka _ (U2 hi)) T.kb (by rw[WJ];exact Rf hj) (Wc (TX M2.hj)) (λx y h1 h2=>T.sb _ _ (Tx h1 _) (by rw[WJ];exact Nat.lt_trans h2 hj)) λy hy pk qk=>?_;rw[YB hi]at pk qk;simp only[WJ]at pk qk;have R:∀m,m<y->K b m<=K a (i-1):=λm h=>TK (UA (pk m h));have R':∀m,y<=m->m<j-1->K a (i-1)<=K b m:=λm h1 h2=>WA.mp (Ry (qk m h1 h2));by_cases h0:j-1-y>0
 ·refine Qp h0 ?_;have M3:=M2.mid.manyB (k:=y) hy λm n h1 h2 h3 h4=>U5 (T.sa n (i-1) (WF h3) hi) (R' m h1 h2);by_cases e:y=1
  ·exact Qp (QQ e) (Uv ⟨al,.inl ⟨_,_,_,_,_,_,_,rfl,M3.firstB e T.sa T.c0⟩⟩)
  refine Qq (Zl e) ?_;by_cases e2:y=0
  ·exact Qp (QQ e2) (Uv ⟨al,.inl ⟨_,_,_,_,_,_,_,rfl,M3.endB e2⟩⟩)
  exact Qq (Zl e2) (QcB (n:=n) al ⟨M3,M.hi,by omega,Qn5 M2.hn⟩ (λm h _=>R m h) hN)
 ·exact Qq h0 (QcB al M2 (λm h _=>R m (UB h (by omega))) hN)
theorem QhT(T:Two a b)(hk:kindOf st=Rk.kd)(al0:Alike st st2)(M:AmH a b r i j n)(hN:N<=n+1):
  wpS (model prog w) A E s (Qeg a b i j r ac bc g) (PlH st a b N N) st2:=by
 have hj:=M.jb;unfold Qeg;refine Uo (Qde λst3 h3=>?_);have al:=h3 _ al0;have k2:=al.1.trans hk;refine Uo (QK hj (Uo ?_));refine QaN k2 (T.kb _ (U2 hj)) T.ka (by rw[WJ];exact M.mid.hi) (Wc M.hi) (λx y h1 h2=>T.sa _ _ (Tx h1 _) (by rw[WJ];exact UB h2 M.mid.hi)) λy hy pk qk=>?_;rw[YB hj]at pk qk;simp only[WJ]at pk qk;have R:∀m,m<y->K a m<=K b (j-1):=λm h=>UA (pk m h);have R':∀m,y<=m->m<i->K b (j-1)<=K a m:=λm h1 h2=>TK (Int.not_le.mp (Ry (qk m h1 h2)));by_cases h0:i-y>0
 ·refine Qp h0 ?_;have M3:=M.mid.manyA (k:=y) hy λm n h1 h2 h3 h4=>U5 (T.sb n (j-1) (WF h3) hj) (R' m h1 h2);by_cases e2:y=0
  ·exact Qp (QQ e2) (Uv ⟨al,.inl ⟨_,_,_,_,_,_,_,rfl,M3.endA e2⟩⟩)
  exact Qq (Zl e2) (QcC (n:=n) T al k2 ⟨M3,Bm e2,M.hj,Qn5 M.hn⟩ (λm h _=>R m h) hN)
 ·exact Qq h0 (QcC T al k2 M (λm h _=>R m (UB h (by omega))) hN)
theorem QgN(T:Two a b)(hk:kindOf st=Rk.kd)(al:Alike st st2)(M:AmH a b r i j n):
  wpS (model prog w) A E s (Qe2 a b i j r ac bc g) (PbH st a b n) st2:=by
 unfold Qe2;refine Uo (BU (TD ⟨rfl,?_⟩));refine Uo (Tf (I:=λy c st'=>Alike st st'/\∃i j r g ac bc,c=(none,i,j,r,g,ac,bc)/\AmH a b r i j (n+y)) ?s2 ?f2 ⟨al,i,j,r,_,ac,bc,rfl,M⟩);case f2 =>rintro c st' ⟨_,i,j,r,g,ac,bc,rfl,M⟩;exact(M.no (by omega)).elim
 case s2=>
  rintro y c st' _ hy ⟨al,i,j,r,g,ac,bc,rfl,M⟩;have fin:∀g,wpS (model prog w) A E s (Qeg a b i j r ac bc g) (λr st'=>match r with
    |.done c=>wpS (model prog w) A E s (match c.fst with
      |some o=>pure (ForInStep.done (some o,c.snd.fst,c.snd.snd.fst,c.snd.snd.snd.fst,c.snd.snd.snd.snd.fst))|none=>do
       setG (c.snd.snd.snd.snd.fst+1)
       pure (ForInStep.yield (none,c.snd.fst,c.snd.snd.fst,c.snd.snd.snd.fst,c.snd.snd.snd.snd.fst+1)):StateT SortSt Sem (ForInStep HiR)) (PbH st a b n) st'
    |.yield c=>Alike st st'/\∃i j r g ac bc,c=(none,i,j,r,g,ac,bc)/\AmH a b r i j (n+(y+1))) st':=λg=>
   T5 (QhT (N:=n+(y+1)) T hk al M (Ug _)) λq st4 hq=>by
    cases q with
    |yield c=>exact hq|done c=>
     obtain⟨al4,(⟨out,i,j,r,g,ac,bc,rfl,R⟩|⟨i,j,r,g,ac,bc,rfl,M⟩)⟩:=hq
     ·exact Uv ⟨al4,_,_,_,_,_,rfl,R⟩
     ·exact Uo (Qde λst5 h5=>Uv ⟨h5 _ al4,_,_,_,_,rfl,M.mid,M.hi,M.hj,Tu M.hn⟩)
  exact Qee (T5 (fin _) λq _ h=>by cases q<;>exact h) (T5 (fin _) λq _ h=>by cases q<;>exact h)
theorem QgO(T:Two a b)(hk:kindOf st=Rk.kd)(al:Alike st st2)(M:AmH a b r i j n):
  wpS (model prog w) A E s (Qe3 a b i j r g) (PbH st a b (n+1)) st2:=by
 unfold Qe3;refine Uo (Tf (I:=λy c st'=>st'=st2/\∃i j r ac bc,c=(none,i,j,r,ac,bc)/\AmH a b r i j (n+y)) ?s1 ?f1 ⟨rfl,i,j,r,0,0,rfl,M⟩);case f1 =>rintro c st' ⟨_,i,j,r,ac,bc,rfl,M⟩;exact(M.no (by omega)).elim
 case s1=>
  rintro y c st' _ hy ⟨rfl,i,j,r,ac,bc,rfl,M⟩;refine T5 (Qj7 (N:=n+(y+1)) T (al.1.trans hk) M (Ug _)) λq st4 hq=>?_;cases q with
  |yield c=>exact hq|done c=>
   obtain⟨rfl,(⟨out,i,j,r,ac,bc,rfl,R⟩|⟨i,j,r,ac,bc,rfl,M⟩)⟩:=hq
   ·exact Uv ⟨al,_,_,_,_,_,rfl,R⟩
   ·exact QgN T hk al ⟨M.mid,M.hi,M.hj,Uk (Tx (WT (TC y)) n) M.hn⟩
theorem Qn6{Q:Array Keyed->SortSt->Prop}(T:Two a b)(hk:kindOf st=Rk.kd)(na:0<a.size)(nb:0<b.size)(h:∀out st',Alike st st'->Mrg out a b->Q out st'):wpS (model prog w) A E s (mhi' a b) Q st:=by
 have e:∀x:Array Keyed,x.toList.take x.size=x.toList:=λx=>RT (by rw[Ur];exact Ug _);have M0:MidH a b #[] a.size b.size:=by
  refine⟨⟨?_,?_,?_⟩,Ug _,Ug _⟩
  ·rw[e,e];simp
  ·rw[e];simpa using QfO T.sa
  ·rw[e];simpa using QfO T.sb
 have ha1:a.size-1<a.size:=Wc na;have M1:MidH a b #[a[a.size-1]] (a.size-1) b.size:=M0.popA na ha1 λm _ hm=>T.cl m hm;rw[Qn4];refine Uo (BU (TD ⟨rfl,Uo (QK ha1 ?_)⟩));by_cases e1:a.size-1=0
 ·exact Qp (QQ e1) (Uv (h _ _ (.refl st) (M1.endA e1)))
 refine Qq (Zl e1) ?_;by_cases e2:b.size=1
 ·exact Qp (QQ e2) (Uv (h _ _ (.refl st) (M1.firstB e2 T.sa T.c0)))
 refine Qq (Zl e2) (Uo (Bt ?_));unfold Qn3;refine Uo (Tf (I:=λx c st'=>Alike st st'/\∃i j r g,c=(none,i,j,r,g)/\AmH a b r i j (x+1)) ?step ?fin ⟨.refl st,_,_,_,_,rfl,M1,Bm e1,by omega,Ug 1⟩);case fin =>rintro c st' ⟨_,i,j,r,g,rfl,M⟩;exact(M.no (by omega)).elim
 case step=>
  rintro x c st' _ hx ⟨al,i,j,r,g,rfl,M⟩;refine T5 (QgO T hk al M) λq st4 hq=>?_;cases q with
  |yield c=>exact hq|done c =>obtain⟨al4,out,i,j,r,g,rfl,R⟩:=hq;exact Uv (h out _ al4 R)
end
noncomputable def lay(xs:Array Keyed)(p:Nat)(l:List Keyed)(n:Nat):Array Keyed:=(l.zipIdx n).foldl (λy (v,k)=>y.setIfInBounds (p+k) v) xs
theorem Qn7(i:Nat):mergeAt' i=(do
 let z <-get
 let (some (u,m,pw),some (v,n,_)):=((pendingOf z)[i]?,(pendingOf z)[i+1]?)|unsupported "internal:list.sort.pending"
 set (setPending z (((pendingOf z).setIfInBounds i (u,m+n,pw)).eraseIdxIfInBounds (i+1)))
 let some k <-gal' false (<-elem' (arrOf z) v) (arrOf z) u m 0|return false
 if m-k==0 then return true
 let some n <-gal' true (<-elem' (arrOf z) (u+k+(m-k) - 1)) (arrOf z) v n (n-1)|return false
 if n==0 then return true
 let out <-if m-k<=n then mlo' ((arrOf z).extract (u+k) v) ((arrOf z).extract v (v+n)) else mhi' ((arrOf z).extract (u+k) v) ((arrOf z).extract v (v+n))
 modify λz=>setArr z (lay (arrOf z) (u+k) out.toList 0)
 return (failedOf (<-get)).isNone):=by rfl
theorem QfR(p:Nat):∀(l:List Keyed)(n:Nat)(xs:Array Keyed),p+n+l.length<=xs.size->(lay xs p l n).toList=xs.toList.take (p+n)++(l++xs.toList.drop (p+n+l.length))
 |[],n,xs,_=>by show xs.toList=_;rw[B1,Nat.add_zero,Wu,Tz]
 |v::l,n,xs,h=>by
  rw[UH]at h ⊢;have ih:=QfR p l (n+1) (xs.setIfInBounds (p+n) v) (by rw[Array.size_setIfInBounds];omega);have e:lay xs p (v::l) n=lay (xs.setIfInBounds (p+n) v) p l (n+1):=rfl;rw[e,ih,Bi];have hl:p+n<xs.toList.length:=by rw[Ur];omega
  rw[show p+(n+1)=p+n+1 by omega,Tk (by rw[UK];exact hl),List.getElem_set_self,List.take_set_of_le (Ug _),List.drop_set_of_lt (by omega),Ut,show p+n+1+l.length=p+n+(l.length+1) by omega]
  rfl
noncomputable def Kl(l:List Keyed)(i:Nat):Int:=match l[i]? with
 |some p=>nk p|none=>0
theorem K_l(xs:Array Keyed)(i:Nat):K xs i=Kl xs.toList i:=by unfold K Kl;rw[Tj];try (cases xs[i]? <;> rfl)
theorem Qn8(h:i<l.length):∃x∈l,Kl l i=nk x:=⟨l[i],TN h,by unfold Kl;rw[U1 h]⟩
theorem Qn9(h:Srt l)(hij:i<=j)(hj:j<l.length):Kl l i<=Kl l j:=by
 unfold Kl;rw[U1 hj,U1 (Nat.lt_of_le_of_lt hij hj)];by_cases e:i=j
 ·subst e;exact T4 _
 ·exact RG.mp h i j _ hj (by omega)
def SOn(xs:Array Keyed)(lo hi:Nat):Prop:=∀i j,lo<=i->i<=j->j<hi->K xs i<=K xs j
theorem Qoa{xs out:Array Keyed}{u p q v e:Nat}(hup:u<=p)(hpv:p<v)(hvq:v<=q)(hqe:q<=e)(he:e<=xs.size)(s1:SOn xs u v)(s2:SOn xs v e)(c1:∀m,u<=m->m<p->K xs m<=K xs v)(c2:∀m,q<=m->m<e->K xs (v-1)<=K xs m)(hm:Mrg out (xs.extract p v) (xs.extract v q)):
  (lay xs p out.toList 0).toList.Perm xs.toList/\SOn (lay xs p out.toList 0) u e/\∀m,m<p\/q<=m->K (lay xs p out.toList 0) m=K xs m:=by
 have hlen:out.toList.length=q-p:=by have:=hm.1.length_eq;rw[Us,Qal,Qal,Tw,Tw,Rt,Rt,Ur (xs:=xs)]at this;omega
 have hL:=QfR p out.toList 0 xs (by omega);rw[Nat.add_zero,hlen,show p+(q-p)=q by omega]at hL;have hxy:xs.toList=xs.toList.take p++((xs.extract p v).toList++(xs.extract v q).toList++xs.toList.drop q):=by
  rw[Qal,Qal]
  conv=>lhs;rw[<-Tz p xs.toList]
  congr 1
  conv=>lhs;rw[<-Tz (q-p) (xs.toList.drop p),Bp,show p+(q-p)=q by omega]
  congr 1;rw[show q-p=(v-p)+(q-v) by omega,List.take_add,Bp,show p+(v-p)=v by omega]
 have ltp:(xs.toList.take p).length=p:=by rw[Tw,Ur];omega
 -- the cells
 have kIn:∀m,p<=m->m<q->K (lay xs p out.toList 0) m=Kl out.toList (m-p):=λm h1 h2=>by rw[K_l,hL];unfold Kl;rw[UE (by omega),ltp,Ul (by omega)]
 have kOut:∀m,m<p\/q<=m->K (lay xs p out.toList 0) m=K xs m:=λm h=>by
  rw[K_l,hL,K_l];unfold Kl;rcases h with h|h
  ·rw[Ul (by omega),BB h]
  ·rw[UE (by omega),ltp,UE (by omega),hlen,List.getElem?_drop,show q+(m-p - (q-p))=m by omega]
 have kMem:∀m,p<=m->m<q->∃n,p<=n/\n<q/\K (lay xs p out.toList 0) m=K xs n:=λm h1 h2=>by
  rw[kIn m h1 h2];obtain⟨x,hx,e⟩:=Qn8 (l:=out.toList) (i:=m-p) (by omega);rcases Uu.mp (hm.1.mem_iff.mp hx) with hx|hx
  ·rw[Qal]at hx;obtain⟨n,h3,h4,_,e'⟩:=JF hx;exact⟨n,h3,by omega,e.trans e'⟩
  ·rw[Qal]at hx;obtain⟨n,h3,h4,_,e'⟩:=JF hx;exact⟨n,by omega,by omega,e.trans e'⟩
 refine⟨?_,?_,kOut⟩
 ·rw[hL]
  conv=>rhs;rw[hxy]
  exact WL _ (WD _ hm.1)
 ·intro i j hi hij hj;by_cases a1:i<p
  ·rw[kOut i (.inl a1)];by_cases b1:j<p
   ·rw[kOut j (.inl b1)];exact s1 i j hi hij (by omega)
   by_cases b2:j<q
   ·obtain⟨n,h3,h4,en⟩:=kMem j (by omega) b2;rw[en];by_cases h5:n<v
    ·exact s1 i n hi (by omega) h5
    ·exact U5 (c1 i hi a1) (s2 v n (Ug _) (by omega) (by omega))
   ·rw[kOut j (.inr (by omega))];exact U5 (c1 i hi a1) (s2 v j (Ug _) (by omega) hj)
  by_cases a2:i<q
  ·by_cases b2:j<q
   ·rw[kIn i (by omega) a2,kIn j (by omega) b2];exact Qn9 hm.2 (by omega) (by omega)
   ·obtain⟨n,h3,h4,en⟩:=kMem i (by omega) a2;rw[en,kOut j (.inr (by omega))];by_cases h5:n<v
    ·exact U5 (s1 n (v-1) (by omega) (by omega) (by omega)) (c2 j (by omega) hj)
    ·exact s2 n j (by omega) (by omega) hj
  ·rw[kOut i (.inr (by omega)),kOut j (.inr (by omega))];exact s2 i j (by omega) hij hj
section
variable{prog:Program}{w:World}{A:Around}{E:VP}{s:Shared}[Cmp prog w A s]
theorem Qob{σ:Type}{M:Model}{x:σ}{Q:PUnit->σ->Prop}{st:σ}(h:Q ⟨⟩ x):wpS M A E s (set x:StateT σ Sem PUnit) Q st:=by unfold wpS;rw[StateT.run_set];exact Ub ⟨rfl,h⟩
theorem QgP(hq:q<=xs.size)(hi:p+i<q):K (xs.extract p q) i=K xs (p+i):=Qda (by rw[Array.getElem?_extract,Ue (by omega)])
theorem Qdh{xs:Array Keyed}{p q:Nat}(hq:q<=xs.size):(xs.extract p q).size=q-p:=by rw[Array.size_extract];omega
theorem Qk7{xs:Array Keyed}(h:∀x∈xs,KI x)(p q:Nat):∀x∈xs.extract p q,KI x:=λx hx=>by have h1:=Tq.mpr hx;rw[Qal]at h1;exact h x (Tq.mp (List.mem_of_mem_drop (List.mem_of_mem_take h1)))
theorem QfS{xs:Array Keyed}{p q:Nat}(hq:q<=xs.size)(h:SOn xs p q):JE (xs.extract p q) (xs.extract p q).size:=λi j hij hj=>by rw[Qdh hq]at hj;rw[QgP hq (by omega),QgP hq (by omega)];exact h _ _ (by omega) (by omega) (by omega)
theorem Qoc{st:SortSt}{i u m pw v n pw2:Nat}{Q:Bool->SortSt->Prop}(hk:kindOf st=Rk.kd)(hf:failedOf st=none)(ki:∀x∈arrOf st,KI x)(p1:(pendingOf st)[i]?=some (u,m,pw))(p2:(pendingOf st)[i+1]?=some (v,n,pw2))(hv:v=u+m)(hm:0<m)(hn:0<n)(he:v+n<=(arrOf st).size)(s1:SOn (arrOf st) u v)(s2:SOn (arrOf st) v (v+n))(h:∀st',kindOf st'=Rk.kd->failedOf st'=none->pendingOf st'=((pendingOf st).setIfInBounds i (u,m+n,pw)).eraseIdxIfInBounds (i+1)->(arrOf st').toList.Perm (arrOf st).toList->SOn (arrOf st') u (v+n)->(∀k,k<u\/v+n<=k->K (arrOf st') k=K (arrOf st) k)->Q true st'):
  wpS (model prog w) A E s (mergeAt' i) Q st:=by
 subst hv;rw[Qn7];refine Uo (Bt ?_);rw[p1,p2];dsimp only;refine Uo (Qob ?_);have hv':u+m<(arrOf st).size:=by omega
 refine Uo (QK hv' (Uo ?_));refine QaN hk (ki _ (U2 hv')) ki (by omega) hm (λi j h1 h2=>s1 _ _ (by omega) (by omega) (by omega)) λk hkm pk qk=>?_;rw[YB hv']at pk qk;simp only[LK_f]at pk qk;dsimp only;have P:∀x,u<=x->x<u+k->K (arrOf st) x<=K (arrOf st) (u+m):=λx h1 h2=>by have:=UA (pk (x-u) (by omega));rwa[show u+(x-u)=x by omega]at this
 -- nothing to do: sorted as it stands
 have asis:(∀x y,u<=x->x<u+m->u+m<=y->y<u+m+n->K (arrOf st) x<=K (arrOf st) y)->SOn (arrOf st) u (u+m+n):=λc x y h1 h2 h3=>by
  by_cases hy:y<u+m
  ·exact s1 x y h1 h2 hy
  ·by_cases hx:x<u+m
   ·exact c x y h1 hx (by omega) h3
   ·exact s2 x y (by omega) h2 h3
 by_cases e1:m-k=0
 ·refine Qp (QQ e1) ?_;exact Uv (h _ hk hf rfl (List.Perm.refl _) (asis λx y h1 h2 h3 h4=>U5 (P x h1 (by omega)) (s2 _ y (Ug _) h3 h4)) λ_ _=>rfl)
 refine Qq (Zl e1) ?_;have hl:u+k+(m-k) - 1<(arrOf st).size:=by omega
 refine Uo (QK hl (Uo ?_));refine QaN hk (ki _ (U2 hl)) ki (by omega) (by omega) (λi j h1 h2=>s2 _ _ (by omega) (by omega) (by omega)) λn2 hn2 rk tk=>?_;rw[YB hl]at rk tk;simp only[LK_t,show u+k+(m-k) - 1=u+m-1 by omega]at rk tk;dsimp only;have T:∀y,u+m+n2<=y->y<u+m+n->K (arrOf st) (u+m-1)<=K (arrOf st) y:=λy h1 h2=>by have:=WA.mp (Ry (tk (y - (u+m)) (by omega) (by omega)));rwa[show u+m+(y - (u+m))=y by omega]at this
 by_cases e2:n2=0
 ·refine Qp (QQ e2) ?_;exact Uv (h _ hk hf rfl (List.Perm.refl _) (asis λx y h1 h2 h3 h4=>U5 (s1 x (u+m-1) h1 (by omega) (by omega)) (T y (by omega) h4)) λ_ _=>rfl)
 refine Qq (Zl e2) ?_;have z1:u+m<=(arrOf st).size:=by omega
 have z2:u+m+n2<=(arrOf st).size:=by omega
 have S1:=Qdh (p:=u+k) z1;have S2:=Qdh (p:=u+m) z2;have hb:K ((arrOf st).extract (u+m) (u+m+n2)) 0<=K ((arrOf st).extract (u+k) (u+m)) 0:=by rw[QgP z2 (by omega),QgP z1 (by omega)];exact TK (Int.not_le.mp (Ry (qk k (Ug _) (by omega))))
 have hc:∀x,x<((arrOf st).extract (u+m) (u+m+n2)).size->K ((arrOf st).extract (u+m) (u+m+n2)) x<=K ((arrOf st).extract (u+k) (u+m)) (((arrOf st).extract (u+k) (u+m)).size-1):=λx hx=>by rw[S2]at hx;rw[S1,QgP z2 (by omega),QgP z1 (by omega),show u+k+(u+m - (u+k) - 1)=u+m-1 by omega];exact TK (UA (rk x (by omega)))
 have done:∀out st',Alike (setPending st (((pendingOf st).setIfInBounds i (u,m+n,pw)).eraseIdxIfInBounds (i+1))) st'->Mrg out ((arrOf st).extract (u+k) (u+m)) ((arrOf st).extract (u+m) (u+m+n2))->
   wpS (model prog w) A E s (do
    modify λz=>setArr z (lay (arrOf z) (u+k) out.toList 0)
    return (failedOf (<-get)).isNone) Q st':=by
  intro out st' al hM;refine Uo (Bu (Uo (Bt ?_)));have ea:arrOf st'=arrOf st:=al.2.1;have ef:failedOf st'=none:=al.2.2.2.trans hf;have L:=Qoa (xs:=arrOf st) (out:=out) (u:=u) (p:=u+k) (q:=u+m+n2) (v:=u+m) (e:=u+m+n) (by omega) (by omega) (by omega) (by omega) he s1 s2 P T hM;rw[<-ea]at L;show wpS _ _ _ _ (pure (failedOf st').isNone) _ _;rw[ef];exact Uv (h _ (al.1.trans hk) ef al.2.2.1 (by rw[<-ea];exact L.1) L.2.1 λx hx=>by rw[<-ea];exact L.2.2 x (by omega))
 have T2:Two ((arrOf st).extract (u+k) (u+m)) ((arrOf st).extract (u+m) (u+m+n2)):=⟨Qk7 ki _ _,Qk7 ki _ _,QfS z1 λx y h1 h2 h3=>s1 x y (Tu h1) h2 h3,QfS z2 λx y h1 h2 h3=>s2 x y h1 h2 (UB h3 (Tx hn2 _)),hb,hc⟩
 have d1:0<((arrOf st).extract (u+k) (u+m)).size:=by omega
 have d2:0<((arrOf st).extract (u+m) (u+m+n2)).size:=by omega
 by_cases e3:m-k<=n2
 ·exact Qp e3 (Uo <| Qn2 (st:=setPending st (((pendingOf st).setIfInBounds i (u,m+n,pw)).eraseIdxIfInBounds (i+1))) T2 hk d1 d2 done)
 ·exact Qq e3 (Uo <| Qn6 (st:=setPending st (((pendingOf st).setIfInBounds i (u,m+n,pw)).eraseIdxIfInBounds (i+1))) T2 hk d1 d2 done)
end
structure Chg(st st':SortSt)(lo hi:Nat):Prop where
 kind:kindOf st'=kindOf st
 failed:failedOf st'=failedOf st
 pend:pendingOf st'=pendingOf st
 perm:(arrOf st').toList.Perm (arrOf st).toList
 out:∀k,k<lo\/hi<=k->K (arrOf st') k=K (arrOf st) k
theorem Chg.refl(st:SortSt)(lo hi:Nat):Chg st st lo hi:=⟨rfl,rfl,rfl,List.Perm.refl _,λ_ _=>rfl⟩
theorem Chg.trans{st st' st'':SortSt}{lo hi:Nat}(a:Chg st st' lo hi)(b:Chg st' st'' lo hi):Chg st st'' lo hi:=⟨b.kind.trans a.kind,b.failed.trans a.failed,b.pend.trans a.pend,b.perm.trans a.perm,λk h=>(b.out k h).trans (a.out k h)⟩
theorem Chg.size{st st':SortSt}{lo hi:Nat}(a:Chg st st' lo hi):(arrOf st').size=(arrOf st).size:=by have:=a.perm.length_eq;rwa[Ur,Ur]at this
theorem Chg.ki{st st':SortSt}{lo hi:Nat}(a:Chg st st' lo hi)(h:∀x∈arrOf st,KI x):∀x∈arrOf st',KI x:=λx hx=>h x (Tq.mp (a.perm.mem_iff.mp (Tq.mpr hx)))
theorem Chg.wide{st st':SortSt}{lo hi lo' hi':Nat}(a:Chg st st' lo hi)(h1:lo'<=lo)(h2:hi<=hi'):Chg st st' lo' hi':=⟨a.kind,a.failed,a.pend,a.perm,λk h=>a.out k (by omega)⟩
def NOn(xs:Array Keyed)(lo hi:Nat):Prop:=∀i j,lo<=i->i<=j->j<hi->K xs j<=K xs i
theorem JG{st:SortSt}{i j:Nat}(hj:j<=(arrOf st).size):Chg st (setArr st (mirror (arrOf st) i j ((j-i) / 2))) i j:=⟨rfl,rfl,rfl,TV.mp (mirror_perm _ _ _ _),λk h=>by show K (mirror _ _ _ _) k=_;rw[Qbm hj,Uf (by omega)]⟩
section
variable{prog:Program}{w:World}{A:Around}{E:VP}{s:Shared}[Cmp prog w A s]
theorem QbI{st:SortSt}{i j:Nat}{Q:Option Bool->SortSt->Prop}(hk:kindOf st=Rk.kd)(ki:∀x∈arrOf st,KI x)(hi:i<(arrOf st).size)(hj:j<(arrOf st).size)(h:Q (some (decide (K (arrOf st) i<K (arrOf st) j))) st):wpS (model prog w) A E s (ltAt' i j) Q st:=by rw[ltAt'_eq];refine Uo (Bt ?_);refine Uo (QK hi (Uo (QK hj (QhP hk (ki _ (U2 hi)) (ki _ (U2 hj)) ?_))));rw[YB hi,YB hj];exact h
theorem Qpz(lo n ok:Nat):binarySort' lo n ok=(do
 for k in [max ok 1:n] do
  let mut l:=0
  let mut r:=k
  for _ in [0:k] do
   if l>=r then break
   let some y <-ltAt' (lo+k) (lo+(l+r) / 2)|return false
   if y then r:=(l+r) / 2 else l:=(l+r) / 2+1
  moveDown' (lo+k) (lo+l)
 return true):=by rfl
theorem QpA{st:SortSt}{lo n ok:Nat}{Q:Bool->SortSt->Prop}(hk:kindOf st=Rk.kd)(ki:∀x∈arrOf st,KI x)(hn:lo+n<=(arrOf st).size)(hok:ok<=n)(so:SOn (arrOf st) lo (lo+ok))(h:∀st',Chg st st' lo (lo+n)->SOn (arrOf st') lo (lo+n)->Q true st'):wpS (model prog w) A E s (binarySort' lo n ok) Q st:=by
 rw[Qpz];refine Uo (T5 (Tf (I:=λk c st'=>c=(none,())/\Chg st st' lo (lo+n)/\SOn (arrOf st') lo (lo+min k n))
  (Q:=λc st'=>c=(none,())/\Chg st st' lo (lo+n)/\SOn (arrOf st') lo (lo+n)) ?step ?fin ⟨rfl,.refl _ _ _,?init⟩) ?post)
 case post =>rintro c st' ⟨rfl,c',s'⟩;exact Uv (h st' c' s')
 case init=>
  intro i j h1 h2 h3;by_cases e:i=j
  ·subst e;exact T4 _
  ·exact so i j h1 h2 (by omega)
 case fin =>rintro c st' ⟨rfl,c',s'⟩;exact⟨rfl,c',by rwa[show min (max (max ok 1) n) n=n by omega]at s'⟩
 case step=>
  rintro k c st' hak hkn ⟨rfl,C,S⟩;rw[show min k n=k by omega]at S;have hz:lo+k<(arrOf st').size:=by rw[C.size];omega
  refine Uo (T5 (Tf (I:=λx c st''=>st''=st'/\∃l r,c=(none,l,r)/\l<=r/\r<=k/\r-l<=k-x/\(∀i,i<l->K (arrOf st') (lo+i)<=K (arrOf st') (lo+k))/\(∀i,r<=i->i<k->K (arrOf st') (lo+k)<K (arrOf st') (lo+i)))
   (Q:=λc st''=>st''=st'/\∃l r,c=(none,l,r)/\l<=k/\(∀i,i<l->K (arrOf st') (lo+i)<=K (arrOf st') (lo+k))/\(∀i,l<=i->i<k->K (arrOf st') (lo+k)<K (arrOf st') (lo+i))) ?s1 ?f1
    ⟨rfl,0,k,rfl,by omega,by omega,by omega,λi hi=>by omega,λi h1 h2=>by omega⟩) ?p1)
  case f1=>
   rintro c st'' ⟨rfl,l,r,rfl,a1,a2,a3,a4,a5⟩;have e:l=r:=by omega
   subst e;exact⟨rfl,l,l,rfl,a2,a4,a5⟩
  case s1=>
   rintro x c st'' _ hx ⟨rfl,l,r,rfl,a1,a2,a3,a4,a5⟩;dsimp only;by_cases hge:l>=r
   ·refine Qp hge ?_;have e:l=r:=by omega
    subst e;exact Uv ⟨rfl,l,l,rfl,a2,a4,a5⟩
   ·refine Qq hge ?_;refine Uo (QbI (C.kind.trans hk) (C.ki ki) hz (by omega) ?_);dsimp only;by_cases hl:K (arrOf st'') (lo+k)<K (arrOf st'') (lo+(l+r) / 2)
    ·refine Qp (Uq hl) ?_;exact Uv ⟨rfl,l,(l+r) / 2,rfl,by omega,by omega,by omega,a4,λi h1 h2=>Int.lt_of_lt_of_le hl (S _ _ (by omega) (by omega) (by omega))⟩
    ·refine Qq (QbH hl) ?_;exact Uv ⟨rfl,(l+r) / 2+1,r,rfl,by omega,by omega,by omega,λi h1=>U5 (S _ (lo+(l+r) / 2) (by omega) (by omega) (by omega)) (WA.mp hl),a5⟩
  case p1=>
   rintro c st'' ⟨rfl,l,r,rfl,hl,a4,a5⟩;dsimp only;rw[moveDown'_eq];have kb:=λm=>Qj5 (xs:=arrOf st'') (src:=lo+k) (d:=lo+k - (lo+l)) hz (by omega) m;rw[show lo+k - (lo+k - (lo+l))=lo+l by omega]at kb;refine Uo (Bu (Uv ⟨rfl,C.trans ⟨rfl,rfl,rfl,TV.mp (bubble_perm _ _ _),λm hm=>?_⟩,?_⟩))
   ·show K (bubble _ _ _) m=_;rw[kb,Uf (by omega),Uf (by omega)]
   ·rw[show min (k+1) n=k+1 by omega];intro i j h1 h2 h3;show K (bubble _ _ _) i<=K (bubble _ _ _) j;have lo4:∀m,lo<=m->m<lo+l->K (arrOf st'') m<=K (arrOf st'') (lo+k):=λm q1 q2=>by have:=a4 (m-lo) (by omega);rwa[show lo+(m-lo)=m by omega]at this
    have hi5:∀m,lo+l<=m->m<lo+k->K (arrOf st'') (lo+k)<=K (arrOf st'') m:=λm q1 q2=>by have:=a5 (m-lo) (by omega) (by omega);rw[show lo+(m-lo)=m by omega]at this;exact TK this
    rw[kb,kb];by_cases i1:i=lo+l
    ·rw[Ue i1];by_cases j1:j=lo+l
     ·rw[Ue j1];exact T4 _
     ·rw[Uf j1,Ue (by omega)];exact hi5 _ (by omega) (by omega)
    ·rw[Uf i1];by_cases i2:lo+l<i/\i<=lo+k
     ·rw[Ue i2,Uf (by omega),Ue (by omega)];exact S _ _ (by omega) (by omega) (by omega)
     ·rw[Uf i2];by_cases j1:j=lo+l
      ·rw[Ue j1];exact lo4 _ h1 (by omega)
      ·rw[Uf j1];by_cases j2:lo+l<j/\j<=lo+k
       ·rw[Ue j2];exact S _ _ h1 (by omega) (by omega)
       ·rw[Uf j2];exact S _ _ h1 h2 (by omega)
end
noncomputable def upL(lo b nr:Nat):StateT SortSt Sem (Option (Option Nat)×Nat):=
 forIn [b:nr] ((none,b):Option (Option Nat)×Nat) λ_ c=>do
  let z <-ltAt' (lo+c.snd) (lo+c.snd-1)
  match z with
  |some y=>if y=true then pure (ForInStep.done (none,c.snd)) else pure (ForInStep.yield (none,c.snd+1))
  |_=>pure (ForInStep.done (some none,c.snd))
noncomputable def endP(lo n nr:Nat):StateT SortSt Sem (Option Nat):=do
 reverseSlice' lo (lo+n)
 let c <-upL lo n nr
 match c.fst with
 |some r=>pure r|none=>pure (some c.snd)
noncomputable def dnL(lo n nr:Nat):StateT SortSt Sem (Option (Option Nat)×Nat×Nat):=
 forIn [n:nr] ((none,n,0):Option (Option Nat)×Nat×Nat) λ_ c=>do
  let z <-ltAt' (lo+c.snd.fst) (lo+c.snd.fst-1)
  match z with
  |some y=>
   if y=true then
    if c.snd.snd>0 then do
     reverseSlice' (lo+c.snd.fst - (c.snd.snd+1)) (lo+c.snd.fst)
     pure (ForInStep.yield (none,c.snd.fst+1,0))
    else pure (ForInStep.yield (none,c.snd.fst+1,0))
   else do
    let z <-ltAt' (lo+c.snd.fst-1) (lo+c.snd.fst)
    match z with
    |some g=>if g=true then pure (ForInStep.done (none,c.snd.fst,c.snd.snd)) else pure (ForInStep.yield (none,c.snd.fst+1,c.snd.snd+1))
    |_=>pure (ForInStep.done (some none,c.snd.fst,c.snd.snd))
  |_=>pure (ForInStep.done (some none,c.snd.fst,c.snd.snd))
noncomputable def dnP(lo n nr:Nat):StateT SortSt Sem (Option Nat):=do
 liftM (rule "list.sort.descending-run")
 let c <-dnL lo (n+1) nr
 match c.fst with
 |some r=>pure r|none=>
  if c.snd.snd>0 then do
   reverseSlice' (lo+c.snd.fst - (c.snd.snd+1)) (lo+c.snd.fst)
   endP lo c.snd.fst nr
  else endP lo c.snd.fst nr
theorem QpB(lo nr:Nat):countRun' lo nr=(do
  let c <-upL lo 1 nr
  match c.fst with
  |some r=>pure r|none=>
   if (c.snd==nr)=true then pure (some c.snd)
   else if c.snd>1 then do
    let z <-ltAt' lo (lo+c.snd-1)
    match z with
    |some y=>if y=true then pure (some c.snd) else do
      reverseSlice' lo (lo+c.snd)
      dnP lo c.snd nr
    |_=>pure none
   else dnP lo c.snd nr):=by
 rw[countRun'_eq];dsimp only;unfold dnP endP dnL upL;congr 1;funext c;obtain⟨r,n⟩:=c;cases r with
 |some r=>rfl|none=>
  dsimp only;split
  ·rfl
  ·split
   ·congr 1;funext z;cases z with
    |none=>rfl|some y=>
     dsimp only;split
     ·rfl
     ·congr 1;funext _;congr 1;funext _;congr 1;funext c2;obtain⟨r2,n2,q2⟩:=c2;cases r2 with
      |some r2=>rfl|none=>(dsimp only;split;(congr 1;funext _;(congr 1;funext _;congr 1;funext c3;obtain⟨r3,n3⟩:=c3;cases r3<;>rfl));(congr 1;funext _;congr 1;funext c3;obtain⟨r3,n3⟩:=c3;cases r3<;>rfl))
   ·congr 1;funext _;congr 1;funext c2;obtain⟨r2,n2,q2⟩:=c2;cases r2 with
    |some r2=>rfl|none=>(dsimp only;split;(congr 1;funext _;(congr 1;funext _;congr 1;funext c3;obtain⟨r3,n3⟩:=c3;cases r3<;>rfl));(congr 1;funext _;congr 1;funext c3;obtain⟨r3,n3⟩:=c3;cases r3<;>rfl))
section
variable{prog:Program}{w:World}{A:Around}{E:VP}{s:Shared}[Cmp prog w A s]{st:SortSt}{lo nr:Nat}
theorem Qk8{b:Nat}{Q:Option (Option Nat)×Nat->SortSt->Prop}(hk:kindOf st=Rk.kd)(ki:∀x∈arrOf st,KI x)(hn:lo+nr<=(arrOf st).size)(hb:1<=b)(hbn:b<=nr)(so:SOn (arrOf st) lo (lo+b))(h:∀n,b<=n->n<=nr->SOn (arrOf st) lo (lo+n)->(n=nr\/K (arrOf st) (lo+n)<K (arrOf st) (lo+n-1))->Q (none,n) st):
  wpS (model prog w) A E s (upL lo b nr) Q st:=by
 unfold upL;refine Tf (I:=λx c st'=>st'=st/\c=(none,x)/\SOn (arrOf st) lo (lo+x)) ?step ?fin ⟨rfl,rfl,so⟩;case fin =>rintro c st' ⟨rfl,rfl,s'⟩;rw[show max b nr=nr by omega]at s' ⊢;exact h nr hbn (Ug _) s' (.inl rfl)
 case step=>
  rintro x c st' h1 h2 ⟨rfl,rfl,s'⟩;dsimp only;refine Uo (QbI hk ki (by omega) (by omega) ?_);dsimp only;by_cases hl:K (arrOf st') (lo+x)<K (arrOf st') (lo+x-1)
  ·refine Qp (Uq hl) ?_;exact Uv (h x h1 (by omega) s' (.inr hl))
  ·refine Qq (QbH hl) ?_;refine Uv ⟨rfl,rfl,λi j q1 q2 q3=>?_⟩;by_cases e:j<lo+x
   ·exact s' i j q1 q2 e
   ·have e':j=lo+x:=by omega
    subst e';by_cases e2:i=lo+x
    ·subst e2;exact T4 _
    ·exact U5 (s' i (lo+x-1) q1 (by omega) (by omega)) (WA.mp hl)
theorem QhU{st0:SortSt}{n:Nat}{Q:Option Nat->SortSt->Prop}(hk:kindOf st0=Rk.kd)(ki:∀x∈arrOf st0,KI x)(hn:lo+nr<=(arrOf st0).size)(C:Chg st0 st lo (lo+nr))(h1:1<=n)(h2:n<=nr)(so:NOn (arrOf st) lo (lo+n))(h:∀m st',Chg st0 st' lo (lo+nr)->1<=m->m<=nr->SOn (arrOf st') lo (lo+m)->Q (some m) st'):wpS (model prog w) A E s (endP lo n nr) Q st:=by
 unfold endP;have hz:lo+n<=(arrOf st).size:=by rw[C.size];omega
 refine Uo (wpS_reverse ?_);have C':Chg st0 (setArr st (mirror (arrOf st) lo (lo+n) ((lo+n-lo) / 2))) lo (lo+nr):=C.trans ((JG hz).wide (Ug _) (by omega));refine Uo (Qk8 (C'.kind.trans hk) (C'.ki ki) (by rw[C'.size];exact hn) h1 h2 (λi j q1 q2 q3=>?_) λm q1 q2 q3 _=>Uv (h m _ C' (by omega) q2 q3));show K (mirror _ _ _ _) i<=K (mirror _ _ _ _) j;rw[Qbm hz,Qbm hz,Ue (by omega),Ue (by omega)];exact so _ _ (by omega) (by omega) (by omega)
theorem Qod{st0:SortSt}{n:Nat}{Q:Option (Option Nat)×Nat×Nat->SortSt->Prop}(hk:kindOf st0=Rk.kd)(ki:∀x∈arrOf st0,KI x)(hn:lo+nr<=(arrOf st0).size)(C:Chg st0 st lo (lo+nr))(h1:1<=n)(h2:n<=nr)(so:NOn (arrOf st) lo (lo+n))(h:∀m q st',Chg st0 st' lo (lo+nr)->n<=m->m<=nr->NOn (arrOf st') lo (lo+m)->q+1<=m->(∀i,lo+m - (q+1)<=i->i<lo+m->K (arrOf st') i=K (arrOf st') (lo+m-1))->Q (none,m,q) st'):
  wpS (model prog w) A E s (dnL lo n nr) Q st:=by
 unfold dnL;refine Tf (I:=λx c st'=>∃q,c=(none,x,q)/\Chg st0 st' lo (lo+nr)/\NOn (arrOf st') lo (lo+x)/\q+1<=x/\(∀i,lo+x - (q+1)<=i->i<lo+x->K (arrOf st') i=K (arrOf st') (lo+x-1))) ?step ?fin ⟨0,rfl,C,so,by omega,λi q1 q2=>by congr 1;omega⟩
 case fin =>rintro c st' ⟨q,rfl,C',s',hq,he⟩;rw[show max n nr=nr by omega]at s' hq he ⊢;exact h nr q st' C' h2 (Ug _) s' hq he
 case step=>
  rintro x c st' a1 a2 ⟨q,rfl,C',s',hq,he⟩;dsimp only;have hz:lo+x<(arrOf st').size:=by rw[C'.size];omega
  have more:∀xs:Array Keyed,(∀k,K xs k=K (arrOf st') k)->K (arrOf st') (lo+x)<=K (arrOf st') (lo+x-1)->NOn xs lo (lo+(x+1)):=by
   intro xs hx hl i j q1 q2 q3;rw[hx,hx];by_cases e:j<lo+x
   ·exact s' i j q1 q2 e
   ·have e':j=lo+x:=by omega
    subst e';by_cases e2:i=lo+x
    ·subst e2;exact T4 _
    ·exact U5 hl (s' i (lo+x-1) q1 (by omega) (by omega))
  refine Uo (QbI (C'.kind.trans hk) (C'.ki ki) hz (by omega) ?_);dsimp only;by_cases hl:K (arrOf st') (lo+x)<K (arrOf st') (lo+x-1)
  ·refine Qp (Uq hl) ?_;by_cases hq0:q>0
   ·refine Qp hq0 ?_;refine Uo (wpS_reverse (Uv ⟨0,rfl,C'.trans ((JG (by omega)).wide (by omega) (by omega)),more _ (λk=>Zj (by omega) he k) (TK hl),by omega,λi q1 q2=>by congr 1;omega⟩))
   ·refine Qq hq0 ?_;exact Uv ⟨0,rfl,C',more _ (λ_=>rfl) (TK hl),by omega,λi q1 q2=>by congr 1;omega⟩
  ·refine Qq (QbH hl) ?_;refine Uo (QbI (C'.kind.trans hk) (C'.ki ki) (by omega) hz ?_);dsimp only;by_cases hg:K (arrOf st') (lo+x-1)<K (arrOf st') (lo+x)
   ·refine Qp (Uq hg) ?_;exact Uv (h x q st' C' a1 (by omega) s' hq he)
   ·refine Qq (QbH hg) ?_;have e:K (arrOf st') (lo+x)=K (arrOf st') (lo+x-1):=by omega
    refine Uv ⟨q+1,rfl,C',more _ (λ_=>rfl) (by omega),by omega,λi q1 q2=>?_⟩;rw[show lo+(x+1) - 1=lo+x by omega];by_cases e2:i=lo+x
    ·subst e2;rfl
    ·rw[e];exact he i (by omega) (by omega)
theorem Qk9{st0:SortSt}{n:Nat}{Q:Option Nat->SortSt->Prop}(hk:kindOf st0=Rk.kd)(ki:∀x∈arrOf st0,KI x)(hn:lo+nr<=(arrOf st0).size)(C:Chg st0 st lo (lo+nr))(h2:n+1<=nr)(so:NOn (arrOf st) lo (lo+(n+1)))(h:∀m st',Chg st0 st' lo (lo+nr)->1<=m->m<=nr->SOn (arrOf st') lo (lo+m)->Q (some m) st'):wpS (model prog w) A E s (dnP lo n nr) Q st:=by
 unfold dnP;refine Uo (BU (TD ⟨rfl,?_⟩));refine Uo (Qod hk ki hn C (by omega) h2 so λm q st' C' m1 m2 s' hq he=>?_);dsimp only;have hz:lo+m<=(arrOf st').size:=by rw[C'.size];omega
 by_cases hq0:q>0
 ·refine Qp hq0 ?_;refine Uo (wpS_reverse (QhU hk ki hn (C'.trans ((JG hz).wide (by omega) (by omega))) (by omega) m2 (λi j q1 q2 q3=>?_) h));show K (mirror _ _ _ _) j<=K (mirror _ _ _ _) i;rw[Zj hz he,Zj hz he];exact s' i j q1 q2 q3
 ·refine Qq hq0 ?_;exact QhU hk ki hn C' (by omega) m2 s' h
theorem QpC{Q:Option Nat->SortSt->Prop}(hk:kindOf st=Rk.kd)(ki:∀x∈arrOf st,KI x)(hn:lo+nr<=(arrOf st).size)(h1:1<=nr)(h:∀m st',Chg st st' lo (lo+nr)->1<=m->m<=nr->SOn (arrOf st') lo (lo+m)->Q (some m) st'):wpS (model prog w) A E s (countRun' lo nr) Q st:=by
 rw[QpB];have one:SOn (arrOf st) lo (lo+1):=λi j q1 q2 q3=>by
  have e:i=j:=by omega
  subst e;exact T4 _
 refine Uo (Qk8 hk ki hn (Ug 1) h1 one λn n1 n2 sn hor=>?_);dsimp only;by_cases e:n=nr
 ·refine Qp (QQ e) ?_;exact Uv (h n st (.refl _ _ _) n1 n2 sn)
 refine Qq (Zl e) ?_;have hl:=hor.resolve_left e;by_cases hg:n>1
 ·refine Qp hg ?_;refine Uo (QbI hk ki (by omega) (by omega) ?_);dsimp only;by_cases hr:K (arrOf st) lo<K (arrOf st) (lo+n-1)
  ·refine Qp (Uq hr) ?_;exact Uv (h n st (.refl _ _ _) n1 n2 sn)
  ·refine Qq (QbH hr) ?_;have hz:lo+n<=(arrOf st).size:=by omega
   have all:∀k,lo<=k->k<lo+n->K (arrOf st) k=K (arrOf st) (lo+n-1):=λk q1 q2=>by have:=sn lo k (Ug _) q1 q2;have:=sn k (lo+n-1) q1 (by omega) (by omega);omega
   refine Uo (wpS_reverse (Qk9 hk ki hn ((JG hz).wide (Ug _) (by omega)) (by omega) (λi j q1 q2 q3=>?_) h));show K (mirror _ _ _ _) j<=K (mirror _ _ _ _) i;rw[Zj hz all,Zj hz all];by_cases ej:j<lo+n
   ·rw[all i q1 (by omega),all j (by omega) ej];exact T4 _
   ·have ej':j=lo+n:=by omega
    subst ej';by_cases ei:i=lo+n
    ·subst ei;exact T4 _
    ·rw[all i q1 (by omega)];exact TK hl
 ·refine Qq hg ?_;have e1:n=1:=by omega
  subst e1;refine Qk9 hk ki hn (.refl _ _ _) (by omega) (λi j q1 q2 q3=>?_) h;by_cases ei:i=j
  ·subst ei;exact T4 _
  ·have e2:i=lo:=by omega
   have e3:j=lo+1:=by omega
   subst e2;subst e3;exact TK hl
end
noncomputable abbrev Pn:=Nat×Nat×Nat
noncomputable def Tl(xs:Array Keyed):Nat->List Pn->Nat->Prop
 |a,[],b=>a=b|a,x::r,b=>x.1=a/\0<x.2.1/\SOn xs a (a+x.2.1)/\Tl xs (a+x.2.1) r b
theorem Tl.le:∀{p:List Pn}{a b:Nat},Tl xs a p b->a+p.length<=b
 |[],_,_,h=>WH h|x::r,a,b,h=>by have:=Tl.le h.2.2.2;have:=h.2.1;rw[UH];omega
theorem Tl.app:∀{p q:List Pn}{a b:Nat},Tl xs a (p++q) b->∃c,Tl xs a p c/\Tl xs c q b
 |[],_,a,_,h=>⟨a,rfl,h⟩|_::_,_,_,_,h=>let ⟨c,h1,h2⟩:=Tl.app h.2.2.2;⟨c,⟨h.1,h.2.1,h.2.2.1,h1⟩,h2⟩
theorem Tl.glue:∀{p q:List Pn}{a c b:Nat},Tl xs a p c->Tl xs c q b->Tl xs a (p++q) b
 |[],_,_,_,_,h,k=>by cases h;exact k
 |_::_,_,_,_,_,h,k=>⟨h.1,h.2.1,h.2.2.1,Tl.glue h.2.2.2 k⟩
theorem Tl.same:∀{p:List Pn}{a b:Nat},Tl xs a p b->(∀k,a<=k->k<b->K ys k=K xs k)->Tl ys a p b
 |[],_,_,h,_=>h|x::r,a,b,h,e=>by have hl:=Tl.le h.2.2.2;refine⟨h.1,h.2.1,λi j h1 h2 h3=>?_,Tl.same h.2.2.2 λk h1 h2=>e k (by omega) h2⟩;rw[e i h1 (by omega),e j (by omega) (by omega)];exact h.2.2.1 i j h1 h2 h3
theorem Tl.pow(f:Pn->Pn)(hf:∀x,(f x).1=x.1/\(f x).2.1=x.2.1):∀{p:List Pn}{i a b:Nat},Tl xs a p b->Tl xs a (p.modify i f) b
 |[],i,_,_,h=>by cases i<;>exact h
 |x::r,0,a,b,h=>by show Tl xs a (f x::r) b;unfold Tl;rw[(hf x).1,(hf x).2];exact h
 |_::_,_+1,_,_,h=>⟨h.1,h.2.1,h.2.2.1,Tl.pow f hf h.2.2.2⟩
theorem Qoe(h:i+1<l.length):∃p x y q,l=p++x::y::q/\p.length=i:=by refine⟨l.take i,l[i],l[i+1],l.drop (i+2),?_,by rw[Tw];omega⟩;rw[<-Wm h,<-Wm (by omega),Tz]
theorem Qof(p q:List Pn)(x y z:Pn):((p++x::y::q).set p.length z).eraseIdx (p.length+1)=p++z::q:=by rw[B8 _ _ (Ug _),Nat.sub_self,Bn,List.eraseIdx_append_of_length_le (U6 _ 1),Ri,BF,List.eraseIdx_cons_zero]
structure Std(a₀:Array Keyed)(st:SortSt)(hi:Nat):Prop where
 kind:kindOf st=Rk.kd
 failed:failedOf st=none
 perm:(arrOf st).toList.Perm a₀.toList
 tl:Tl (arrOf st) 0 (pendingOf st).toList hi
 le:hi<=a₀.size
theorem Std.size{a₀:Array Keyed}{st:SortSt}{hi:Nat}(h:Std a₀ st hi):(arrOf st).size=a₀.size:=by have:=h.perm.length_eq;rwa[Ur,Ur]at this
theorem Std.ki{a₀:Array Keyed}{st:SortSt}{hi:Nat}(h:Std a₀ st hi)(k:∀x∈a₀,KI x):∀x∈arrOf st,KI x:=λx hx=>k x (Tq.mp (h.perm.mem_iff.mp (Tq.mpr hx)))
section
variable{prog:Program}{w:World}{A:Around}{E:VP}{s:Shared}[Cmp prog w A s]{a₀:Array Keyed}
theorem QhV{st:SortSt}{i hi:Nat}{Q:Bool->SortSt->Prop}(k0:∀x∈a₀,KI x)(S:Std a₀ st hi)(h1:i+1<(pendingOf st).size)(h:∀st',Std a₀ st' hi->(pendingOf st').size+1=(pendingOf st).size->(∀k,hi<=k->K (arrOf st') k=K (arrOf st) k)->Q true st'):
  wpS (model prog w) A E s (mergeAt' i) Q st:=by
 obtain⟨p,⟨u,m,pw⟩,⟨v,n,pw2⟩,q,e,hp⟩:=Qoe (l:=(pendingOf st).toList) (i:=i) (by rw[Ur];exact h1);have T:=S.tl;rw[e]at T;obtain⟨c,T1,T2⟩:=T.app;obtain⟨e1,m0,so1,e2,n0,so2,T3⟩:=T2;dsimp only at e1 m0 so1 e2 n0 so2 T3;subst e1;subst e2;have l3:=T3.le;have l1:=T1.le;have l0:=S.le;have hz:=S.size;have g1:(pendingOf st)[i]?=some (u,m,pw):=by rw[<-Tj,e,UE (by omega),hp,Nat.sub_self];rfl
 have g2:(pendingOf st)[i+1]?=some (u+m,n,pw2):=by rw[<-Tj,e,UE (by omega),hp,Ri];rfl
 refine Qoc S.kind S.failed (S.ki k0) g1 g2 rfl m0 n0 (by omega) so1 so2 λst' hk hf hpe hpm hso hout=>?_;have ep:(pendingOf st').toList=p++(u,m+n,pw)::q:=by rw[hpe,Array.toList_eraseIdxIfInBounds,Bi,e,<-hp,Qof]
 refine h st' ⟨hk,hf,hpm.trans S.perm,?_,l0⟩ ?_ λk hk=>hout k (.inr (by omega))
 ·rw[ep];refine(T1.same λk _ h2=>hout k (.inl h2)).glue ⟨rfl,by show 0<m+n;omega,?_,?_⟩
  ·show SOn _ u (u+(m+n));rw[<-Wa];exact hso
  ·show Tl _ (u+(m+n)) q hi;rw[<-Wa];exact T3.same λk h2 _=>hout k (.inr h2)
 ·rw[<-Ur,ep,<-Ur (xs:=pendingOf st),e,Us,Us];rfl
end
noncomputable def Qeh(z lo n:Nat):StateT SortSt Sem (ForInStep (Option Unit×Nat)):=do
 let t <-get
 match (pendingOf t).back? with
 |some (u,m,_)=>do
  let c <-forIn [0:z] ((none,()):Option Unit×Unit) λ_ _=>do
   let t <-get
   match (if (pendingOf t).size>1 then (pendingOf t)[(pendingOf t).size-2]? else none) with
   |some (_,_,o)=>
    if o<=power' z (2*u+m) (2*u+m+m+n) z then pure (ForInStep.done (none,())) else do
     let y <-mergeAt' ((pendingOf t).size-2)
     if (!y)=true then pure (ForInStep.done (some (),())) else pure (ForInStep.yield (none,()))
   |_=>pure (ForInStep.done (none,()))
  match c.fst with
  |some r=>pure (ForInStep.done (some r,lo))|none=>do
   modify λt=>setPending t ((pendingOf t).modify ((pendingOf t).size-1) λx=>(x.fst,x.snd.fst,power' z (2*u+m) (2*u+m+m+n) z))
   modify λt=>setPending t ((pendingOf t).push (lo,n,0))
   pure (ForInStep.yield (none,lo+n))
 |_=>do
  modify λt=>setPending t ((pendingOf t).push (lo,n,0))
  pure (ForInStep.yield (none,lo+n))
section
variable{prog:Program}{w:World}{A:Around}{E:VP}{s:Shared}[Cmp prog w A s]{a₀:Array Keyed}
theorem Std.push{st:SortSt}{lo n:Nat}(S:Std a₀ st lo)(h0:0<n)(hn:lo+n<=a₀.size)(so:SOn (arrOf st) lo (lo+n)):
  Std a₀ (setPending st ((pendingOf st).push (lo,n,0))) (lo+n):=by
 refine⟨S.kind,S.failed,S.perm,?_,hn⟩;show Tl (arrOf st) 0 ((pendingOf st).push (lo,n,0)).toList (lo+n);rw[Wb];exact S.tl.glue ⟨rfl,h0,so,rfl⟩
noncomputable def QpD(a₀:Array Keyed)(v:Nat):ForInStep (Option Unit×Nat)->SortSt->Prop
 |.done _,_=>False|.yield c,st'=>c=(none,v)/\Std a₀ st' v
theorem QhW{st:SortSt}{z lo n:Nat}(k0:∀x∈a₀,KI x)(S:Std a₀ st lo)(h0:0<n)(hn:lo+n<=a₀.size)(so:SOn (arrOf st) lo (lo+n)):
  wpS (model prog w) A E s (Qeh z lo n) (QpD a₀ (lo+n)) st:=by
 unfold Qeh;refine Uo (Bt ?_);cases hb:(pendingOf st).back? with
 |none=>exact Uo (Bu (Uv ⟨rfl,S.push h0 hn so⟩))|some x=>
  obtain⟨u,m,pw⟩:=x;dsimp only;refine Uo (T5 (Tf (I:=λ_ c st'=>c=(none,())/\Std a₀ st' lo/\SOn (arrOf st') lo (lo+n)) (Q:=λc st'=>c=(none,())/\Std a₀ st' lo/\SOn (arrOf st') lo (lo+n))
   ?step (λ_ _ h=>h) ⟨rfl,S,so⟩) ?post)
  case post =>rintro c st' ⟨rfl,S',so'⟩;dsimp only;refine Uo (Bu (Uo (Bu (Uv ⟨rfl,Std.push (st:=setPending st' _) ⟨S'.kind,S'.failed,S'.perm,?_,S'.le⟩ h0 hn so'⟩))));show Tl (arrOf st') 0 ((pendingOf st').modify _ _).toList lo;rw[Array.toList_modify];exact Tl.pow (λx=>(x.fst,x.snd.fst,power' z (2*u+m) (2*u+m+m+n) z)) (λ_=>⟨rfl,rfl⟩) S'.tl
  case step=>
   rintro x c st' _ _ ⟨rfl,S',so'⟩;refine Uo (Bt ?_);by_cases h1:(pendingOf st').size>1
   ·rw[Ue h1];cases hg:(pendingOf st')[(pendingOf st').size-2]? with
    |none=>exact Uv ⟨rfl,S',so'⟩|some y=>
     obtain⟨y1,y2,o⟩:=y;dsimp only;split
     ·exact Uv ⟨rfl,S',so'⟩
     ·refine Uo (QhV k0 S' (by omega) λst2 S2 _ ho=>?_);rw[Uf (by decide)];refine Uv ⟨rfl,S2,λi j q1 q2 q3=>?_⟩;rw[ho i q1,ho j (by omega)];exact so' i j q1 q2 q3
   ·rw[Uf h1];exact Uv ⟨rfl,S',so'⟩
theorem wp_runs{st:SortSt}{Q:Unit->SortSt->Prop}(k0:∀x∈a₀,KI x)(S:Std a₀ st 0)(h:∀st',(arrOf st').Perm a₀->failedOf st'=none->JE (arrOf st') a₀.size->Q () st'):wpS (model prog w) A E s sortRuns' Q st:=by
 rw[sortRuns'_eq];refine Uo (Bt ?_);dsimp only;generalize minRun' (arrOf st).size (arrOf st).size 0=mr;have hz:=S.size;generalize hzz:(arrOf st).size=z at hz;have hz2:=hz;clear hzz;refine Uo (T5 (Tf (I:=λx c st'=>∃lo,c=(none,lo)/\Std a₀ st' lo/\(x<=lo\/lo=z))
  (Q:=λc st'=>c=(none,z)/\Std a₀ st' z) ?step ?fin ⟨0,rfl,S,.inl (Ug _)⟩) ?post)
 case fin=>
  rintro c st' ⟨lo,rfl,S',hx⟩;have:=S'.le;have e:lo=z:=by omega
  subst e;exact⟨rfl,S'⟩
 case step=>
  rintro x c st' _ hx ⟨lo,rfl,S',hlo⟩;dsimp only;have hle:=S'.le;by_cases hge:lo>=z
  ·refine Qp hge ?_;have e:lo=z:=by omega
   subst e;exact Uv ⟨rfl,S'⟩
  refine Qq hge ?_;have hs:=S'.size;refine Uo (QpC S'.kind (S'.ki k0) (by omega) (by omega) λm st2 C2 m1 m2 so2=>?_);have S2:Std a₀ st2 lo:=⟨C2.kind.trans S'.kind,C2.failed.trans S'.failed,C2.perm.trans S'.perm,by rw[C2.pend];exact S'.tl.same λk _ h2=>C2.out k (.inl h2),hle⟩;dsimp only;have fin:∀{n:Nat}{st3:SortSt}(q:StateT SortSt Sem (ForInStep (Option Unit×Nat))),q=Qeh z lo n->0<n->lo+n<=a₀.size->Std a₀ st3 lo->SOn (arrOf st3) lo (lo+n)->
    wpS (model prog w) A E s q (λr st'=>match r with
     |.done c=>c=(none,z)/\Std a₀ st' z|.yield c=>∃lo,c=(none,lo)/\Std a₀ st' lo/\(x+1<=lo\/lo=z)) st3:=by
   rintro n st3 _ rfl n0 hn S3 so3;refine T5 (QhW k0 S3 n0 hn so3) λr st4 hr=>?_;cases r with
   |done c=>exact hr.elim|yield c=>exact⟨lo+n,hr.1,hr.2,by omega⟩
  by_cases hm:m<mr
  ·refine Qp hm ?_;refine Uo (BU (TD ⟨rfl,?_⟩));have hz3:=S2.size;refine Uo (QpA S2.kind (S2.ki k0) (n:=min (z-lo) mr) (by omega) (by omega) so2 λst3 C3 so3=>?_);rw[Uf (by decide)];have S3:Std a₀ st3 lo:=⟨C3.kind.trans S2.kind,C3.failed.trans S2.failed,C3.perm.trans S2.perm,by rw[C3.pend];exact S2.tl.same λk _ h2=>C3.out k (.inl h2),hle⟩;refine T5 (fin (n:=min (z-lo) mr) _ ?_ (by omega) (by omega) S3 so3) λr _ h=>by cases r<;>exact h
   unfold Qeh;congr 1;funext t;cases (pendingOf t).back? with
   |none=>rfl|some x =>obtain⟨u,m,pw⟩:=x;dsimp only;congr 1;funext c;obtain⟨r,u'⟩:=c;cases r<;>rfl
  ·refine Qq hm ?_;refine T5 (fin (n:=m) _ ?_ (by omega) (by omega) S2 so2) λr _ h=>by cases r<;>exact h
   unfold Qeh;congr 1;funext t;cases (pendingOf t).back? with
   |none=>rfl|some x =>obtain⟨u,m,pw⟩:=x;dsimp only;congr 1;funext c;obtain⟨r,u'⟩:=c;cases r<;>rfl
 case post=>
  rintro c st' ⟨rfl,S'⟩;dsimp only;refine Uo (T5 (Tf (I:=λx c st'=>c=(none,())/\Std a₀ st' z/\((pendingOf st').size<=1\/(pendingOf st').size+x<=z))
   (Q:=λc st'=>c=(none,())/\Std a₀ st' z/\(pendingOf st').size<=1) ?s1 ?f1 ⟨rfl,S',.inr ?i1⟩) ?p1)
  case i1 =>have:=S'.tl.le;rw[Ur]at this;omega
  case f1 =>rintro c st2 ⟨rfl,S2,hp⟩;exact⟨rfl,S2,by omega⟩
  case p1=>
   rintro c st2 ⟨rfl,S2,hp⟩;dsimp only;refine Uv (h st2 (TV.mpr S2.perm) S2.failed ?_);intro i j hij hj;have T:=S2.tl;rw[<-Ur]at hp;cases hl:(pendingOf st2).toList with
   |nil =>rw[hl]at T;have:0=z:=T;omega|cons x r=>
    rw[hl]at T hp;have hr:r=[]:=by
     cases r with
     |nil=>rfl|cons _ _=>simp at hp
    subst hr;have e:0+x.2.1=z:=T.2.2.2;exact T.2.2.1 i j (TC _) hij (by omega)
  case s1=>
   rintro x c st2 _ hx ⟨rfl,S2,hp⟩;refine Uo (Bt ?_);by_cases h1:(pendingOf st2).size<=1
   ·rw[Ue h1];exact Uv ⟨rfl,S2,h1⟩
   rw[Uf h1];have go:∀i,i+1<(pendingOf st2).size->wpS (model prog w) A E s (do
     let y <-mergeAt' i
     if (!y)=true then pure (ForInStep.done (some (),())) else pure (ForInStep.yield (none,())))
     (λr st'=>match r with
      |.done c=>c=(none,())/\Std a₀ st' z/\(pendingOf st').size<=1|.yield c=>c=((none,()):Option Unit×Unit)/\Std a₀ st' z/\((pendingOf st').size<=1\/(pendingOf st').size+(x+1)<=z)) st2:=λi hi=>
    Uo (QhV k0 S2 hi λst3 S3 hs _=>by rw[Uf (by decide)];exact Uv ⟨rfl,S3,by omega⟩)
   by_cases hc:Option.any (λq=>decide (q<(pendingOf st2)[(pendingOf st2).size-2+1]?.elim 0 λx=>x.2.1)) (if (pendingOf st2).size-2>0 then (pendingOf st2)[(pendingOf st2).size-2-1]?.map (λx=>x.2.1) else none)=true
   ·rw[Ue hc];exact T5 (go _ (by omega)) λr _ h=>by cases r<;>exact h
   ·rw[Uf hc];exact T5 (go _ (by omega)) λr _ h=>by cases r<;>exact h
end
end SO
namespace NK
open PySem PyProof.Rows
structure VK(prog:Program)(w:World)(K:Type)[DecidableEq K] where
 is:Heap->K->Value->Prop
 hash:K->Int
 draws:K->Nat
 dep:Nat
 inj:∀{h:Heap}{v:Value}{x y:K},is h x v->is h y v->x=y
 keeps:∀{h h':Heap}{k:K}{v:Value},is h k v->(∀b o i n,h.get? b=some o->o.data=.seq i n->h'.get? b=some o)->is h' k v
 pyHash:∀{A:Around}{E:VP}{s:Shared}{k:K}{v:Value}{Q:Int->Shared->Prop},A.units+dep<cLine->is s.heap k v->Q (hash k) {s with toks:=s.toks+draws k}->wpAny (model prog w) A (PySem.pyHash v) Q E s
 eqBool:∀{A:Around}{E:VP}{s:Shared}{x y:K}{u v:Value}{Q:Bool->Shared->Prop},A.units+dep<cLine->is s.heap x u->is s.heap y v->Q (decide (x=y)) s->wpAny (model prog w) A (PySem.eqBool u v) Q E s
 quiet:∀{A:Around}{E:VP}{s:Shared}{k:K}{v:Value}{Q:Bool->Shared->Prop}(n:Nat),dep<=n->is s.heap k v->Q true s->wpAny (model prog w) A (eqIsQuiet n v) Q E s
section
variable{prog:Program}{w:World}{A:Around}{E:VP}{s:Shared}
def intV(prog:Program)(w:World):VK prog w Int where
 is:=λ_ k v=>Value.isInt k v=true
 hash:=hashInt
 draws:=λ_=>1
 dep:=0
 inj:=λhx hy=>(intKind prog w).inj _ _ _ hx hy
 keeps:=λh _=>h
 pyHash:=λ_ hv h=>(intKind prog w).pyHash hv h
 eqBool:=λ_ hu hv h=>(intKind prog w).eqBool hu hv h
 quiet:=λn _ hv h=>by rw[eqIsQuiet_byValue n ((intKind prog w).byValue _ _ hv)];exact Ub h
def Tp(h:Heap)(a:Addr)(us:List Value):Prop:=∃o items n,h.get? a=some o/\o.cls=.type "tuple"/\o.data=.seq items n/\items.toList=us
theorem Tp.typeIs(x:Tp s.heap a us):s.TypeIs (.ref a) "tuple":=let ⟨o,_,_,ho,hc,_⟩:=x;⟨o,ho,hc⟩
theorem Tp.inj(x:Tp h a us)(y:Tp h a vs):us=vs:=by obtain⟨o,i,n,ho,_,hd,rfl⟩:=x;obtain⟨o',i',n',ho',_,hd',rfl⟩:=y;obtain rfl:o=o':=Option.some.inj (ho.symm.trans ho');rw[hd]at hd';injection hd' with h1 _;rw[h1]
theorem Tp.keeps(x:Tp h a us)(k:∀b o i n,h.get? b=some o->o.data=.seq i n->h'.get? b=some o):Tp h' a us:=
 let ⟨o,i,n,ho,hc,hd,e⟩:=x;⟨o,i,n,k a o i n ho hd,hc,hd,e⟩
def Qla(prog:Program)(w:World)(dep:Nat)(h:Heap)(p:Int×Nat)(v:Value):Prop:=∀{A:Around}{E:VP}{s:Shared}{Q:Int->Shared->Prop},s.heap=h->A.units+dep<cLine->Q p.1 {s with toks:=s.toks+p.2}->wpAny (model prog w) A (PySem.pyHash v) Q E s
inductive Al{α β:Type}(R:α->β->Prop):List α->List β->Prop
 |nil:Al R [] []
 |cons {a:α} {b:β} {as:List α} {bs:List β}:R a b->Al R as bs->Al R (a::as) (b::bs)
theorem Al.len(h:Al R as bs):as.length=bs.length:=by
 induction h with
 |nil=>rfl|cons _ _ ih=>simp[ih]
def sumN(ps:List (Int×Nat)):Nat:=(ps.map (·.2)).sum
theorem QfT{dep:Nat}{a:Addr}{us:List Value}{ps:List (Int×Nat)}{Q:Int->Shared->Prop}(hu:A.units+(dep+1)<cLine)(ht:Tp s.heap a us)(hi:Al (Qla prog w dep s.heap) ps us)(h:Q (reduceHash (Builtin.Tuple.tupleHashOf (ps.map (·.1)))) {s with toks:=s.toks+(sumN ps+1)}):wpAny (model prog w) A (PySem.pyHash (.ref a)) Q E s:=by
 have hT:=ht.typeIs;obtain⟨o,items,n,ho,_,hd,rfl⟩:=ht;unfold PySem.pyHash;first|unfold pyHashByItsType|skip
 first|refine Ua (wpAny_cRoomFor_or (.inr (by omega)) ?_)|skip
 refine Ua (B2 hT WG.lookup ?_);show wpAny _ _ (if (some (Value.builtin "tuple.__hash__")==some Value.none)=true then _ else _) Q E s;rw[Uf (by rw[beq_builtin_none];exact Ui)];refine Ua (B2 hT WG.lookup ?_);show wpAny _ _ (callSpecialIfBoundUnlessNone? (.ref a) "__hash__" _ >>= _) Q E s;refine Ua (wpAny_callSpecialIfBoundUnlessNone?_slot hT WG (UQ WG hT F.entry_tuple_hash ?_ (F.args_tuple_hash_1 _)));show wpAny _ _ (Builtin.Tuple.tupleItemsOf (.ref a) >>= _) _ _ s;refine Ua (Rz ho hd ?_);refine Ua ?_;rw[<-Array.forIn_toList];refine Wn _
  (λrest (b:Array Int) s'=>∃done left,ps=done++left/\Al (Qla prog w dep s.heap) left rest/\b.toList=done.map (·.1)/\s' = {s with toks:=s.toks+sumN done})
  _ ?_ ?_ _ _ ⟨[],ps,rfl,hi,rfl,rfl⟩
 ·rintro x rest b s' ⟨done,left,rfl,hl,hb,rfl⟩;cases hl with
  |@cons p _ ps' _ h1 hl'=>
   refine Ua (h1 rfl (by show A.units+1+dep<cLine;omega) ?_);first
    |exact Ub ⟨done++[p],ps',by simp,hl',by simp[hb],by simp[sumN,Wa]⟩
    |exact Ua (Ub (Ub ⟨done++[p],ps',by simp,hl',by simp[hb],by simp[sumN,Wa]⟩))
 ·rintro b s' ⟨done,left,rfl,hl,hb,rfl⟩;cases hl;rw[UY]at h;show wpAny _ _ (retInt (Builtin.Tuple.tupleHashOf b.toList)) _ _ _;rw[hb];refine wpAny_ret_mkInt ?_;show wpAny _ _ (if (decide (-(2:Int) ^ 63<=Builtin.Tuple.tupleHashOf (done.map (·.1)))&&decide (Builtin.Tuple.tupleHashOf (done.map (·.1))<2^63))=true then _ else _) Q E _;unfold reduceHash at h;by_cases hr:(decide (-(2:Int) ^ 63<=Builtin.Tuple.tupleHashOf (done.map (·.1)))&&decide (Builtin.Tuple.tupleHashOf (done.map (·.1))<2^63))=true
  ·rw[Ue hr];rw[Ue hr]at h;exact Ub (by simpa[Wa]using h)
  ·rw[Uf hr];rw[Uf hr]at h;exact Ua (TD (Ub (by simpa[Wa]using h)))
def EqAt(prog:Program)(w:World)(dep:Nat)(h:Heap)(b:Bool)(p:Value×Value):Prop:=∀{A:Around}{E:VP}{s:Shared}{Q:Bool->Shared->Prop},s.heap=h->A.units+dep<cLine->Q b s->wpAny (model prog w) A (PySem.eqBool p.1 p.2) Q E s
theorem Qlb{dep:Nat}{a c:Addr}{us vs:List Value}{bs:List Bool}{r:Bool}{Q:Bool->Shared->Prop}(hu:A.units+(dep+1)<cLine)(hx:Tp s.heap a us)(hy:Tp s.heap c vs)(hi:Al (EqAt prog w dep s.heap) bs (us.zip vs))(hr:r=(bs.all id&&(us.length==vs.length)))(hs:a=c->r=true)(h:Q r s):wpAny (model prog w) A (PySem.eqBool (.ref a) (.ref c)) Q E s:=by
 unfold PySem.eqBool;try with_reducible refine Tn ?_
 show wpAny _ _ (if (Value.ref a==Value.ref c)=true then _ else _) Q E s;by_cases hab:(Value.ref a==Value.ref c)=true
 ·rw[Ue hab];have e:a=c:=by have:=eq_of_beq hab;injection this
  rw[hs e]at h;exact Ua (TD (Ub (by simpa using h)))
 ·rw[Uf hab];have hTa:=hx.typeIs;have hTb:=hy.typeIs;obtain⟨oa,xs,na,hoa,_,hda,rfl⟩:=hx;obtain⟨ob,ys,nb,hob,_,hdb,rfl⟩:=hy;refine Ua (Bd (op:=.Eq) hTa hTb B4 (UQ B4 hTa F.entry_tuple_eq ?_ (F.args_tuple_eq_2 _ _)) (by omega));show wpAny _ _ (isInstance (.ref c) (.type "tuple") >>= _) _ _ s;refine Ua (Wo hTb WN ?_);simp only[Rv,UL,TQ];refine Ua (Rz hoa hda ?_);refine Ua (Rz hob hdb ?_);refine Ua ?_;have fin:wpAny (model prog w) A.in1 (pure (Fin.done (.ret (.bool r)))) (λfin s'=>∃v,fin=.done (.ret v)/\v≠.notImplemented/\wpAny (model prog w) A (truthy v) Q E s') E s:=Ub ⟨_,rfl,(λe=>nomatch e),To h⟩;refine Wn _
   (λrest q s'=>q.1=none/\s'=s/\∃bs',Al (EqAt prog w dep s.heap) bs' rest/\(bs'.all id&&(xs.toList.length==ys.toList.length))=r)
   _ ?_ ?_ _ _ ⟨rfl,rfl,bs,hi,hr.symm⟩
  ·rintro ⟨u,v⟩ rest q s' ⟨hq,rfl,bs',hb,hdec⟩;cases hb with
   |@cons b1 _ bs'' _ h1 hb'=>
    refine Ua (h1 rfl (by show A.units+1+dep<cLine;omega) ?_);cases b1 with
    |true =>simp only[Rv,UL,TQ];exact Ub ⟨rfl,rfl,bs'',hb',by simpa using hdec⟩|false=>
     simp only[Br,Wk];have hf:r=false:=by rw[<-hdec];simp
     rw[hf]at h;exact Ua (Ub (Ub (Ub ⟨_,rfl,(λe=>nomatch e),To h⟩)))
  ·rintro ⟨r1,r2⟩ s' ⟨hq,rfl,bs',hb,hdec⟩;simp only at hq;subst hq;cases hb;refine Ub ⟨_,rfl,(λe=>nomatch e),To ?_⟩;have:(xs.size==ys.size)=r:=by simpa using hdec
   rw[this];exact h
theorem Qei(n:Nat)(ht:Tp s.heap a us)(hi:∀v∈us,∀{A:Around} {E:VP} {Q:Bool->Shared->Prop},Q true s->wpAny (model prog w) A (eqIsQuiet n v) Q E s)(h:Q true s):wpAny (model prog w) A (eqIsQuiet (n+1) (.ref a)) Q E s:=by
 have hT:=ht.typeIs;obtain⟨o,items,k,ho,_,hd,rfl⟩:=ht;unfold eqIsQuiet;refine Ua (B2 hT B4.lookup ?_);show wpAny _ _ (isInstance (.ref a) (.type "tuple") >>= _) _ _ s;refine Ua (Wo hT WN ?_);simp only[Rv,UL,TQ];refine Ua (Rh ho hd ?_);refine Ua ?_;show wpAny _ _ (forIn items _ _) _ _ s;rw[<-Array.forIn_toList];refine Wn _ (λrest r s'=>r.1=none/\s'=s/\∀v∈rest,v∈items.toList) _ ?_ ?_ _ _ ⟨rfl,rfl,λv hv=>hv⟩
 ·rintro v rest r s' ⟨hr,rfl,hall⟩;refine Ua (hi v (hall v UD) ?_);simp only[Rv,UL,TQ];exact Ub ⟨rfl,rfl,λu hu'=>hall u (Uz _ hu')⟩
 ·rintro ⟨r1,r2⟩ s' ⟨hr,rfl,_⟩;simp only at hr;subst hr;exact Ub h
theorem Al.map(h:Al R as bs)(g:∀a b,R a b->S (f a) b):Al S (as.map f) bs:=by
 induction h with
 |nil=>exact .nil|cons a _ ih=>exact .cons (g _ _ a) ih
theorem Al.imp(h:Al R as bs)(g:∀a b,R a b->S a b):Al S as bs:=by
 induction h with
 |nil=>exact .nil|cons a _ ih=>exact .cons (g _ _ a) ih
theorem Al.mem(h:Al R as bs):∀b∈bs,∃a,R a b:=by
 induction h with
 |nil=>intro b hb;cases hb|cons a _ ih=>intro b hb;rcases UG.mp hb with rfl|z;exact⟨_,a⟩;exact ih b z
variable{K:Type}[DecidableEq K]
theorem Qlc{v:VK prog w K}{h:Heap}{x y:List K}{us:List Value}(hx:Al (v.is h) x us)(hy:Al (v.is h) y us):x=y:=by
 induction hx generalizing y with
 |nil=>cases hy;rfl|cons a _ ih=>cases hy with|cons b t=>rw[v.inj a b,ih t]
theorem QpE{v:VK prog w K}{h:Heap}{x y:List K}{us vs:List Value}(hx:Al (v.is h) x us)(hy:Al (v.is h) y vs):∃bs,Al (EqAt prog w v.dep h) bs (us.zip vs)/\decide (x=y)=(bs.all id&&(us.length==vs.length)):=by
 induction hx generalizing y vs with
 |nil=>cases hy with
  |nil=>exact⟨[],.nil,by simp⟩|cons _ _=>exact⟨[],.nil,by simp⟩
 |@cons k u ks us' a t ih=>cases hy with
  |nil=>exact⟨[],.nil,by simp⟩|@cons k2 u2 ks2 us2 b t2=>
   obtain⟨bs,h1,h2⟩:=ih t2;refine⟨decide (k=k2)::bs,.cons (λ{A E s Q} e hu q=>v.eqBool hu (by rw[e];exact a) (by rw[e];exact b) q) h1,?_⟩;rw[WY,UH,UH];by_cases hk:k=k2
   ·by_cases hks:ks=ks2<;>simp[hk,hks]at h2 ⊢ <;> simpa using h2
   ·simp[hk]
def lstV(v:VK prog w K):VK prog w (List K) where
 is:=λh ks u=>∃a us,u=.ref a/\Tp h a us/\Al (v.is h) ks us
 hash:=λks=>reduceHash (Builtin.Tuple.tupleHashOf (ks.map v.hash))
 draws:=λks=>(ks.map v.draws).sum+1
 dep:=v.dep+1
 inj:=λ{h u x y} hx hy=>by obtain⟨a,us,rfl,t1,i1⟩:=hx;obtain⟨b,vs,e,t2,i2⟩:=hy;injection e with e;subst e;obtain rfl:=t1.inj t2;exact Qlc i1 i2
 keeps:=λ{h h' k u} hx kp=>by obtain⟨a,us,rfl,t1,i1⟩:=hx;exact⟨a,us,rfl,t1.keeps kp,i1.imp λ_ _ q=>v.keeps q kp⟩
 pyHash:=λ{A E s k u Q} hu hx h=>by obtain⟨a,us,rfl,t1,i1⟩:=hx;refine QfT (ps:=k.map λx=>(v.hash x,v.draws x)) hu t1 (i1.map λx y q=>λ{A E s Q} e hu h=>v.pyHash hu (by rw[e];exact q) h) ?_;simpa[sumN,Function.comp_def]using h
 eqBool:=λ{A E s x y u z Q} hu hx hy h=>by obtain⟨a,us,rfl,t1,i1⟩:=hx;obtain⟨b,vs,rfl,t2,i2⟩:=hy;obtain⟨bs,h1,h2⟩:=QpE i1 i2;refine Qlb hu t1 t2 h1 h2 (λe=>?_) h;subst e;obtain rfl:=t1.inj t2;exact Uq (Qlc i1 i2)
 quiet:=λ{A E s k u Q} n hn hx h=>by obtain⟨a,us,rfl,t1,i1⟩:=hx;obtain⟨n,rfl⟩:∃j,n=j+1:=⟨n-1,by omega⟩;exact Qei n t1 (λv' hv' {A E Q} q=>let ⟨_,hq⟩:=i1.mem v' hv';v.quiet n (by omega) hq q) h
variable{K2 K3:Type}[DecidableEq K2][DecidableEq K3]
theorem up(h:dep<=dep')(hu:A.units+dep'<cLine):A.units+dep<cLine:=by omega
def hk(v:VK prog w K)(hd:v.dep<=8):HeapKind prog w K where
 is:=λh k a=>v.is h k (.ref a)
 hash:=v.hash
 draws:=v.draws
 room:=λA=>A.units+v.dep<cLine
 inj:=λhx hy=>v.inj hx hy
 keeps:=λ{h h' k a d o es ep} hx ho hdat hs=>v.keeps hx λb o' i n hb hq=>(hs.2 b (by rintro rfl;obtain rfl:o'=o:=Option.some.inj (hb.symm.trans ho);rw[hdat]at hq;exact nomatch hq)).trans hb
 pyHash:=λhu hx h=>v.pyHash hu hx h
 eqBool:=λhu hx hy h=>v.eqBool hu hx hy h
 quiet:=λhx h=>v.quiet 8 hd hx h
end
end NK
namespace NK
open PySem PyProof.Rows
section
variable{prog:Program}{w:World}{K:Type}[DecidableEq K]{knd:HeapKind prog w K}{A:Around}{E:VP}{s:Shared}
theorem Qog{d a:Addr}{xs:List (K×Addr×Value)}{k:K}{v:Value}{Q:VP}(hu:knd.room A)(hkey:knd.is s.heap k a)(hm:s.heap.DictOfH knd d xs)(hz:xs.length<=sizeLine)(h1:∀p,atKey xs k=some p->Q p.2 {s with toks:=s.toks+knd.draws k})(h2:atKey xs k=none->∀h',h'.DictOfH knd d (xs++[(k,a,v)])->Heap.SameBut d s.heap h'->Q v {s with heap:=h',toks:=s.toks+knd.draws k}):
  wpAny (model prog w) A (dictSetDefault d (.ref a) v) Q E s:=by
 obtain⟨o,es,ep,ho,hc,hd,he,his,hn⟩:=hm;unfold dictSetDefault;try with_reducible refine Tn ?_
 refine Ua (knd.pyHash hu hkey (Ua (wpAny_dictFind_heap (s:={s with toks:=s.toks+knd.draws k}) hu hkey ho hd he his hn ?_ ?_)))
 ·intro hno;have hnot:k∉xs.map (·.1):=not_mem_keys_of_get hno;refine Ua (TD (Ua (wpAny_updateDictKeys (hz:=by have e:=size_of_entries he;omega) (s:={s with toks:=s.toks+knd.draws k}) ho hd (Ub (h2 (atKey_none_of_get hno) _ ⟨_,_,ep+1,RD _ ho (Obj.isFreed_of_dict (Obj.data_mapDictKeys hd _)),hc.mapDictKeys _,Obj.data_mapDictKeys hd _,?_,?_,?_⟩ (TZ ..))))))
  ·simp[he,entryOfKey]
  ·intro x hx;rcases Uu.mp hx with hx|hx
   ·exact knd.keeps (his x hx) ho hd (TZ ..)
   ·rw[Uj.mp hx];exact knd.keeps hkey ho hd (TZ ..)
  ·rw[U4,Rm];refine⟨hn,by simp,λx hx y hy e=>hnot ?_⟩;have hy:y=k:=by simpa using hy
   rw[<-hy,<-e];exact hx
 ·intro j p hj;refine Ua (RK (s:={s with toks:=s.toks+knd.draws k}) ho hd ?_);rw[entry_at he j,hj];exact Ua (TD (Ub (h1 p (atKey_of_get hn hj))))
theorem meetsSetDef(hd:(d==sysModules)=false)(v:Value):
  MeetsIn prog w (Builtin.«dict.setdefault» ⟨[.ref d,.ref a,v],[]⟩) (λA R s=>knd.room A.in1/\∃k xs,knd.is s.heap k a/\s.heap.DictOfH knd d xs/\xs.length<=sizeLine/\(∀p,atKey xs k=some p->R (.ok (.ret p.2)) {s with toks:=s.toks+knd.draws k})/\(atKey xs k=none->∀h',h'.DictOfH knd d (xs++[(k,a,v)])->Heap.SameBut d s.heap h'->R (.ok (.ret v)) {s with heap:=h',toks:=s.toks+knd.draws k})):=
 .of_wp λA R s ⟨hu,k,xs,hkey,hm,hz,h1,h2⟩=>by unfold Builtin.«dict.setdefault»;refine Ua ?_;unfold Builtin.Dict.keyAndDefault;refine Ua (WO hm.typeIs ?_);show wpAny _ _ (pure (d,Value.ref a,some v)) _ _ s;refine Ub ?_;show wpAny _ _ (if (d==sysModules)=true then _ else (dictSetDefault d (.ref a) v >>= _)) _ _ s;rw[Uf (by rw[hd];exact Ui)];exact Ua (Qog hu hkey hm hz (λp hp=>Ub ⟨p.2,rfl,h1 p hp⟩) λhn h' hm' hs'=>Ub ⟨v,rfl,h2 hn h' hm' hs'⟩)
end
end NK
namespace NK
open PySem PyProof.Rows
def DE(h:Heap)(d:Addr)(es:Array DictEntry)(ep:Nat):Prop:=∃o,h.get? d=some o/\o.ExactDict/\o.data=.dict es ep
theorem DE.typeIs{s:Shared}{d:Addr}{es:Array DictEntry}{ep:Nat}(x:DE s.heap d es ep):s.TypeIs (.ref d) "dict":=let ⟨o,ho,hc,_⟩:=x;⟨o,ho,hc.1⟩
section
variable{prog:Program}{w:World}{A:Around}{E:VP}{s:Shared}
def itIs(b:Bool)(h:Heap)(it d:Addr)(i n ep:Nat):Prop:=if b=true then h.IsValIter it d i n ep else h.IsKeyIter it d i n ep
theorem next_item(b:Bool){it d:Addr}{i ep:Nat}{es:Array DictEntry}{Q:Option Value->Shared->Prop}(hit:itIs b s.heap it d i es.size ep)(hm:DE s.heap d es ep)(hi:i<es.size)(hQ:∀h',itIs b h' it d (i+1) es.size ep->Heap.SameBut it s.heap h'->Q (some (if b=true then es[i].val else es[i].key)) {s with heap:=h'}):wpAny (model prog w) A (pyNext (.ref it)) Q E s:=by
 cases b;all_goals
  obtain⟨o,ho,hc,hd⟩:=id hit;obtain⟨od,hod,_,hdd⟩:=hm;have hT:s.TypeIs (.ref it) _:=⟨o,ho,hc⟩;have ow1:Builtin.Dict_items.ownsTuple "dict_keyiterator"=false:=by decide
  have ow2:Builtin.Dict_items.ownsTuple "dict_valueiterator"=false:=by decide
  have upd:∃o',(s.heap.update it (Obj.mapFields (·.setIfInBounds 1 (rawInt ((i:Int)+1))))).get? it=some o'/\o'.cls=_/\o'.data=.fields #[.ref d,.int ((i+1:Nat):Int) 0,.int es.size 0,.int ep 0]:=⟨_,RD _ ho (WP (RA hd _)),(Bx ..).trans hc,by rw[RA hd];simp[rawInt]⟩
  have uT:({s with heap:=s.heap.update it (Obj.mapFields (·.setIfInBounds 1 (rawInt ((i:Int)+1))))}:Shared).TypeIs (.ref it) _:=let ⟨o',a,c,_⟩:=upd;⟨o',a,c⟩;unfold pyNext;first
   |refine Ua (Ru (UT (name:=Str.ofString "__next__") hT TF (UQ TF hT WV ?_ (WR _))))
   |refine Ua (Ru (UT (name:=Str.ofString "__next__") hT Tr (UQ Tr hT WK ?_ (WB _))))
  refine Ua (Ub (Ua (Ua ?_)));first|refine Ua (T9 hT (Ub ?_))|refine Ua (Ra hT (Ub ?_))
  refine Ua (wpAny_fieldsOf ho hd ?_);simp only[ow1,ow2,UL,TQ];show wpAny _ _ (if (Value.ref d==Value.none)=true then _ else _) _ _ s;rw[Uf (show ¬((Value.ref d==Value.none)=true) from Ui)];refine Ua (Ub (Ua (RK hod hdd ?_)));rw[Uf (by simp)];refine Ua (Ub (Ua (W6 hod hdd ?_)));rw[Uf (by simp)];refine Ub ?_;simp only[show ¬((i:Int)<0) from by omega,TQ,Wd,Array.getElem?_eq_getElem hi];refine Ua ?_;first|refine Ua (T9 hT (Ub ?_))|refine Ua (Ra hT (Ub ?_))
  first|refine Ua (wpAny_isOneOf_keyiter hT ?_)|refine Ua (WQ hT ?_)
  show wpAny _ _ (setField (.ref it) 1 (rawInt ((i:Int)+1)) >>= _) _ _ s;refine Ua (RQ ho hd (by simp) (Ua (Tn ?_)));first
   | (refine Ua (WQ uT ?_);refine Ua (WQ uT ?_))
   |refine Ua (wpAny_isOneOf_keyiter uT ?_)
  first|show wpAny _ _ (pure es[i].key) _ _ _|show wpAny _ _ (pure es[i].val) _ _ _
  exact Ub (Ub ⟨_,rfl,Ub (hQ _ upd (TZ ..))⟩)
theorem next_end(b:Bool){it d:Addr}{i ep:Nat}{es:Array DictEntry}{Q:Option Value->Shared->Prop}(hh:A.handled=none)(hit:itIs b s.heap it d i es.size ep)(hm:DE s.heap d es ep)(hi:es.size<=i)(hQ:∀h',Heap.ExtBut it s.heap h'->Q none {s with heap:=h'}):wpAny (model prog w) A (pyNext (.ref it)) Q E s:=by
 cases b;all_goals
  obtain⟨o,ho,hc,hd⟩:=id hit;obtain⟨od,hod,_,hdd⟩:=hm;have hT:s.TypeIs (.ref it) _:=⟨o,ho,hc⟩;have ow1:Builtin.Dict_items.ownsTuple "dict_keyiterator"=false:=by decide
  have ow2:Builtin.Dict_items.ownsTuple "dict_valueiterator"=false:=by decide
  unfold pyNext;first
   |refine Ua (Ru (UT (name:=Str.ofString "__next__") hT TF (UQ TF hT WV ?_ (WR _))))
   |refine Ua (Ru (UT (name:=Str.ofString "__next__") hT Tr (UQ Tr hT WK ?_ (WB _))))
  refine Ua (Ub (Ua (Ua ?_)));first|refine Ua (T9 hT (Ub ?_))|refine Ua (Ra hT (Ub ?_))
  refine Ua (wpAny_fieldsOf ho hd ?_);simp only[ow1,ow2,UL,TQ];show wpAny _ _ (if (Value.ref d==Value.none)=true then _ else _) _ _ s;rw[Uf (show ¬((Value.ref d==Value.none)=true) from Ui)];refine Ua (Ub (Ua (RK hod hdd ?_)));rw[Uf (by simp)];refine Ua (Ub (Ua (W6 hod hdd ?_)));rw[Uf (by simp)];refine Ub ?_;simp only[show ¬((i:Int)<0) from by omega,TQ,Wd,Array.getElem?_eq_none hi];refine Ua ?_;first|refine Ua (T9 hT (Ub ?_))|refine Ua (Ra hT (Ub ?_))
  show wpAny _ _ (setField (.ref it) 0 .none >>= _) _ _ s;refine Ua (RQ ho hd (by simp) ?_);show wpAny _ _ (newExc (.type "StopIteration") [] >>= _) _ _ _;simp only[newExc,newTuple];refine Ua (Ua (UX (Ua (m:=firstArgMember _ _) (W2 (a:=Value.none) (by first|rfl|(simp only[firstArgMember];rfl)) (UX ?_ (by size_fits)))) (by size_fits)));simp only[raiseNew];refine Ua (wpAny_handled ?_);rw[show A.in1.handled=none from hh];refine Ua (Ub (wpAny_throw ?_));refine Ua (Wo (T:="StopIteration") (b:=true) ⟨_,Uy _ rfl,rfl⟩ isSubtype_stop ?_);exact Ub (hQ _ (((TZ ..).extBut.push _).push _))
theorem iterK{d:Addr}{es:Array DictEntry}{ep:Nat}{Q:VP}(hs:(d==sysModules)=false)(hm:DE s.heap d es ep)(hQ:Q (.ref s.heap.objs.size) {s with heap:=s.heap.push {cls:=.type "dict_keyiterator",data:=.fields #[.ref d,.int 0 0,.int es.size 0,.int ep 0]} }):wpAny (model prog w) A (pyIter (.ref d)) Q E s:=by have hT:=hm.typeIs;obtain⟨o,ho,_,hd⟩:=hm;refine wpAny_pyIter_slot hT F.slot_dict_iter (UQ F.slot_dict_iter hT F.entry_dict_iter ?_ (F.args_dict_iter_1 _));unfold Builtin.«dict.__iter__» Builtin.Dict.dictSlotNone;refine Ua (Ua (WO hT ?_));show wpAny _ _ (pure (Value.ref d)) _ _ s;refine Ub ?_;show wpAny _ _ (Builtin.Dict.showsAll d >>= _) _ _ s;unfold Builtin.Dict.showsAll;rw[Uf (by rw[hs];exact Ui)];refine Ua (Ub (Ua (RK ho hd (Ua (W6 ho hd (Ua (UX (Ub ⟨_,rfl, "dict_keyiterator",_,⟨_,Uy _ rfl,rfl⟩,TF.lookup,?_⟩))))))));simpa[rawInt]using hQ
theorem valuesK{d:Addr}(hs:(d==sysModules)=false):MeetsIn prog w (Builtin.«dict.values» ⟨[.ref d],[]⟩) (λ_ R s=>(∃es ep,DE s.heap d es ep)/\R (.ok (.ret (.ref s.heap.objs.size))) {s with heap:=s.heap.push {cls:=.type "dict_values",data:=.fields #[.ref d]} }):=
 .of_wp λA R s ⟨⟨es,ep,hm⟩,h⟩=>by refine Ua ?_;unfold Builtin.Dict.noArgs;refine Ua (WO hm.typeIs ?_);show wpAny _ _ (pure d) _ _ s;refine Ub ?_;show wpAny _ _ (Builtin.Dict.showsAll d >>= _) _ _ s;unfold Builtin.Dict.showsAll;rw[Uf (by rw[hs];exact Ui)];exact Ua (Ub (Ua (UX (Ub ⟨_,rfl,h⟩))))
theorem iterV{v d:Addr}{es:Array DictEntry}{ep:Nat}{Q:VP}(hv:s.heap.IsValuesView v d)(hm:DE s.heap d es ep)(hQ:Q (.ref s.heap.objs.size) {s with heap:=s.heap.push {cls:=.type "dict_valueiterator",data:=.fields #[.ref d,.int 0 0,.int es.size 0,.int ep 0]} }):wpAny (model prog w) A (pyIter (.ref v)) Q E s:=by
 obtain⟨ov,hov,_,hdv⟩:=id hv;obtain⟨o,ho,_,hd⟩:=hm;have own:Builtin.Dict_items.ownsTuple "dict_valueiterator"=false:=by decide
 refine wpAny_pyIter_slot hv.typeIs F.slot_dict_values_iter (UQ F.slot_dict_values_iter hv.typeIs F.entry_dict_values_iter ?_ (F.args_dict_values_iter_1 _));unfold Builtin.«dict_values.__iter__» Builtin.Dict_items.dictOf Builtin.Dict_items.newIterator;refine Ua (Ub (Ua (Ua (U0 hov hdv (x:=.ref d) rfl (Ub (Ua (Ua (RK ho hd (Ua (W6 ho hd ?_))))))))));simp only[own,UL,TQ];refine UX (Ub ⟨_,rfl, "dict_valueiterator",_,⟨_,Uy _ rfl,rfl⟩,Tr.lookup,?_⟩);simpa[rawInt]using hQ
end
end NK
namespace NK
open PySem PyProof.Rows
section
variable{prog:Program}{w:World}{A:Around}{E:VP}{s:Shared}
def QgQ(prog:Program)(w:World)(dep:Nat)(h:Heap)(o:Option Bool)(p:Value×Value):Prop:=∀{A:Around}{E:VP}{s:Shared},s.heap=h->A.units+dep<cLine->(∀{Q:Bool->Shared->Prop},Q o.isNone s->wpAny (model prog w) A (PySem.eqBool p.1 p.2) Q E s)/\∀r,o=some r->∀{Q:VP},Q (.bool r) s->wpAny (model prog w) A (PySem.richCompare .Lt p.1 p.2) Q E s
def lexO(z:Bool):List (Option Bool)->Bool
 |[]=>z|none::r=>lexO z r|some b::_=>b
theorem Qld{dep:Nat}{a c:Addr}{us vs:List Value}{os:List (Option Bool)}{Q:VP}(hu:A.units+(dep+1)<cLine)(hx:Tp s.heap a us)(hy:Tp s.heap c vs)(hi:Al (QgQ prog w dep s.heap) os (us.zip vs))(h:Q (.bool (lexO (decide (us.length<vs.length)) os)) s):wpAny (model prog w) A (PySem.richCompare .Lt (.ref a) (.ref c)) Q E s:=by
 have hTa:=hx.typeIs;have hTb:=hy.typeIs;obtain⟨oa,xs,na,hoa,_,hda,rfl⟩:=hx;obtain⟨ob,ys,nb,hob,_,hdb,rfl⟩:=hy;refine Bd (op:=.Lt) hTa hTb F.slot_tuple_lt (UQ F.slot_tuple_lt hTa F.entry_tuple_lt ?_ (F.args_tuple_lt_2 _ _)) (by omega);show wpAny _ _ (isInstance (.ref c) (.type "tuple") >>= _) _ _ s;refine Ua (Wo hTb WN ?_);simp only[Rv,UL,TQ];refine Ua (Rz hoa hda ?_);refine Ua (Rz hob hdb ?_);refine Ua ?_;refine Wn _
  (λrest q s'=>q.1=none/\s'=s/\∃os',Al (QgQ prog w dep s.heap) os' rest/\lexO (decide (xs.toList.length<ys.toList.length)) os'=lexO (decide (xs.toList.length<ys.toList.length)) os)
  _ ?_ ?_ _ _ ⟨rfl,rfl,os,hi,rfl⟩
 ·rintro ⟨u,v⟩ rest q s' ⟨hq,rfl,os',hb,hdec⟩;cases hb with
  |@cons o1 _ os'' _ h1 hb'=>
   obtain⟨he,hl⟩:=h1 (A:=A.in1) (E:=E) (s:=s') rfl (by show A.units+1+dep<cLine;omega);refine Ua (he ?_);cases o1 with
   |none =>simp only[Option.isNone_none,Rv,UL,TQ];exact Ub ⟨rfl,rfl,os'',hb',hdec⟩|some r =>simp only[Option.isNone_some,Br,Wk];have hf:lexO (decide (xs.toList.length<ys.toList.length)) os=r:=hdec.symm;rw[hf]at h;refine Ua (TD ?_);refine Ua (hl r rfl ?_);exact Ua (Ub (Ub (Ub ⟨_,rfl,(λe=>nomatch e),h⟩)))
 ·rintro ⟨r1,r2⟩ s' ⟨hq,rfl,os',hb,hdec⟩;simp only at hq;subst hq;cases hb;refine Ub ⟨_,rfl,(λe=>nomatch e),?_⟩;have e:lexO (decide (xs.toList.length<ys.toList.length)) os=decide (xs.size<ys.size):=by rw[<-hdec];simp[lexO]
  rw[e]at h;exact h
end
end NK
namespace NK
open PySem PyProof.Rows
abbrev tuples'(b:Bool):SortKind:=(sortPriv% PySem.Builtin.KeyKind.tuples) b
theorem Qdi(b:Bool)(x y:Value):keyLt' (tuples' b) x y=(do
  let xs <-Builtin.List.listItems x;let ys <-Builtin.List.listItems y
  for ((p,q),i) in (xs.toList.zip ys.toList).zipIdx do
   if !(<-eqBool p q) then return <-oneLt' (b&&i==0) p q
  return xs.size<ys.size):=rfl
section
variable{prog:Program}{w:World}{A:Around}{E:VP}{s:Shared}
theorem Qe4(hl:∀{Q:VP},Q (.bool r) s->wpAny (model prog w) A (PySem.richCompare .Lt u v) Q E s)(h:Q r s):wpAny (model prog w) A (oneLt' false u v) Q E s:=by rw[oneLt'_eq];simp only[UL,TQ];exact Ua (hl (To h))
theorem Qej{dep:Nat}{a c:Addr}{us vs:List Value}{os:List (Option Bool)}{b:Bool}{Q:Bool->Shared->Prop}(hu:A.units+dep<cLine)(hx:Tp s.heap a us)(hy:Tp s.heap c vs)(hi:Al (QgQ prog w dep s.heap) os (us.zip vs))(hb:b=true->∀u v r,(us.zip vs).head?=some (u,v)->os.head?=some (some r)->∀{Q:Bool->Shared->Prop},Q r s->wpAny (model prog w) A (oneLt' true u v) Q E s)(h:Q (lexO (decide (us.length<vs.length)) os) s):wpAny (model prog w) A (keyLt' (tuples' b) (.ref a) (.ref c)) Q E s:=by
 obtain⟨oa,xs,na,hoa,_,hda,rfl⟩:=hx;obtain⟨ob,ys,nb,hob,_,hdb,rfl⟩:=hy;rw[Qdi];refine Ua (listItems_at hoa hda ?_);refine Ua (listItems_at hob hdb ?_);refine Ua ?_;refine Wn _
  (λrest q s'=>q.1=none/\s'=s/\∃(j:Nat)(L:List (Value×Value))(os':List (Option Bool)),rest=L.zipIdx j/\Al (QgQ prog w dep s.heap) os' L/\lexO (decide (xs.toList.length<ys.toList.length)) os'=lexO (decide (xs.toList.length<ys.toList.length)) os/\(j=0->L=xs.toList.zip ys.toList/\os'=os))
  _ ?_ ?_ _ _ ⟨rfl,rfl,0,_,os,rfl,hi,rfl,λ_=>⟨rfl,rfl⟩⟩
 ·rintro ⟨⟨u,v⟩,i⟩ rest q s' ⟨hq,rfl,j,L,os',hL,hal,hdec,hj⟩;cases hal with
  |nil=>cases hL|@cons o1 p os'' L' h1 hb'=>
   rw[WU]at hL;injection hL with e1 e2;injection e1 with e3 e4;subst e3 e4 e2;obtain⟨he,hl⟩:=h1 (A:=A) (E:=E) (s:=s') rfl hu;refine Ua (he ?_);cases o1 with
   |none =>simp only[Option.isNone_none,Rv,UL,TQ];exact Ub ⟨rfl,rfl,i+1,L',os'',rfl,hb',hdec,λz=>absurd z (Nat.succ_ne_zero _)⟩|some r=>
    simp only[Option.isNone_some,Br,Wk];have hf:lexO (decide (xs.toList.length<ys.toList.length)) os=r:=hdec.symm;rw[hf]at h;have key:wpAny (model prog w) A (oneLt' (b&&i==0) u v) (λr' s2=>r'=r/\s2=s') E s':=by
     cases hbz:(b&&i==0) with
     |false=>exact Qe4 (hl r rfl) ⟨rfl,rfl⟩|true =>rw[UN]at hbz;obtain⟨q1,q2⟩:=hj (by simpa using hbz.2);exact hb hbz.1 u v r (by rw[<-q1];rfl) (by rw[<-q2];rfl) ⟨rfl,rfl⟩
    refine Ua (Tg key (λr' s2 z=>?_) λ_ _ e=>e);obtain⟨rfl,rfl⟩:=z;exact Ub (Ub h)
 ·rintro ⟨r1,r2⟩ s' ⟨hq,rfl,j,L,os',hL,hal,hdec,hj⟩;simp only at hq;subst hq;cases hal with
  |cons _ _=>rw[WU]at hL;cases hL|nil=>
   have e:lexO (decide (xs.toList.length<ys.toList.length)) os=decide (xs.size<ys.size):=by rw[<-hdec];simp[lexO]
   rw[e]at h;exact Ub h
end
end NK
namespace NZ
open PySem PyProof.Rows
def kr(rk:Value->Int)(xs:Array Keyed)(i:Nat):Int:=match xs[i]? with
 |some p=>rk p.1|none=>0
def Up(rk:Value->Int)(xs:Array Keyed)(k:Nat):Prop:=∀i j,i<=j->j<k->kr rk xs i<=kr rk xs j
structure Ord(prog:Program)(w:World)(A:Around)(s:Shared)(kd:SortKind)(rk:Value->Int)(a₀:Array Keyed):Prop where
 lt:∀p q,p∈a₀.toList->q∈a₀.toList->∀{E:VP}{Q:Bool->Shared->Prop},Q (decide (rk p.1<rk q.1)) s->wpAny (model prog w) A (keyLt' kd p.1 q.1) Q E s
 ne:(a₀.toList.map λp=>rk p.1).Nodup
theorem runs{prog:Program}{w:World}{A:Around}{E:VP}{s:Shared}{kd:SortKind}{a₀:Array Keyed}{rk:Value->Int}{Q:Unit->SortSt->Prop}(O:Ord prog w A s kd rk a₀)(h:∀st',(arrOf st').Perm a₀->failedOf st'=none->Up rk (arrOf st') a₀.size->Q () st'):wpS (model prog w) A E s sortRuns' Q (SortSt.mk' kd a₀ #[] 7 none):=letI:SO.Rk:=⟨rk,λx=>x∈a₀.toList,kd⟩
 letI:SO.Cmp prog w A s:=⟨λx y hx hy=>O.lt x y hx hy⟩
 SO.wp_runs (a₀:=a₀) (λx hx=>Tq.mpr hx) ⟨rfl,rfl,List.Perm.refl _,rfl,TC _⟩ h
end NZ
namespace NZ
open PySem PyProof.Rows
section
variable{M:Model}{A:Around}{E:VP}{s:Shared}
theorem Qe5   : ∀(l:List α),(∀x∈l,∀{Q:β->Shared->Prop},Q (g x) s->wpAny M A (f x) Q E s)->∀{Q:List β->Shared->Prop},Q (l.map g) s->wpAny M A (l.mapM f) Q E s
 |[],_,Q,h=>by rw[List.mapM_nil];exact Ub h
 |x::l,hf,Q,h=>by rw[List.mapM_cons];exact Ua (hf x (UD ..) (Ua (Qe5 l (λy hy=>hf y (Uz _ hy)) (Ub h))))
end
section
variable{prog:Program}{w:World}{A:Around}{E:VP}{s:Shared}
theorem Qbh(v:Value):firstOfTuple' v=(do
  if (<-typeOf v) != .type "tuple" then return none
  return (<-Builtin.List.listItems v)[0]?):=rfl
theorem kind_tup{vs:List Value}{fst:Value->Value}{T:String}{Q:SortKind->Shared->Prop}(hv:vs≠[])(h1:∀v∈vs,∃a us,v=.ref a/\NK.Tp s.heap a us/\us.head?=some (fst v))(h2:∀v∈vs,s.TypeIs (fst v) T)(h:Q (tuples' (Value.type T != .type "tuple")) s):wpAny (model prog w) A (keyKind' vs.toArray) Q E s:=by
 rw[keyKind'_eq,List.mapM_toArray];refine Ua (wpAny_map (Qe5 (g:=λv=>some (fst v)) vs (λv hv Q hQ=>?_) ?_))
 ·obtain⟨a,us,rfl,ht,hu⟩:=h1 v hv;rw[Qbh];refine Ua (WI ht.typeIs ?_);rw[Uf (by simp)];obtain⟨o,items,n,ho,_,hd,rfl⟩:=ht;refine Ua (listItems_at ho hd (Ub ?_));have:items[0]?=some (fst (.ref a)):=by rw[<-Tj,<-List.head?_eq_getElem?];exact hu
  rw[this];exact hQ
 ·rw[Ue (by simp)];refine Ua (TD ?_);have e:(vs.map λv=>some (fst v)).toArray.filterMap id=(vs.map fst).toArray:=by
   rw[List.filterMap_toArray];congr 1;induction vs with
   |nil=>rfl|cons v r ih=>simp
  rw[e,oneTypeOnly'_eq,List.mapM_toArray];refine Ua (Ua (wpAny_map (Qe5 (g:=λ_=>Value.type T) _ (λu hu Q hQ=>?_) ?_)))
  ·obtain⟨v,hv,rfl⟩:=US.mp hu;exact WI (h2 v hv) hQ
  ·have h0:(List.map (λ_=>Value.type T) (vs.map fst)).toArray[0]?=some (Value.type T):=by
    cases vs with
    |nil=>exact absurd rfl hv|cons v r=>simp
   rw[h0];dsimp only;rw[Ue (by simp)];exact Ub (Ub (by simpa using h))
theorem sort_tup{kd:SortKind}{rk:Value->Int}{a:Addr}{vs:List Value}{n:Nat}{P:Fin->Shared->Prop}(ho:s.heap.get? a=some (seqObj "list" vs.toArray n))(h64:vs.length<1000)(hO:∀h',(∀b o,b≠a->s.heap.get? b=some o->h'.get? b=some o)->Ord prog w A {s with heap:=h'} kd rk (pairsOf vs))(hK:2<=vs.length->∀h',(∀b o,b≠a->s.heap.get? b=some o->h'.get? b=some o)->∀{Q:SortKind->Shared->Prop},Q kd {s with heap:=h'}->wpAny (model prog w) A (keyKind' vs.toArray) Q E {s with heap:=h'})(h:∀st':SortSt,(arrOf st').Perm (pairsOf vs)->Up rk (arrOf st') (pairsOf vs).size->P (.done (.ret .none)) {s with heap:=sortedHeap s.heap a vs ((arrOf st').map (·.2))}):
  wpAny (model prog w) A (Builtin.«list.sort» ⟨[.ref a],[]⟩) P E s:=by
 rw[list_sort_plain];have ha:a<s.heap.objs.size:=Uw ho;refine Ua (listItems_at ho rfl (Ua (listUpdate_at ho rfl ?_)));obtain⟨e1,ho1⟩:∃e1,(s.heap.update a (Obj.mapSeq λ_=>#[])).get? a=some (seqObj "list" #[] e1):=⟨_,get?_update_seq ho (λ_=>#[])⟩;refine Ua (seqEpoch_at ho1 rfl (Ua (wpAny_newTuple (Ua (wpAny_newList (Tn ?_))))));have keep:∀b o,b≠a->s.heap.get? b=some o->(((s.heap.update a (Obj.mapSeq λ_=>#[])).push (seqObj "tuple" vs.toArray 0)).push (seqObj "list" #[] 0)).get? b=some o:=λb o hb e=>
  Uc _ (Uc _ ((Heap.get?_update_ne _ _ _ _ hb).trans e))
 have ho6:(((s.heap.update a (Obj.mapSeq λ_=>#[])).push (seqObj "tuple" vs.toArray 0)).push (seqObj "list" #[] 0)).get? a=some (seqObj "list" #[] e1):=Uc _ (Uc _ ho1);show wpAny (model prog w) A _ P E {s with heap:=((s.heap.update a (Obj.mapSeq λ_=>#[])).push (seqObj "tuple" vs.toArray 0)).push (seqObj "list" #[] 0)};dsimp only;have hsz:vs.toArray.size=vs.length:=by simp
 by_cases h2:vs.toArray.size<2
 ·rw[Ue h2,Ue h2];refine Ua (Ub ?_);rw[StateT.run_pure];refine Ua (Ub ?_);dsimp only;refine Ua (seqEpoch_at ho6 rfl (Ua (listUpdate_at ho6 rfl ?_ (hsz2:=by rw[Array.size_map];show(pairsOf vs).size<=_;rw[pairsOf_size,TU];omega))));simp only[bne_self_eq_false,UL,TQ];refine Ub (h (SortSt.mk' general' (vs.toArray.zip vs.toArray) #[] 7 none) (Array.Perm.refl _) λi j hij hj=>?_);have:i=j:=by rw[pairsOf_size]at hj;omega
  subst this;exact T4 _
 ·rw[Uf h2,Uf h2];refine Ua (hK (by omega) _ keep ?_);refine Ua (Tg (runs (kd:=kd) (rk:=rk) (a₀:=pairsOf vs)
   (Q:=λ_ st'=>(arrOf st').Perm (pairsOf vs)/\failedOf st'=none/\Up rk (arrOf st') (pairsOf vs).size)
   (hO _ keep) λst' a1 a2 a3=>⟨a1,a2,a3⟩) ?_ λ_ _ e=>e)
  rintro ⟨⟨⟩,st'⟩ s' ⟨rfl,hp,hf,hs⟩;dsimp only;refine Ua (seqEpoch_at ho6 rfl (Ua (listUpdate_at ho6 rfl ?_ (hsz2:=by refine Uk (WH ((Array.size_map ..).trans (hp.size_eq.trans (pairsOf_size _)))) ?_;rw[TU];omega))));rw[hf];simp only[bne_self_eq_false,UL,TQ];exact Ub (h st' hp hs)
end
end NZ
namespace NK
open PySem PySem.W PyProof.Rows
section
variable{prog:Program}{w:World}{A:Around}{E:VP}{s:Shared}
theorem DE.at'(x:DE h d es ep)(k:∀o,h.get? d=some o->h'.get? d=some o):DE h' d es ep:=let ⟨o,ho,r⟩:=x;⟨o,k o ho,r⟩
theorem DE.lt(x:DE h d es ep):d<h.objs.size:=let ⟨_,ho,_⟩:=x;Uw ho
theorem QpF(hh:A.handled=none)(I d:Addr)(hne:d≠I)(es:Array DictEntry)(ep:Nat):Walks prog w A I [I,d] [I] es.size (λi v=>∃h:i<es.size,v=es[i].key) (λi h=>h.IsKeyIter I d i es.size ep/\DE h d es ep) where
 sub:=λb hb=>by simp at hb;simp[hb]
 frame:=λ_ _ _ st hk=>⟨st.1.at λo e=>hk I (by simp) o e,st.2.at' λo e=>hk d (by simp) o e⟩
 item:=λi s Q E hi st hQ=>next_item false st.1 st.2 hi λh' it' hs'=>hQ _ h' s.toks ⟨hi,rfl⟩ ⟨it',st.2.at' λo e=>hs'.extBut d o hne e⟩ λb o hb e=>hs'.extBut b o (λh=>hb (by simp[h])) e
 done:=λs Q E st hQ=>next_end false hh st.1 st.2 (Ug _) λh' he'=>hQ h' s.toks λb o hb e=>he' b o (λh=>hb (by simp[h])) e
 self:=λ_ _ _ _ st hQ=>wpAny_pyIter_keyiter st.1 hQ
theorem srcK(lo:(d==sysModules)=false):KdlSrc prog w "dict" d d es.size (λi v=>∃h:i<es.size,v=es[i].key) (λh=>DE h d es ep) where
 type:=λ_ hm=>hm.typeIs
 there:=λ_ hm=>⟨hm.lt,hm.lt⟩
 keep:=λ_ _ hm hk=>hm.at' λo e=>hk d (.inl rfl) o e
 notList:=by decide
 notTuple:=by decide
 hint:=λ_ _ _ _ hm hq=>kdl_hint_dict hm.typeIs hq
 iter:=λ_ _ hh hm=>⟨_,_,(λ_ _ hq=>iterK lo hm hq),QpF hh _ d (UR hm.lt) es ep,⟨_,Uy _ rfl,rfl,rfl⟩,hm.at' λ_ e=>Uc _ e⟩
theorem QgR{kd:SortKind}{rk:Value->Int}{r:Value}{vs:List Value}{Q:VP}(h64:vs.length<1000)(hc:∀{R:List Value->Shared->Prop},(∀h' tk,(∀b o,s.heap.get? b=some o->h'.get? b=some o)->R vs {s with heap:=h',toks:=tk})->wpAny (model prog w) A.in1 (collect r) R E s)(hO:∀h' tk,(∀b o,s.heap.get? b=some o->h'.get? b=some o)->NZ.Ord prog w A.in1.in1 {s with heap:=h',toks:=tk} kd rk (pairsOf vs))(hK:2<=vs.length->∀h' tk,(∀b o,s.heap.get? b=some o->h'.get? b=some o)->∀{Q:SortKind->Shared->Prop},Q kd {s with heap:=h',toks:=tk}->wpAny (model prog w) A.in1.in1 (keyKind' vs.toArray) Q E {s with heap:=h',toks:=tk})(h:∀(h1 h':Heap) (tk:Nat) (out:Array Keyed) (e:Nat),(∀b o,s.heap.get? b=some o->h1.get? b=some o)->(∀b o,h1.get? b=some o->h'.get? b=some o)->h'.get? h1.objs.size=some (seqObj "list" (out.map (·.2)) e)->out.Perm (pairsOf vs)->NZ.Up rk out (pairsOf vs).size->Q (.ref h1.objs.size) {s with heap:=h',toks:=tk}):
  wpAny (model prog w) A (call (.builtin "sorted") [r]) Q E s:=by
 refine Calls.call_function_entry kind_sorted plain_sorted entry_sorted (args_sorted1 _) ?_;unfold Builtin.«sorted»;refine Ua (m:=checkCount "sorted" 1 1 _) (Ub ?_);refine Ua (hc λh1 tk k1=>?_);refine Ua (wpAny_newList ?_);have hoL:(h1.push (seqObj "list" vs.toArray 0)).get? h1.objs.size=some (seqObj "list" vs.toArray 0):=Uy _ rfl;have k2:∀b o,s.heap.get? b=some o->(h1.push (seqObj "list" vs.toArray 0)).get? b=some o:=λb o e=>Uc _ (k1 b o e);have hne:∀b o,s.heap.get? b=some o->b≠h1.objs.size:=λb o e z=>absurd (Uw (k1 b o e)) (by rw[z];exact Rb _);refine Ua (Tn (UQ slot_list_sort ⟨_,hoL,rfl⟩ entry_list_sort (NZ.sort_tup (kd:=kd) (rk:=rk) hoL h64 (λh' kk=>hO h' tk λb o e=>kk b o (hne b o e) (k2 b o e)) (λh2 h' kk Q hq=>hK h2 h' tk (λb o e=>kk b o (hne b o e) (k2 b o e)) hq) λst' a1 a2=>⟨_,rfl,?_⟩) (args_list_sort _)));obtain⟨e,he⟩:=sortedHeap_at (out:=(arrOf st').map (·.2)) hoL;refine Ub ⟨_,rfl,h h1 _ tk (arrOf st') e k1 (λb o eb=>?_) he a1 a2⟩;have hb:=Uw eb;have hb2:b<(h1.push (seqObj "list" vs.toArray 0)).objs.size:=by rw[size_push'];exact Nat.lt_succ_of_lt hb
 rw[sortedHeap_old (UR hb) hb2];exact Uc _ eb
end
end NK
namespace NK
open PySem PyProof.Rows
section
variable{prog:Program}{w:World}{A:Around}{E:VP}{s:Shared}{K K2 K3 K4:Type}[DecidableEq K][DecidableEq K2][DecidableEq K3][DecidableEq K4]
structure OV(v:VK prog w K) where
 lt:K->K->Bool
 rich:∀{A:Around}{E:VP}{s:Shared}{x y:K}{u u':Value}{Q:VP},A.units+v.dep<cLine->v.is s.heap x u->v.is s.heap y u'->x≠y->Q (.bool (lt x y)) s->wpAny (model prog w) A (PySem.richCompare .Lt u u') Q E s
 irr:∀x,lt x x=false
 tr:∀x y z,lt x y=true->lt y z=true->lt x z=true
 tot:∀x y,x≠y->lt x y=true\/lt y x=true
def OV.cmp{v:VK prog w K}(o:OV v)(x y:K):Option Bool:=if x=y then none else some (o.lt x y)
theorem OV.at'{v:VK prog w K}(o:OV v){dep:Nat}{h:Heap}{x y:K}{u u':Value}(hd:v.dep<=dep)(hx:v.is h x u)(hy:v.is h y u'):QgQ prog w dep h (o.cmp x y) (u,u'):=λ{A E s} e hu=>by
 subst e;unfold OV.cmp;by_cases z:x=y
 ·rw[Ue z];refine⟨λ{Q} hq=>v.eqBool (up hd hu) hx hy ?_,λr hr=>by cases hr⟩;rw[Uq z];exact hq
 ·rw[Uf z];refine⟨λ{Q} hq=>v.eqBool (up hd hu) hx hy ?_,λr hr {Q} hq=>?_⟩
  ·rw[UC z];exact hq
  ·cases hr;exact o.rich (up hd hu) hx hy z hq
def intO:OV (intV prog w) where
 lt:=λx y=>decide (x<y)
 rich:=λ{A E s x y u u' Q} _ hx hy _ h=>by obtain⟨t,rfl⟩:=RJ hx;obtain⟨t',rfl⟩:=RJ hy;exact wpAny_lt_int h
 irr:=λx=>UC (Int.lt_irrefl x)
 tr:=λx y z h1 h2=>Uq (Int.lt_trans (UA h1) (UA h2))
 tot:=λx y h=>by
  rcases Int.lt_or_gt_of_ne h with z|z
  ·exact .inl (Uq z)
  ·exact .inr (Uq z)
def lexL(lt:K->K->Bool):List K->List K->Bool
 |[],[]=>false|[],_::_=>true|_::_,[]=>false|a::x,b::y=>if a=b then lexL lt x y else lt a b
theorem QhX{v:VK prog w K}(o:OV v):∀x y:List K,lexO (decide (x.length<y.length)) (List.zipWith o.cmp x y)=lexL o.lt x y
 |[],[]=>rfl|[],_::_=>by simp[lexO,lexL]
 |_::_,[]=>by simp[lexO,lexL]
 |a::x,b::y=>by
  rw[BS];unfold lexL OV.cmp;by_cases h:a=b
  ·rw[Ue h,Ue h,<-QhX o x y];simp[lexO];rfl
  ·rw[Uf h,Uf h];rfl
theorem QfU:∀x:List K,lexL lt x x=false
 |[]=>rfl|a::x=>by unfold lexL;rw[Ue rfl];exact QfU x
theorem QfV(ht:∀x y,x≠y->lt x y=true\/lt y x=true):∀x y:List K,x≠y->lexL lt x y=true\/lexL lt y x=true
 |[],[],h=>absurd rfl h|[],_::_,_=>.inl rfl|_::_,[],_=>.inr rfl|a::x,b::y,h=>by
  unfold lexL;by_cases e:a=b
  ·subst e;rw[Ue rfl,Ue rfl];exact QfV ht x y λz=>h (by rw[z])
  ·rw[Uf e,Uf (Ne.symm e)];exact ht a b e
theorem QhY(hi:∀x,lt x x=false)(ht:∀x y z,lt x y=true->lt y z=true->lt x z=true):∀x y z:List K,lexL lt x y=true->lexL lt y z=true->lexL lt x z=true
 |[],_,[],h1,h2=>by
  rename_i y;cases y with
  |nil=>cases h1|cons _ _=>cases h2
 |[],_,_::_,_,_=>rfl|_::_,[],_,h1,_=>by cases h1
 |_::_,_::_,[],_,h2=>by cases h2
 |a::x,b::y,c::z,h1,h2=>by
  unfold lexL at h1 h2 ⊢;by_cases e1:a=b
  ·subst e1;rw[Ue rfl]at h1;by_cases e2:a=c
   ·subst e2;rw[Ue rfl]at h2 ⊢;exact QhY hi ht x y z h1 h2
   ·rw[Uf e2]at h2 ⊢;exact h2
  ·rw[Uf e1]at h1;by_cases e2:b=c
   ·subst e2;rw[Uf e1];exact h1
   ·rw[Uf e2]at h2;have h3:=ht a b c h1 h2;by_cases e3:a=c
    ·subst e3;rw[hi]at h3;cases h3
    ·rw[Uf e3];exact h3
theorem QhZ{v:VK prog w K}(o:OV v){h:Heap}:∀{x y:List K}{us vs:List Value},Al (v.is h) x us->Al (v.is h) y vs->Al (QgQ prog w v.dep h) (List.zipWith o.cmp x y) (us.zip vs)
 |[],_,_,_,.nil,_=>by simpa using Al.nil
 |_::_,[],_,_,.cons _ _,.nil=>by simpa using Al.nil
 |_::_,_::_,_,_,.cons a1 a2,.cons b1 b2=>.cons (o.at' (Ug _) a1 b1) (QhZ o a2 b2)
def lstO{v:VK prog w K}(o:OV v):OV (lstV v) where
 lt:=lexL o.lt
 rich:=λ{A E s x y u u' Q} hu hx hy _ h=>by obtain⟨a,us,rfl,t1,i1⟩:=hx;obtain⟨b,vs,rfl,t2,i2⟩:=hy;refine Qld hu t1 t2 (QhZ o i1 i2) ?_;rw[<-i1.len,<-i2.len,QhX];exact h
 irr:=QfU
 tr:=QhY o.irr o.tr
 tot:=QfV o.tot
end
end NK
namespace NK
open PySem PyProof.Rows
section
variable{prog:Program}{w:World}{K K2 K3 K4:Type}[DecidableEq K][DecidableEq K2][DecidableEq K3][DecidableEq K4]
def Qoh(a:VK prog w K)(b:VK prog w K2)(c:VK prog w K3)(d:VK prog w K4):VK prog w (K×K2×K3×K4) where
 is:=λh k u=>∃r x y z t,u=.ref r/\Tp h r [x,y,z,t]/\a.is h k.1 x/\b.is h k.2.1 y/\c.is h k.2.2.1 z/\d.is h k.2.2.2 t
 hash:=λk=>reduceHash (Builtin.Tuple.tupleHashOf [a.hash k.1,b.hash k.2.1,c.hash k.2.2.1,d.hash k.2.2.2])
 draws:=λk=>a.draws k.1+(b.draws k.2.1+(c.draws k.2.2.1+d.draws k.2.2.2))+1
 dep:=max a.dep (max b.dep (max c.dep d.dep))+1
 inj:=λ{h u x y} hx hy=>by obtain⟨r,x1,x2,x3,x4,rfl,t1,i1,i2,i3,i4⟩:=hx;obtain⟨r',y1,y2,y3,y4,e,t2,j1,j2,j3,j4⟩:=hy;injection e with e;subst e;have:=t1.inj t2;injection this with e1 this;injection this with e2 this;injection this with e3 this;injection this with e4 this;subst e1 e2 e3 e4;obtain⟨k1,k2,k3,k4⟩:=x;obtain⟨l1,l2,l3,l4⟩:=y;rw[show k1=l1 from a.inj i1 j1,show k2=l2 from b.inj i2 j2,show k3=l3 from c.inj i3 j3,show k4=l4 from d.inj i4 j4]
 keeps:=λ{h h' k u} hx kp=>by obtain⟨r,x1,x2,x3,x4,rfl,t1,i1,i2,i3,i4⟩:=hx;exact⟨r,x1,x2,x3,x4,rfl,t1.keeps kp,a.keeps i1 kp,b.keeps i2 kp,c.keeps i3 kp,d.keeps i4 kp⟩
 pyHash:=λ{A E s k u Q} hu hx h=>by obtain⟨r,x1,x2,x3,x4,rfl,t1,i1,i2,i3,i4⟩:=hx;refine QfT (ps:=[(a.hash k.1,a.draws k.1),(b.hash k.2.1,b.draws k.2.1),(c.hash k.2.2.1,c.draws k.2.2.1),(d.hash k.2.2.2,d.draws k.2.2.2)]) hu t1 (.cons (λ{A E s Q} e hu h=>a.pyHash (up (by omega) hu) (by rw[e];exact i1) h) (.cons (λ{A E s Q} e hu h=>b.pyHash (up (by omega) hu) (by rw[e];exact i2) h) (.cons (λ{A E s Q} e hu h=>c.pyHash (up (by omega) hu) (by rw[e];exact i3) h) (.cons (λ{A E s Q} e hu h=>d.pyHash (up (by omega) hu) (by rw[e];exact i4) h) .nil)))) ?_;simpa[sumN]using h
 eqBool:=λ{A E s x y u z Q} hu hx hy h=>by
  obtain⟨r,x1,x2,x3,x4,rfl,t1,i1,i2,i3,i4⟩:=hx;obtain⟨r',y1,y2,y3,y4,rfl,t2,j1,j2,j3,j4⟩:=hy;obtain⟨k1,k2,k3,k4⟩:=x;obtain⟨l1,l2,l3,l4⟩:=y;refine Qlb (bs:=[decide (k1=l1),decide (k2=l2),decide (k3=l3),decide (k4=l4)]) hu t1 t2 (.cons (λ{A E s Q} e hu h=>a.eqBool (up (by omega) hu) (by rw[e];exact i1) (by rw[e];exact j1) h) (.cons (λ{A E s Q} e hu h=>b.eqBool (up (by omega) hu) (by rw[e];exact i2) (by rw[e];exact j2) h) (.cons (λ{A E s Q} e hu h=>c.eqBool (up (by omega) hu) (by rw[e];exact i3) (by rw[e];exact j3) h) (.cons (λ{A E s Q} e hu h=>d.eqBool (up (by omega) hu) (by rw[e];exact i4) (by rw[e];exact j4) h) .nil)))) ?_ (λe=>?_) h
  ·by_cases h1:k1=l1<;>by_cases h2:k2=l2<;>by_cases h3:k3=l3<;>by_cases h4:k4=l4<;>simp[h1,h2,h3,h4]
  ·subst e;have:=t1.inj t2;injection this with e1 this;injection this with e2 this;injection this with e3 this;injection this with e4 this;subst e1 e2 e3 e4;have q1:k1=l1:=a.inj i1 j1;have q2:k2=l2:=b.inj i2 j2;have q3:k3=l3:=c.inj i3 j3;have q4:k4=l4:=d.inj i4 j4;simp[q1,q2,q3,q4]
 quiet:=λ{A E s k u Q} n hn hx h=>by
  obtain⟨r,x1,x2,x3,x4,rfl,t1,i1,i2,i3,i4⟩:=hx;obtain⟨n,rfl⟩:∃j,n=j+1:=⟨n-1,by omega⟩;refine Qei n t1 (λv' hv' {A E Q} q=>?_) h;rcases UG.mp hv' with rfl|hv'
  ·exact a.quiet n (by omega) i1 q
  rcases UG.mp hv' with rfl|hv'
  ·exact b.quiet n (by omega) i2 q
  rcases UG.mp hv' with rfl|hv'
  ·exact c.quiet n (by omega) i3 q
  rw[Uj.mp hv'];exact d.quiet n (by omega) i4 q
def Qdj{va:VK prog w K}{vb:VK prog w K2}{vc:VK prog w K3}{vd:VK prog w K4}(a:OV va)(b:OV vb)(c:OV vc)(d:OV vd)(x y:K×K2×K3×K4):List (Option Bool):=[a.cmp x.1 y.1,b.cmp x.2.1 y.2.1,c.cmp x.2.2.1 y.2.2.1,d.cmp x.2.2.2 y.2.2.2]
theorem Qbp{v:VK prog w K}(o:OV v){z:Bool}{x y:K}{r:List (Option Bool)}:lexO z (o.cmp x y::r)=if x=y then lexO z r else o.lt x y:=by
 unfold OV.cmp;by_cases h:x=y
 ·rw[Ue h,Ue h];rfl
 ·rw[Uf h,Uf h];rfl
theorem Qdk{v:VK prog w K}(o:OV v){x y z:K}{p q r:Bool}(h:p=true->q=true->r=true)(h1:(if x=y then p else o.lt x y)=true)(h2:(if y=z then q else o.lt y z)=true):(if x=z then r else o.lt x z)=true:=by
 by_cases e1:x=y
 ·subst e1;rw[Ue rfl]at h1;by_cases e2:x=z
  ·subst e2;rw[Ue rfl]at h2 ⊢;exact h h1 h2
  ·rw[Uf e2]at h2 ⊢;exact h2
 ·rw[Uf e1]at h1;by_cases e2:y=z
  ·subst e2;rw[Uf e1];exact h1
  ·rw[Uf e2]at h2;have h3:=o.tr x y z h1 h2;by_cases e3:x=z
   ·subst e3;rw[o.irr]at h3;cases h3
   ·rw[Uf e3];exact h3
theorem Qbq{v:VK prog w K}(o:OV v){x y:K}{p q:Bool}(h:x=y->p=true\/q=true):(if x=y then p else o.lt x y)=true\/(if y=x then q else o.lt y x)=true:=by
 by_cases e:x=y
 ·rw[Ue e,Ue e.symm];exact h e
 ·rw[Uf e,Uf (Ne.symm e)];exact o.tot x y e
def QpG{va:VK prog w K}{vb:VK prog w K2}{vc:VK prog w K3}{vd:VK prog w K4}(a:OV va)(b:OV vb)(c:OV vc)(d:OV vd):OV (Qoh va vb vc vd) where
 lt:=λx y=>lexO false (Qdj a b c d x y)
 rich:=λ{A E s x y u u' Q} hu hx hy _ h=>by obtain⟨r,x1,x2,x3,x4,rfl,t1,i1,i2,i3,i4⟩:=hx;obtain⟨r',y1,y2,y3,y4,rfl,t2,j1,j2,j3,j4⟩:=hy;exact Qld (os:=Qdj a b c d x y) hu t1 t2 (.cons (a.at' (by omega) i1 j1) (.cons (b.at' (by omega) i2 j2) (.cons (c.at' (by omega) i3 j3) (.cons (d.at' (by omega) i4 j4) .nil)))) h
 irr:=λx=>by unfold Qdj;simp only[Qbp,Wk];rfl
 tr:=λx y z h1 h2=>by unfold Qdj at h1 h2 ⊢;simp only[Qbp]at h1 h2 ⊢;exact Qdk a (λp q=>Qdk b (λp q=>Qdk c (λp q=>Qdk d (λp _=>p) p q) p q) p q) h1 h2
 tot:=λx y h=>by unfold Qdj;simp only[Qbp];exact Qbq a λe1=>Qbq b λe2=>Qbq c λe3=>Qbq d λe4=>absurd (Prod.ext e1 (Prod.ext e2 (Prod.ext e3 e4))) h
end
end NK
namespace NK
open PySem PyProof.Rows
theorem Qh0{α:Type}{p q:α->Bool}(h:∀x,p x=true->q x=true):∀l:List α,(l.filter p).length<=(l.filter q).length
 |[]=>Ug _|x::l=>by
  have ih:=Qh0 h l;rw[T7,T7];by_cases hp:p x=true
  ·rw[Ue hp,Ue (h x hp)];simpa using ih
  ·rw[Uf hp];split
   ·simp;omega
   ·exact ih
theorem Qh1{α:Type}{p q:α->Bool}(h:∀x,p x=true->q x=true):∀{l:List α}{a:α},a∈l->p a=false->q a=true->(l.filter p).length<(l.filter q).length
 |x::l,a,hm,h1,h2=>by
  rw[T7,T7];rcases UG.mp hm with rfl|hm
  ·rw[Uf (by rw[h1];exact Ui),Ue h2];have:=Qh0 h l;simp;omega
  ·have ih:=Qh1 h hm h1 h2;by_cases hp:p x=true
   ·rw[Ue hp,Ue (h x hp)];simpa using ih
   ·rw[Uf hp];split
    ·simp;omega
    ·exact ih
section
variable{prog:Program}{w:World}{K:Type}[DecidableEq K]{v:VK prog w K}
def OV.rank(o:OV v)(ks:List K)(x:K):Nat:=(ks.filter λy=>o.lt y x).length
theorem OV.rank_lt(o:OV v){ks:List K}{x y:K}(hx:x∈ks):o.lt x y=true->o.rank ks x<o.rank ks y:=λh=>
 Qh1 (λz hz=>o.tr z x y hz h) hx (o.irr x) h
theorem OV.rank_iff(o:OV v)(hx:x∈ks)(hy:y∈ks):o.rank ks x<o.rank ks y↔o.lt x y=true:=by
 refine⟨λh=>?_,o.rank_lt hx⟩;by_cases e:x=y
 ·subst e;exact absurd h (Rb _)
 ·rcases o.tot x y e with z|z
  ·exact z
  ·have:=o.rank_lt hy z;omega
theorem OV.rank_inj(o:OV v)(hx:x∈ks)(hy:y∈ks)(h:o.rank ks x=o.rank ks y):x=y:=by
 by_cases e:x=y
 ·exact e
 ·rcases o.tot x y e with z|z
  ·have:=o.rank_lt hx z;omega
  ·have:=o.rank_lt hy z;omega
open Classical in
def OV.rk(o:OV v)(h:Heap)(ks:List K)(u:Value):Int:=if e:∃x,v.is h x u then (o.rank ks e.choose:Nat) else 0
theorem OV.rk_eq(o:OV v)(hx:v.is h x u):o.rk h ks u=(o.rank ks x:Nat):=by have e:∃x,v.is h x u:=⟨x,hx⟩;unfold OV.rk;rw[dif_pos e,v.inj e.choose_spec hx]
theorem Al.has(h:Al R as bs):∀b∈bs,∃a∈as,R a b:=by
 induction h with
 |nil=>intro b hb;cases hb|cons r _ ih=>
  intro b hb;rcases UG.mp hb with rfl|hb
  ·exact⟨_,UD ..,r⟩
  ·obtain⟨a,h1,h2⟩:=ih b hb;exact⟨a,Uz _ h1,h2⟩
theorem Qle(o:OV v)  : ∀{ks:List K}{vs:List Value},Al (v.is h) ks vs->(vs.map λu=>o.rk h ls u)=ks.map λx=>((o.rank ls x:Nat):Int)
 |_,_,.nil=>rfl|_,_,.cons a b=>by rw[UO,UO,o.rk_eq a,Qle o b]
theorem Qmk(p:vs.Perm us):∀{ks:List α},Al R ks vs->∃ls:List α,ls.Perm ks/\Al R ls us:=by
 induction p with
 |nil =>intro ks al;exact⟨ks,.refl _,al⟩|cons x _ ih=>
  intro ks al;cases al with
  |cons a b=>obtain⟨ls,q1,q2⟩:=ih b;exact⟨_::ls,q1.cons _,.cons a q2⟩
 |swap x y l=>
  intro ks al;cases al with
  |cons a b=>cases b with
   |cons c d=>exact⟨_,List.Perm.swap ..,.cons c (.cons a d)⟩
 |trans _ _ ih1 ih2 =>intro ks al;obtain⟨ls,q1,q2⟩:=ih1 al;obtain⟨ms,q3,q4⟩:=ih2 q2;exact⟨ms,q3.trans q1,q4⟩
theorem Qoi{α β:Type}{R:α->β->Prop}{as:List α}{bs:List β}(h:Al R as bs):∀{i:Nat}{a:α}{b:β},as[i]?=some a->bs[i]?=some b->R a b:=by
 induction h with
 |nil=>intro i a b h1;simp at h1|cons r _ ih=>
  intro i a b h1 h2;cases i with
  |zero=>simp at h1 h2;subst h1 h2;exact r|succ j=>simp at h1 h2;exact ih h1 h2
theorem Qoj(o:OV v){A:Around}{s:Shared}{h:Heap}{kd:SortKind}{ks:List K}{vs:List Value}(al:Al (v.is h) ks vs)(hn:ks.Nodup)(hl:∀x y u u',x∈ks->y∈ks->v.is h x u->v.is h y u'->∀{E:VP} {Q:Bool->Shared->Prop},Q (o.lt x y) s->wpAny (model prog w) A (keyLt' kd u u') Q E s):NZ.Ord prog w A s kd (o.rk h ks) (pairsOf vs) where
 lt:=λp q hp hq {E Q} hQ=>by
  rw[Bs]at hp hq;obtain⟨_,m1⟩:=mem_zip_self hp;obtain⟨_,m2⟩:=mem_zip_self hq;obtain⟨x,x1,x2⟩:=al.has _ m1;obtain⟨y,y1,y2⟩:=al.has _ m2;rw[o.rk_eq x2,o.rk_eq y2]at hQ;refine hl x y _ _ x1 y1 x2 y2 ?_;have e:decide (((o.rank ks x:Nat):Int)<((o.rank ks y:Nat):Int))=o.lt x y:=by rw[RX,We,<-o.rank_iff x1 y1];omega
  rw[e]at hQ;exact hQ
 ne:=by rw[Bs,show(λp:Keyed=>o.rk h ks p.1)=(λu=>o.rk h ks u)∘Prod.fst from rfl,<-Rr,List.map_fst_zip (Ug _),Qle o al];refine By.mpr (hn.imp_of_mem λ{a b} ha hb hab z=>hab ?_);exact o.rank_inj ha hb (by exact_mod_cast z)
theorem Qok(o:OV v){h:Heap}{ks:List K}{vs:List Value}{out:Array Keyed}(al:Al (v.is h) ks vs)(hp:out.Perm (pairsOf vs))(hu:NZ.Up (o.rk h ks) out (pairsOf vs).size)(hn:ks.Nodup):∃ls:List K,ls.Perm ks/\Al (v.is h) ls (out.map (·.2)).toList/\ls.Pairwise λx y=>o.lt x y=true:=by
 have hp':out.toList.Perm (vs.zip vs):=by rw[<-Bs];exact TV.mp hp
 have hsnd:(out.map (·.2)).toList=out.toList.map (·.2):=Array.toList_map ..;have same:∀p∈out.toList,p.1=p.2/\p.1∈vs:=λp hm=>mem_zip_self (hp'.mem_iff.mp hm);have hperm:(out.toList.map (·.2)).Perm vs:=by have:=hp'.map (·.2);rwa[List.map_snd_zip (Ug _)]at this
 obtain⟨ls,l1,l2⟩:=Qmk hperm.symm al;rw[hsnd];refine⟨ls,l1,l2,RG.mpr λi j hi hj hij=>?_⟩;have hlen:ls.length=out.size:=by rw[l2.len,Ud,Ur]
 have hsz:out.size=(pairsOf vs).size:=hp.size_eq;have kr:∀k (hk:k<ls.length),NZ.kr (o.rk h ks) out k=((o.rank ks ls[k]:Nat):Int):=λk hk=>by
  have hk':k<out.size:=by omega
  have e1:out[k]?=some out[k]:=BW _ k hk';have hm:out[k]∈out.toList:=by simp
  have hr:v.is h ls[k] out[k].2:=Qoi (i:=k) l2 (U1 hk) (by rw[UJ,Tj,e1];rfl);unfold NZ.kr;rw[e1];dsimp only;rw[(same _ hm).1,o.rk_eq hr]
 have hle:=hu i j (by omega) (by omega);rw[kr i hi,kr j hj]at hle;have m1:ls[i]∈ks:=l1.mem_iff.mp (TN hi);have m2:ls[j]∈ks:=l1.mem_iff.mp (TN hj);have hne:ls[i]≠ls[j]:=RG.mp (l1.nodup_iff.mpr hn) i j hi hj hij;rcases o.tot _ _ hne with z|z
 ·exact z
 ·have:=o.rank_lt m2 z;omega
theorem Qj8(hu:A.units+4<cLine)(hx:(lstV (intV prog w)).is s.heap x u)(hy:(lstV (intV prog w)).is s.heap y u')(h:Q ((lstO (intO (prog:=prog) (w:=w))).lt x y) s):
  wpAny (model prog w) A (keyLt' (PyProof.Rows.tuples' true) u u') Q E s:=by
 obtain⟨a,us,rfl,t1,i1⟩:=hx;obtain⟨b,vs,rfl,t2,i2⟩:=hy;refine Qej (dep:=0) (os:=List.zipWith (intO (prog:=prog) (w:=w)).cmp x y) (by omega) t1 t2 (QhZ intO i1 i2) (λ_ p q r e1 e2 {Q} hq=>?_) ?_
 ·cases i1 with
  |nil=>simp at e1|cons a1 _=>cases i2 with
   |nil=>simp at e1|cons b1 _=>
    rw[List.zip_cons_cons,List.head?_cons]at e1;rw[BS,List.head?_cons]at e2;injection e1 with e1;injection e1 with p1 p2;subst p1 p2;obtain⟨t,rfl⟩:=RJ a1;obtain⟨t',rfl⟩:=RJ b1;refine oneLt_int ?_;injection e2 with e2;unfold OV.cmp at e2;split at e2
    ·cases e2
    ·injection e2 with e2;have e2:decide (_<_)=r:=e2;rw[e2];exact hq
 ·rw[<-i1.len,<-i2.len,QhX];exact h
end
end NK
namespace NK
open PySem PyProof.Rows
abbrev SK:=Sum (List Int) (List Int×Int×Int×List Int)
section
variable(prog:Program)(w:World)
abbrev grV:VK prog w (List Int):=lstV (intV prog w)
abbrev ctV:VK prog w (List Int×Int×Int×List Int):=Qoh (grV prog w) (intV prog w) (intV prog w) (grV prog w)
def tagV(t:Bool):VK prog w SK where
 is:=λh k u=>match k with
  |.inl g=>t=false/\(grV prog w).is h g u|.inr c=>t=true/\(ctV prog w).is h c u
 hash:=λk=>match k with
  |.inl g=>(grV prog w).hash g|.inr c=>(ctV prog w).hash c
 draws:=λk=>match k with
  |.inl g=>(grV prog w).draws g|.inr c=>(ctV prog w).draws c
 dep:=2
 inj:=λ{h v x y} hx hy=>by
  cases x with
  |inl x=>cases y with
   |inl y=>rw[(grV prog w).inj hx.2 hy.2]|inr y=>rw[hx.1]at hy;cases hy.1
  |inr x=>cases y with
   |inl y=>rw[hx.1]at hy;cases hy.1|inr y=>rw[(ctV prog w).inj hx.2 hy.2]
 keeps:=λ{h h' k v} hx kp=>by
  cases k with
  |inl g=>exact⟨hx.1,(grV prog w).keeps hx.2 kp⟩|inr c=>exact⟨hx.1,(ctV prog w).keeps hx.2 kp⟩
 pyHash:=λ{A E s k v Q} hu hx h=>by
  cases k with
  |inl g=>exact(grV prog w).pyHash (show A.units+1<cLine by omega) hx.2 h|inr c=>exact(ctV prog w).pyHash hu hx.2 h
 eqBool:=λ{A E s x y u v Q} hu hx hy h=>by
  cases x with
  |inl x=>cases y with
   |inl y=>exact(grV prog w).eqBool (show A.units+1<cLine by omega) hx.2 hy.2 (by simpa using h)|inr y=>rw[hx.1]at hy;cases hy.1
  |inr x=>cases y with
   |inl y=>rw[hx.1]at hy;cases hy.1|inr y=>exact(ctV prog w).eqBool hu hx.2 hy.2 (by simpa using h)
 quiet:=λ{A E s k v Q} n hn hx h=>by
  cases k with
  |inl g=>exact(grV prog w).quiet n (show 1<=n by omega) hx.2 h|inr c=>exact(ctV prog w).quiet n hn hx.2 h
def tagK(t:Bool):HeapKind prog w SK:=hk (tagV prog w t) (show 2<=8 by decide)
end
def Qml(g:List Int):Int:=reduceHash (Builtin.Tuple.tupleHashOf (g.map hashInt))
def QpH:SK->Int
 |.inl g=>Qml g|.inr c=>reduceHash (Builtin.Tuple.tupleHashOf [Qml c.1,hashInt c.2.1,hashInt c.2.2.1,Qml c.2.2.2])
def ents(xs:List (SK×Addr×Value)):List DictEntry:=xs.map λx=>⟨QpH x.1,.ref x.2.1,x.2.2⟩
theorem ents_eq(prog:Program)(w:World)(t:Bool)(xs:List (SK×Addr×Value)):ents xs=xs.map (entryOfKey (tagK prog w t)):=by unfold ents;refine Wr λx _=>?_;obtain⟨k,r⟩:=x;cases k<;>rfl
def DObj(a:Addr)(xs:List (SK×Addr×Value))(h:Heap):Prop:=∃o es ep,h.get? a=some o/\o.ExactDict/\o.data=.dict es ep/\es.toList=ents xs
end NK
namespace L3
open PySem
abbrev Xc:=Nat×Option Nat
inductive D where
 |non|bl (b:Bool)|int (i:Int)|str (s:Str)|ref (n:Nat)|tup (ds:List D)|fl (ds:List D)
inductive GO where
 |lst (ds:List D)|ins (c:Nat) (fs:List (Str×D))|dct (kvs:List (Sum Int Str×D))|exc (x:Xc)|dfz (kvs:List (Sum Int Str×D))|dcn (t:Bool) (kvs:List ((Sum (List Int) (List Int×Int×Int×List Int))×D))|dcf (t:Bool) (kvs:List ((Sum (List Int) (List Int×Int×Int×List Int))×D))
abbrev G:=List GO
abbrev S3:=List (Option D)
inductive Res(α:Type) where
 |ok (a:α) (g:G)|raise (x:Xc) (g:G)|stuck
def Res.bind:Res α->(α->G->Res β)->Res β
 |.ok a g,k=>k a g|.raise e g,_=>.raise e g|.stuck,_=>.stuck
inductive Out where
 |nx (σ:S3) (g:G)|rt (d:D) (g:G)|bk (σ:S3) (g:G)|ct (σ:S3) (g:G)|raise (x:Xc) (σ:S3) (g:G)|stuck
abbrev ME:=S3->G->Res D
abbrev MT:=S3->G->Res Bool
abbrev MA:=S3->G->Res (List D)
abbrev MS:=S3->G->Out
abbrev MF:=List D->G->Res D
theorem Res.bind_ok(a:α)(g:G)(k:α->G->Res β):(Res.ok a g).bind k=k a g:=rfl
def SZ:Nat:=1000000
noncomputable def mVar(i:Nat):ME:=λσ g=>match σ[i]? with
 |some (some d)=>.ok d g|_=>.stuck
noncomputable def mLit(d:D):ME:=λ_ g=>.ok d g
abbrev mI(i:Int):ME:=mLit (.int i)
noncomputable def mOp1(f:D->G->Res D)(a:ME):ME:=λσ g=>(a σ g).bind f
noncomputable def mOp2(f:D->D->G->Res D)(a b:ME):ME:=λσ g=>(a σ g).bind λx g1=>(b σ g1).bind λy g2=>f x y g2
noncomputable def mNil:MA:=λ_ g=>.ok [] g
noncomputable def Qa(a:ME)(r:MA):MA:=λσ g=>(a σ g).bind λx g1=>(r σ g1).bind λxs g2=>.ok (x::xs) g2
noncomputable def mOpA(f:List D->G->Res D)(a:MA):ME:=λσ g=>(a σ g).bind f
noncomputable def Qj(a:ME):MT:=λσ g=>(a σ g).bind λd g1=>match d with
 |.bl b=>.ok b g1|_=>.stuck
noncomputable def Yn(a:MT):MT:=λσ g=>(a σ g).bind λb g1=>.ok (!b) g1
noncomputable def Qco(a b:MT):MT:=λσ g=>(a σ g).bind λc g1=>if c=true then b σ g1 else .ok false g1
noncomputable def mOrT(a b:MT):MT:=λσ g=>(a σ g).bind λc g1=>if c=true then .ok true g1 else b σ g1
noncomputable def mNot(a:ME):ME:=λσ g=>(a σ g).bind λd g1=>match d with
 |.bl b=>.ok (.bl (!b)) g1|_=>.stuck
noncomputable def mAnd(a b:ME):ME:=λσ g=>(a σ g).bind λd g1=>match d with
 |.bl c=>if c=true then b σ g1 else .ok (.bl false) g1
 |_=>.stuck
noncomputable def mIfE(c:MT)(a b:ME):ME:=λσ g=>(c σ g).bind λt g1=>if t=true then a σ g1 else b σ g1
noncomputable def QcD(f f':D->D->G->Res D)(a b c:ME):ME:=λσ g=>(a σ g).bind λx g1=>(b σ g1).bind λy g2=>(f x y g2).bind λz g3=>match z with
 |.bl true=>(c σ g3).bind λw g4=>f' y w g4
 |.bl false=>.ok (.bl false) g3|_=>.stuck
noncomputable def QV:MS:=λσ g=>.nx σ g
noncomputable def mSeq(a b:MS):MS:=λσ g=>match a σ g with
 |.nx σ' g'=>b σ' g'|o=>o
noncomputable def Yb(a:ME):MS:=λσ g=>match a σ g with
 |.ok _ g'=>.nx σ g'|.raise e g'=>.raise e σ g'|.stuck=>.stuck
noncomputable def mRet(a:ME):MS:=λσ g=>match a σ g with
 |.ok d g'=>.rt d g'|.raise e g'=>.raise e σ g'|.stuck=>.stuck
noncomputable def Qmm:MS:=λ_ g=>.rt .non g
noncomputable def mIf(c:MT)(a b:MS):MS:=λσ g=>match c σ g with
 |.ok t g'=>if t=true then a σ g' else b σ g'
 |.raise e g'=>.raise e σ g'|.stuck=>.stuck
noncomputable def QbJ:MS:=λ_ _=>.stuck
noncomputable def Qh2(c:Nat)(a:MA):MS:=λσ g=>match a σ g with
 |.ok ds g'=>if ds.length<=SZ then .raise (c,none) σ g' else .stuck
 |.raise e g'=>.raise e σ g'|.stuck=>.stuck
structure MH where
 cs:List Nat
 no:List Nat
 nm:Option Nat
 suite:MS
def Qol(i:Nat):Out->Out
 |.nx σ g=>.nx (σ.set i none) g|.rt d g=>.rt d g|_=>.stuck
def runH:List MH->Xc->S3->G->Out
 |[],x,σ,g=>.raise x σ g|h::r,x,σ,g=>if x.1∈h.cs then (match h.nm with
  |none=>(match h.suite σ g with
   |.nx σ' g'=>.nx σ' g'|.rt d g'=>.rt d g'|_=>.stuck)
  |some i=>Qol i (h.suite (σ.set i (some (.ref g.length))) (g++[.exc x]))) else if x.1∈h.no then runH r x σ g else .stuck
noncomputable def mTry(b:MS)(hs:List MH):MS:=λσ g=>match b σ g with
 |.raise x σ' g'=>runH hs x σ' g'|o=>o
abbrev MG:=D->S3->Option S3
def gSet(i:Nat):MG:=λd σ=>some (σ.set i (some d))
def QgS:List MG->List D->S3->Option S3
 |[],[],σ=>some σ|t::ts,d::ds,σ=>(t d σ).bind λσ'=>QgS ts ds σ'
 |_,_,_=>none
def QgT(ts:List MG):MG:=λd σ=>match d with
 |.tup ds=>QgS ts ds σ|_=>none
noncomputable def mAsg(t:MG)(a:ME):MS:=λσ g=>match a σ g with
 |.ok d g'=>(match t d σ with
  |some σ'=>.nx σ' g'|none=>.stuck)
 |.raise e g'=>.raise e σ g'|.stuck=>.stuck
structure Src where
 at':G->Nat->Option (Option D)
 top:Nat
abbrev MI:=S3->G->Res Src
def forL(src:Src)(t:MG)(body:MS):Nat->Nat->S3->G->Out
 |0,_,_,_=>.stuck|f+1,i,σ,g=>match src.at' g i with
  |some (some d)=>(match t d σ with
   |some σ1=>(match body σ1 g with
    |.nx σ2 g2=>forL src t body f (i+1) σ2 g2|.ct σ2 g2=>forL src t body f (i+1) σ2 g2|.bk σ2 g2=>.nx σ2 g2|o=>o)
   |none=>.stuck)
  |some none=>.nx σ g|none=>.stuck
noncomputable def mFor(it:MI)(t:MG)(body:MS):MS:=λσ g=>match it σ g with
 |.ok src g'=>forL src t body (src.top+1) 0 σ g'|.raise e g'=>.raise e σ g'|.stuck=>.stuck
def ZB(c:MT)(body:MS):Nat->S3->G->Out
 |0,_,_=>.stuck|f+1,σ,g=>match c σ g with
  |.ok true g1=>(match body σ g1 with
   |.nx σ2 g2=>ZB c body f σ2 g2|.ct σ2 g2=>ZB c body f σ2 g2|.bk σ2 g2=>.nx σ2 g2|o=>o)
  |.ok false g1=>.nx σ g1|.raise e g1=>.raise e σ g1|.stuck=>.stuck
open Classical in
noncomputable def QbK(c:MT)(body:MS):MS:=λσ g=>if h:∃f,ZB c body f σ g≠.stuck then ZB c body h.choose σ g else .stuck
def Ji(src:Src)(t:MG)(c:MT)(e:ME):Nat->Nat->S3->G->List D->Res (List D)
 |0,_,_,_,_=>.stuck|f+1,i,σ,g,acc=>match src.at' g i with
  |some (some d)=>(match t d σ with
   |some σ1=>(match c σ1 g with
    |.ok b g1=>if b=true then (match e σ1 g1 with
     |.ok y g2=>Ji src t c e f (i+1) σ1 g2 (acc++[y])|_=>.stuck) else Ji src t c e f (i+1) σ1 g1 acc
    |_=>.stuck)
   |none=>.stuck)
  |some none=>.ok acc g|none=>.stuck
def capt(n:Nat)(cap:List Nat)(σ:S3):S3:=List.replicate n none++cap.map λi=>(σ[i]?).getD none
def newL(ds:List D)(g:G):Res D:=if ds.length<=SZ then .ok (.ref g.length) (g++[.lst ds]) else .stuck
def pTup(xs:List D)(g:G):Res D:=if xs.length<=SZ then .ok (.tup xs) g else .stuck
noncomputable def J8(it:MI)(n:Nat)(cap:List Nat)(t:MG)(c:MT)(e:ME):ME:=λσ g=>match it σ g with
 |.ok src g1=>if src.top<=SZ then (match Ji src t c e (src.top+1) 0 (capt n cap σ) g1 []with
  |.ok ds g2=>.ok (.ref g2.length) (g2++[.lst ds])|_=>.stuck) else .stuck
 |_=>.stuck
noncomputable def Qam:MT:=λ_ g=>.ok true g
noncomputable def mDef(k n:Nat)(body:MS):MF:=λds g=>if ds.length=k then (match body (ds.map some++List.replicate n none) g with
 |.nx _ g'=>.ok .non g'|.rt d g'=>.ok d g'|.raise e _ g'=>.raise e g'|_=>.stuck) else .stuck
noncomputable def Qr(f:MF)(a:MA):ME:=λσ g=>(a σ g).bind f
noncomputable def Yc(cc:Nat)(m:Str)(f:MF)(o:ME)(a:MA):ME:=λσ g=>(o σ g).bind λx g1=>match x with
 |.ref n=>(match g1[n]? with
  |some (.ins c fs)=>if c=cc/\fs.lookup m=none then (a σ g1).bind λxs g2=>f (.ref n::xs) g2 else .stuck
  |_=>.stuck)
 |_=>.stuck
noncomputable def QaO(c:Nat)(f:MF)(a:MA):ME:=λσ g=>(a σ g).bind λxs g1=>(f (.ref g1.length::xs) (g1++[.ins c []])).bind λd g2=>match d with
 |.non=>.ok (.ref g1.length) g2|_=>.stuck
noncomputable def Qz(cs:List Nat)(f:Str)(o:ME):ME:=mOp1 (λx g=>match x with
 |.ref n=>(match g[n]? with
  |some (.ins c fs)=>if c∈cs then (match fs.lookup f with
   |some d=>.ok d g|none=>.stuck) else .stuck
  |_=>.stuck)
 |_=>.stuck) o
def putG(f:Str)(v:D):List (Str×D)->List (Str×D)
 |[]=>[(f,v)]| (g,x)::r=>if g=f then (g,v)::r else (g,x)::putG f v r
noncomputable def Q4(cs:List Nat)(f:Str)(o v:ME):MS:=λσ g=>match v σ g with
 |.ok y g1=>(match o σ g1 with
  |.ok (.ref n) g2=>(match g2[n]? with
   |some (.ins c fs)=>if c∈cs/\fs.length<100 then .nx σ (g2.set n (.ins c (putG f y fs))) else .stuck
   |_=>.stuck)
  |.raise e g'=>.raise e σ g'|_=>.stuck)
 |.raise e g'=>.raise e σ g'|.stuck=>.stuck
def ixD(n:Nat)(i:Int):Option Nat:=if 0<=i then (if i<n then some i.toNat else none) else if -(n:Int)<=i then some (i+n).toNat else none
noncomputable def Qek(o i v:ME):MS:=λσ g=>match v σ g with
 |.ok y g1=>(match o σ g1 with
  |.ok (.ref n) g2=>(match i σ g2 with
   |.ok (.int k) g3=>(match g3[n]? with
    |some (.lst ds)=>(match ixD ds.length k with
     |some j=>.nx σ (g3.set n (.lst (ds.set j y)))|none=>.stuck)
    |_=>.stuck)
   |.raise e g'=>.raise e σ g'|_=>.stuck)
  |.raise e g'=>.raise e σ g'|_=>.stuck)
 |.raise e g'=>.raise e σ g'|.stuck=>.stuck
def JY(d:D)(g:G):Res Src:=match d with
 |.tup ds=>.ok ⟨λ_ i=>some ds[i]?,ds.length⟩ g|.fl ds=>.ok ⟨λ_ i=>some ds[i]?,ds.length⟩ g|.ref n=>(match g[n]? with
  |some (.lst ds)=>.ok ⟨λg i=>(match g[n]? with|some (.lst es)=>some es[i]? | _=>none),ds.length⟩ g|_=>.stuck)
 |_=>.stuck
noncomputable def QR(a:ME):MI:=λσ g=>(a σ g).bind JY
def Yd(lo:Int)(n:Nat):Src:=⟨λ_ i=>some (if i<n then some (.int (lo+i)) else none),n⟩
def inR(j:Int):Prop:=-(2^62)<=j/\j<2^62
instance (j:Int):Decidable (inR j):=inferInstanceAs (Decidable (_/\_))
noncomputable def ZH(a:ME):MI:=λσ g=>(a σ g).bind λd g1=>match d with
 |.int j=>if inR j then .ok (Yd 0 j.toNat) g1 else .stuck
 |_=>.stuck
def QF(g:G):D->Option (Bool×List D)
 |.tup ds=>some (false,ds)|.fl ds=>some (true,ds)|.ref n=>(match g[n]? with
  |some (.lst ds)=>some (true,ds)|_=>none)
 |_=>none
def QfW(d1 d2:D)(g:G):Res Src:=match QF g d1,QF g d2 with
 |some (_,xs),some (_,ys)=>.ok ⟨λg i=>(match QF g d1,QF g d2 with
  |some (_,xs),some (_,ys)=>(match xs[i]?,ys[i]? with
   |some x,some y=>some (some (.tup [x,y]))|_,_=>some none)
  |_,_=>none),min xs.length ys.length⟩ g
 |_,_=>.stuck
noncomputable def Qel(a b:ME):MI:=λσ g=>(a σ g).bind λx g1=>(b σ g1).bind λy g2=>QfW x y g2
def pAdd(x y:D)(g:G):Res D:=match x,y with
 |.int i,.int j=>.ok (.int (i+j)) g|.tup xs,.tup ys=>if xs.length+ys.length<=SZ then .ok (.tup (xs++ys)) g else .stuck
 |.ref n,.ref m=>(match g[n]?,g[m]? with
  |some (.lst xs),some (.lst ys)=>if xs.length+ys.length<=SZ then .ok (.ref g.length) (g++[.lst (xs++ys)]) else .stuck
  |_,_=>.stuck)
 |_,_=>.stuck
def pSub(x y:D)(g:G):Res D:=match x,y with
 |.int i,.int j=>.ok (.int (i-j)) g|_,_=>.stuck
def cM(i:Int):Prop:=-(2^64)<i/\i<2^64
instance (j:Int):Decidable (cM j):=inferInstanceAs (Decidable (_/\_))
def pMul(x y:D)(g:G):Res D:=match x,y with
 |.int i,.int j=>if cM i\/cM j then .ok (.int (i*j)) g else .stuck
 |_,_=>.stuck
def Ye(x y:D)(g:G):Res D:=match x,y with
 |.int i,.int j=>if 0<j/\j<1073741824 then .ok (.int (i/j)) g else .stuck
 |_,_=>.stuck
def pMod(x y:D)(g:G):Res D:=match x,y with
 |.int i,.int j=>if 0<j then .ok (.int (i%j)) g else .stuck
 |_,_=>.stuck
def pNeg(x:D)(g:G):Res D:=match x with
 |.int i=>.ok (.int (-i)) g|_=>.stuck
def pCmp(r:Int->Int->Bool)(x y:D)(g:G):Res D:=match x,y with
 |.int i,.int j=>.ok (.bl (r i j)) g|_,_=>.stuck
def pLt:=pCmp λi j=>decide (i<j)
def pLe:=pCmp λi j=>decide (i<=j)
def pGt:=pCmp λi j=>decide (j<i)
def pGe:=pCmp λi j=>decide (j<=i)
def b2I(b:Bool):Int:=if b then 1 else 0
def rowI:List D->Option (List Int)
 |[]=>some []|.int i::r=>(rowI r).map (i :: ·)|_::_=>none
def eqT(_:G)(x y:D):Option Bool:=match x,y with
 |.int i,.int j=>some (i==j)|.str s,.str t=>some (s==t)|.tup xs,.tup ys=>(match rowI xs,rowI ys with
  |some u,some v=>some (decide (u=v))|_,_=>none)
 |_,_=>none
def pEq(x y:D)(g:G):Res D:=match eqT g x y with
 |some b=>.ok (.bl b) g|none=>.stuck
def neT(_:G)(x y:D):Option Bool:=match x,y with
 |.int i,.int j=>some (i==j)|.str s,.str t=>some (s==t)|.bl a,.bl b=>some (a==b)|_,_=>none
def pNe(x y:D)(g:G):Res D:=match neT g x y with
 |some b=>.ok (.bl (!b)) g|none=>.stuck
def isNon:D->Bool
 |.non=>true|_=>false
def pIs(x y:D)(g:G):Res D:=match y with
 |.non=>.ok (.bl (isNon x)) g|_=>.stuck
def QfX(x y:D)(g:G):Res D:=match y with
 |.non=>.ok (.bl (!isNon x)) g|_=>.stuck
def atD(xs:List α)(i:Int):Option α:=(ixD xs.length i).bind λj=>xs[j]?
def pIx(x y:D)(g:G):Res D:=match x,y with
 |.tup ds,.int i=>(match atD ds i with
  |some d=>.ok d g|none=>.stuck)
 |.fl ds,.int i=>(match atD ds i with
  |some d=>.ok d g|none=>.stuck)
 |.ref n,.int i=>(match g[n]? with
  |some (.lst ds)=>(match atD ds i with
   |some d=>.ok d g|none=>.stuck)
  |_=>.stuck)
 |.str s,.int i=>if s.length<=SZ then (match atD s.cps.toList i with
  |some c=>.ok (.str ⟨#[c]⟩) g|none=>.stuck) else .stuck
 |_,_=>.stuck
def sIxD(n d:Nat):Option Int->Nat
 |none=>d|some v=>if v<0 then (v+(n:Int)).toNat else min v.toNat n
def cutD(xs:List α)(lo hi:Option Int):List α:=(xs.drop (sIxD xs.length 0 lo)).take (sIxD xs.length xs.length hi-sIxD xs.length 0 lo)
def QbL(x:D)(lo hi:Option Int)(g:G):Res D:=match x with
 |.tup ds=>.ok (.tup (cutD ds lo hi)) g|.fl ds=>.ok (.ref g.length) (g++[.lst (cutD ds lo hi)])|.ref n=>(match g[n]? with
  |some (.lst ds)=>.ok (.ref g.length) (g++[.lst (cutD ds lo hi)])|_=>.stuck)
 |_=>.stuck
abbrev MO:=S3->G->Res (Option Int)
noncomputable def QD:MO:=λ_ g=>.ok none g
noncomputable def ZM(a:ME):MO:=λσ g=>(a σ g).bind λd g1=>match d with
 |.int i=>.ok (some i) g1|_=>.stuck
noncomputable def QW(a:ME)(lo hi:MO):ME:=λσ g=>(a σ g).bind λx g1=>(lo σ g1).bind λl g2=>(hi σ g2).bind λh g3=>QbL x l h g3
def pLen(x:D)(g:G):Res D:=match x with
 |.tup ds=>.ok (.int ds.length) g|.fl ds=>.ok (.int ds.length) g|.ref n=>(match g[n]? with
  |some (.lst ds)=>.ok (.int ds.length) g|_=>.stuck)
 |_=>.stuck
def Qan(x:D)(g:G):Res D:=match x with
 |.tup ds=>.ok (.tup ds) g|.fl ds=>.ok (.tup ds) g|.ref n=>(match g[n]? with
  |some (.lst ds)=>.ok (.tup ds) g|_=>.stuck)
 |_=>.stuck
noncomputable def Yo(o e:ME):ME:=λσ g=>(o σ g).bind λx g1=>match x with
 |.ref n=>(match g1[n]? with
  |some (.lst _)=>(e σ g1).bind λy g2=>(match g2[n]? with
   |some (.lst ds)=>if ds.length<SZ then .ok .non (g2.set n (.lst (ds++[y]))) else .stuck
   |_=>.stuck)
  |_=>.stuck)
 |_=>.stuck
def pPop(x:D)(g:G):Res D:=match x with
 |.ref n=>(match g[n]? with
  |some (.lst ds)=>(match ds[ds.length-1]? with
   |some y=>.ok y (g.set n (.lst ds.dropLast))|none=>.stuck)
  |_=>.stuck)
 |_=>.stuck
inductive Ty where
 |non|bool|int|str|tuple|list|dict
 deriving DecidableEq
def Ty.name:Ty->String
 |.non => "NoneType" |.bool => "bool" |.int => "int" |.str => "str" |.tuple => "tuple" |.list => "list" |.dict => "dict"
def tyLe(t c:Ty):Bool:=t==c||(t==.bool&&c==.int)
def tyOf(g:G):D->Option Ty
 |.non=>some .non|.bl _=>some .bool|.int _=>some .int|.str _=>some .str|.tup _=>some .tuple|.fl _=>some .list|.ref n=>(match g[n]? with
  |some (.lst _)=>some .list|some (.dct _)=>some .dict|_=>none)
def ZX(c:Ty)(x:D)(g:G):Res D:=match tyOf g x with
 |some t=>.ok (.bl (tyLe t c)) g|none=>.stuck
def ZN(all cs:List Nat)(x:D)(g:G):Res D:=match x with
 |.ref n=>(match g[n]? with
  |some (.exc e)=>if e.1∈all then .ok (.bl (decide (e.1∈cs))) g else .stuck
  |_=>.stuck)
 |.non=>.ok (.bl false) g|_=>.stuck
def allB:List D->Option Bool
 |[]=>some true|.bl b::r=>(allB r).map (b && ·)|_::_=>none
def pAll(x:D)(g:G):Res D:=match x with
 |.ref n=>(match g[n]? with
  |some (.lst ds)=>(match allB ds with
   |some b=>.ok (.bl b) g|none=>.stuck)
  |_=>.stuck)
 |_=>.stuck
def Qcp:D->Bool
 |.non=>true|.bl _=>true|.int _=>true|.str _=>true|_=>false
def eqF(x y:D):Bool:=match x,y with
 |.non,.non=>true|.bl a,.bl b=>a==b|.int i,.int j=>i==j|.str s,.str t=>s==t|.bl a,.int j=>b2I a==j|.int i,.bl b=>i==b2I b|_,_=>false
def pIn(neg:Bool)(x y:D)(g:G):Res D:=match QF g y with
 |some (_,ds)=>if Qcp x=true/\ds.all Qcp=true then .ok (.bl (if neg=true then !(ds.any λd=>eqF d x) else ds.any λd=>eqF d x)) g else .stuck
 |none=>.stuck
def skOf:Bool->D->Option (Sum (List Int) (List Int×Int×Int×List Int))
 |false,.tup ds=>(rowI ds).map .inl|true,.tup [.tup a,.int p,.int q,.tup b]=>(match rowI a,rowI b with
  |some x,some y=>some (.inr (x,p,q,y))|_,_=>none)
 |_,_=>none
def kD:Sum (List Int) (List Int×Int×Int×List Int)->D
 |.inl g=>.tup (g.map .int)|.inr (a,p,q,b)=>.tup [.tup (a.map .int),.int p,.int q,.tup (b.map .int)]
end L3
namespace L3
open PySem PySem.Spec PyProof.Rows L2
def SqF(K:Frag)(H:Hp)(a:Addr)(xs:List V):Prop:=(∃o,H a=some (.frz o (.lst xs)))\/SqL K (λ_=>none) a xs
theorem SqF.sq{K:Frag}{H:Hp}{a:Addr}{xs:List V}(h:SqF K H a xs):SqL K H a xs:=by
 rcases h with⟨o,h⟩|(h|⟨o,h⟩)|h
 ·exact .inl (.inr ⟨o,h⟩)
 ·cases h
 ·cases h
 ·exact .inr h
mutual
inductive Den(K:Frag)(μ:List Addr)(H:Hp):V->D->Prop where
 |non:Den K μ H .non .non
 |bl (b:Bool):Den K μ H (.bl b) (.bl b)
 |int (i:Int):Den K μ H (.int i) (.int i)
 |str (x:Str):Den K μ H (.str x) (.str x)
 |ref {n:Nat} {a:Addr} (h:μ[n]?=some a):Den K μ H (.ref a) (.ref n)
 |tup {a:Addr} {vs:List V} {ds:List D} (h:SqT K H a vs) (hs:Dens K μ H vs ds):Den K μ H (.ref a) (.tup ds)
 |fl {a:Addr} {vs:List V} {ds:List D} (h:SqF K H a vs) (hs:Dens K μ H vs ds):Den K μ H (.ref a) (.fl ds)
inductive Dens(K:Frag)(μ:List Addr)(H:Hp):List V->List D->Prop where
 |nil:Dens K μ H [] []
 |cons {v:V} {d:D} {vs:List V} {ds:List D} (h:Den K μ H v d) (hs:Dens K μ H vs ds):Dens K μ H (v::vs) (d::ds)
end
structure Ext(K:Frag)(μ:List Addr)(H:Hp)(μ':List Addr)(H':Hp):Prop where
 pre:∃t,μ'=μ++t
 tup:∀a xs,SqT K H a xs->SqT K H' a xs
 fl:∀a xs,SqF K H a xs->SqF K H' a xs
 frz:∀a o u,H a=some (.frz o u)->H' a=some (.frz o u)
section
variable{K:Frag}{ca:Nat->Addr}{μ μ' μ'':List Addr}{H H' H'':Hp}
theorem Ext.refl:Ext K μ H μ H:=⟨⟨[],by simp⟩,λ_ _ h=>h,λ_ _ h=>h,λ_ _ _ h=>h⟩
theorem Ext.trans(a:Ext K μ H μ' H')(b:Ext K μ' H' μ'' H''):Ext K μ H μ'' H'':=by obtain⟨t,e⟩:=a.pre;obtain⟨u,f⟩:=b.pre;exact⟨⟨t++u,by rw[f,e,Ut]⟩,λx xs h=>b.tup x xs (a.tup x xs h),λx xs h=>b.fl x xs (a.fl x xs h),λx o u h=>b.frz x o u (a.frz x o u h)⟩
theorem Ext.at(e:Ext K μ H μ' H'){n:Nat}{a:Addr}(h:μ[n]?=some a):μ'[n]?=some a:=by obtain⟨t,rfl⟩:=e.pre;have hl:n<μ.length:=(Um.mp h).1;rw[Ul hl];exact h
mutual
theorem Den.mono(e:Ext K μ H μ' H'):∀{v:V}{d:D},Den K μ H v d->Den K μ' H' v d
 |_,_,.non=>.non|_,_,.bl b=>.bl b|_,_,.int i=>.int i|_,_,.str x=>.str x|_,_,.ref h=>.ref (e.at h)|_,_,.tup h hs=>.tup (e.tup _ _ h) (Dens.mono e hs)|_,_,.fl h hs=>.fl (e.fl _ _ h) (Dens.mono e hs)
theorem Dens.mono(e:Ext K μ H μ' H'):∀{vs:List V}{ds:List D},Dens K μ H vs ds->Dens K μ' H' vs ds
 |_,_,.nil=>.nil|_,_,.cons h hs=>.cons (Den.mono e h) (Dens.mono e hs)
end
theorem Dens.length:∀{vs:List V}{ds:List D},Dens K μ H vs ds->vs.length=ds.length
 |_,_,.nil=>rfl|_,_,.cons _ t=>by rw[UH,UH,Dens.length t]
theorem Dens.get:∀{vs:List V}{ds:List D}{i:Nat}{d:D},Dens K μ H vs ds->ds[i]?=some d->∃v,vs[i]?=some v/\Den K μ H v d
 |_,_,_,_,.nil,e=>by simp at e
 |_,_,0,_,.cons r _,e=>by simp at e;subst e;exact⟨_,rfl,r⟩
 |_,_,i+1,x,.cons _ t,e=>by obtain⟨u,h1,h2⟩:=Dens.get (i:=i) (d:=x) t (by simpa using e);exact⟨u,by simpa using h1,h2⟩
theorem Dens.append:∀{vs ws:List V}{ds es:List D},Dens K μ H vs ds->Dens K μ H ws es->Dens K μ H (vs++ws) (ds++es)
 |_,_,_,_,.nil,h=>h|_,_,_,_,.cons a b,h=>.cons a (Dens.append b h)
theorem Dens.set(r:Den K μ H x u):∀{xs:List V}{us:List D}(i:Nat),Dens K μ H xs us->Dens K μ H (xs.set i x) (us.set i u)
 |_,_,_,.nil=>.nil|_,_,0,.cons _ t=>.cons r t|_,_,i+1,.cons q t=>.cons q (Dens.set r i t)
theorem Dens.take:∀{xs:List V}{us:List D}(n:Nat),Dens K μ H xs us->Dens K μ H (xs.take n) (us.take n)
 |_,_,0,_=>.nil|_,_,_+1,.nil=>.nil|_,_,n+1,.cons r t=>.cons r (Dens.take n t)
theorem Dens.drop:∀{xs:List V}{us:List D}(n:Nat),Dens K μ H xs us->Dens K μ H (xs.drop n) (us.drop n)
 |_,_,0,r=>r|_,_,_+1,.nil=>.nil|_,_,n+1,.cons _ t=>Dens.drop n t
theorem Dens.ints(ns:List Int):Dens K μ H (ns.map V.int) (ns.map D.int):=by
 induction ns with
 |nil=>exact .nil|cons n r ih=>exact .cons (.int n) ih
def FRel(K:Frag)(μ:List Addr)(H:Hp):List (Str×V)->List (Str×D)->Prop:=Paired λp q=>p.1=q.1/\Den K μ H p.2 q.2
def KRel(K:Frag)(μ:List Addr)(H:Hp):List (Key×V)->List (Key×D)->Prop:=Paired λp q=>p.1=q.1/\Den K μ H p.2 q.2
def XOb(ca:Nat->Addr)(x:Xc)(o:Obj):Prop:=o.cls=.ref (ca x.1)/\o.dict=none
theorem XOb.map(h:XOb ca x o)(f:Array Value->Array Value):XOb ca x (o.mapFields f):=by obtain⟨c,d,dt,sl⟩:=o;cases dt<;>exact h
def XO(ca:Nat->Addr)(a:Addr)(x:Xc):HO:=.ext λh=>∃o vs,h.get? a=some o/\XOb ca x o/\o.data=.fields vs
def ND(a:Addr)(xs:List (NK.SK×Addr×Value)):HO:=.ext (NK.DObj a xs)
def NRel(K:Frag)(t:Bool)(μ:List Addr)(H:Hp):List (NK.SK×Addr×Value)->List (NK.SK×D)->Prop:=Paired λx q=>x.1=q.1/\(∃d,skOf t d=some x.1/\Den K μ H (.ref x.2.1) d)/\∃v,RelV v x.2.2/\Den K μ H v q.2
theorem NRel.mono(e:Ext K μ H μ' H')(h:NRel K t μ H xs ks):NRel K t μ' H' xs ks:=Paired.imp' (λ_ _ q=>⟨q.1,let ⟨d,a,b⟩:=q.2.1;⟨d,a,b.mono e⟩,let ⟨v,a,b⟩:=q.2.2;⟨v,a,b.mono e⟩⟩) h
def ORep(K:Frag)(ca:Nat->Addr)(μ:List Addr)(H:Hp)(a:Addr):GO->Prop
 |.dct ks=>∃kv,H a=some (.dK kv)/\KRel K μ H kv ks|.exc x=>H a=some (XO ca a x)|.dfz ks=>∃o kv,H a=some (.frz o (.dK kv))/\KRel K μ H kv ks|.dcn t ks=>∃xs,H a=some (ND a xs)/\NRel K t μ H xs ks/\(xs.map (·.1)).Nodup/\(a==sysModules)=false|.dcf t ks=>∃o xs,H a=some (.frz o (ND a xs))/\NRel K t μ H xs ks/\(xs.map (·.1)).Nodup/\(a==sysModules)=false|.lst ds=>∃vs,H a=some (.lst vs)/\Dens K μ H vs ds|.ins c fs=>∃dx fv,H a=some (.ins (ca c) dx fv)/\FRel K μ H fv fs
structure GRep(K:Frag)(ca:Nat->Addr)(μ:List Addr)(H:Hp)(g:G):Prop where
 len:μ.length=g.length
 nd:μ.Nodup
 obj:∀(n:Nat)(a:Addr)(o:GO),μ[n]?=some a->g[n]?=some o->ORep K ca μ H a o
structure Rep(K:Frag)(ca:Nat->Addr)(μ:List Addr)(σ3:S3)(g:G)(σ:L2.St)(H:Hp):Prop where
 g:GRep K ca μ H g
 len:σ.length=σ3.length
 st:∀(i:Nat)(d:D),σ3[i]?=some (some d)->∃v,σ[i]?=some (some v)/\Den K μ H v d
theorem FRel.mono(e:Ext K μ H μ' H')(h:FRel K μ H fv fs):FRel K μ' H' fv fs:=Paired.imp' (λ_ _ q=>⟨q.1,q.2.mono e⟩) h
theorem KRel.mono(e:Ext K μ H μ' H')(h:KRel K μ H fv fs):KRel K μ' H' fv fs:=Paired.imp' (λ_ _ q=>⟨q.1,q.2.mono e⟩) h
theorem Rep.go{σ3:S3}{g g':G}{σ:L2.St}(r:Rep K ca μ σ3 g σ H)(e:Ext K μ H μ' H')(h:GRep K ca μ' H' g'):Rep K ca μ' σ3 g' σ H':=⟨h,r.len,λi d z=>by obtain⟨v,h1,h2⟩:=r.st i d z;exact⟨v,h1,h2.mono e⟩⟩
theorem GRep.addr{g:G}(r:GRep K ca μ H g){n:Nat}{o:GO}(h:g[n]?=some o):∃a,μ[n]?=some a/\ORep K ca μ H a o:=by
 have hl:n<g.length:=(Um.mp h).1;have hm:n<μ.length:=by rw[r.len];exact hl
 exact⟨μ[n],by simp[hm],r.obj n _ o (by simp[hm]) h⟩
theorem ORep.is(h:ORep K ca μ H a o):∃u,H a=some u:=by
 cases o with
 |lst ds=>obtain⟨_,h,_⟩:=h;exact⟨_,h⟩|ins c fs=>obtain⟨_,_,h,_⟩:=h;exact⟨_,h⟩|dct ks=>obtain⟨_,h,_⟩:=h;exact⟨_,h⟩|exc x=>exact⟨_,h⟩|dfz ks=>obtain⟨_,_,h,_⟩:=h;exact⟨_,h⟩|dcn t ks=>obtain⟨_,h,_⟩:=h;exact⟨_,h⟩|dcf t ks=>obtain⟨_,_,h,_⟩:=h;exact⟨_,h⟩
theorem GRep.known(r:GRep K ca μ H g)(h:a∈μ):∃u,H a=some u:=by
 obtain⟨n,hn⟩:=List.getElem?_of_mem h;have hl:n<μ.length:=(Um.mp hn).1;have hg:n<g.length:=by rw[<-r.len];exact hl
 exact(r.obj n a g[n] hn (by simp[hg])).is
theorem QM(hp:H p=none):Ext K μ H μ (upd H p o):=⟨⟨[],by simp⟩,λa xs h=>by
 rcases h with(h|⟨u,h⟩)|h
 ·exact .inl (.inl (by rw[Qo (Qy h hp)];exact h))
 ·exact .inl (.inr ⟨u,by rw[Qo (Qy h hp)];exact h⟩)
 ·exact .inr h,λa xs h=>by
 rcases h with⟨u,h⟩|h
 ·exact .inl ⟨u,by rw[Qo (Qy h hp)];exact h⟩
 ·exact .inr h,λa o u h=>by rw[Qo (Qy h hp)];exact h⟩
theorem ORep.mono(e:Ext K μ H μ' H')(ha:∀u,H a=some u->H' a=some u)(h:ORep K ca μ H a o):ORep K ca μ' H' a o:=by
 cases o with
 |lst ds=>obtain⟨vs,h,q⟩:=h;exact⟨vs,ha _ h,q.mono e⟩|ins c fs=>obtain⟨dx,fv,h,q⟩:=h;exact⟨dx,fv,ha _ h,q.mono e⟩|dct ks=>obtain⟨kv,h,q⟩:=h;exact⟨kv,ha _ h,q.mono e⟩|exc x=>exact ha _ h|dfz ks=>obtain⟨o,kv,h,q⟩:=h;exact⟨o,kv,ha _ h,q.mono e⟩|dcn t ks=>obtain⟨xs,h,q,r⟩:=h;exact⟨xs,ha _ h,q.mono e,r⟩|dcf t ks=>obtain⟨o,xs,h,q,r⟩:=h;exact⟨o,xs,ha _ h,q.mono e,r⟩
theorem GRep.new(r:GRep K ca μ H g)(hp:H p=none):GRep K ca μ (upd H p o) g:=⟨r.len,r.nd,λn a u h1 h2=>(r.obj n a u h1 h2).mono (QM hp) λz hz=>by rw[Qo (Qy hz hp)];exact hz⟩
theorem Qx(hp:H p=none):Ext K μ H (μ++[p]) (upd H p o):=⟨⟨[p],rfl⟩,(QM (μ:=μ) hp).tup,(QM (μ:=μ) hp).fl,(QM (K:=K) (μ:=μ) hp).frz⟩
theorem GRep.push(r:GRep K ca μ H g)(hp:H p=none)(ho:ORep K ca (μ++[p]) (upd H p o) p u):GRep K ca (μ++[p]) (upd H p o) (g++[u]):=by
 have nm:p∉μ:=λh=>by obtain⟨z,hz⟩:=r.known h;rw[hp]at hz;cases hz
 refine⟨by rw[Us,Us,r.len];rfl,?_,λn a w h1 h2=>?_⟩
 ·rw[Rm];exact⟨r.nd,by simp,λx hx y hy e=>nm (by rw[Uj.mp hy]at e;rw[<-e];exact hx)⟩
 ·by_cases hn:n<g.length
  ·rw[Ul hn]at h2;rw[Ul (by rw[r.len];exact hn)]at h1;exact(r.obj n a w h1 h2).mono (Qx hp) λz hz=>by rw[Qo (Qy hz hp)];exact hz
  ·rw[UE (by omega)]at h2;rw[UE (by rw[r.len];omega)]at h1;have e0:n-g.length=0:=by have:=(Um.mp h2).1;simp at this;omega
   rw[e0]at h2;rw[r.len,e0]at h1;simp at h1 h2;subst h1 h2;exact ho
theorem ZP(h:H a=some o)(no:∀xs,o≠.tup xs)(nf:∀b u,o≠.frz b u):Ext K μ H μ (upd H a o'):=⟨⟨[],by simp⟩,λb xs hb=>by
 rcases hb with(z|⟨u,z⟩)|z
 ·exact .inl (.inl (by rw[Qo (QcZ z h (Ne.symm (no xs)))];exact z))
 ·exact .inl (.inr ⟨u,by rw[Qo (QcZ z h (Ne.symm (nf u _)))];exact z⟩)
 ·exact .inr z,λb xs hb=>by
 rcases hb with⟨u,z⟩|z
 ·exact .inl ⟨u,by rw[Qo (QcZ z h (Ne.symm (nf u _)))];exact z⟩
 ·exact .inr z,λb u v z=>by rw[Qo (QcZ z h (Ne.symm (nf u v)))];exact z⟩
theorem GRep.set(r:GRep K ca μ H g)(hn:μ[n]?=some a)(h:H a=some o)(no:∀xs,o≠.tup xs)(nf:∀b u,o≠.frz b u)(ho:ORep K ca μ (upd H a o') a u):
  GRep K ca μ (upd H a o') (g.set n u):=by
 refine⟨by rw[UK,r.len],r.nd,λm b w h1 h2=>?_⟩;by_cases e:m=n
 ·subst e;rw[hn]at h1;cases h1;have hl:m<g.length:=by rw[<-r.len];exact(Um.mp hn).1
  rw[UP hl]at h2;cases h2;exact ho
 ·rw[Uh (Ne.symm e)]at h2;have nb:b≠a:=λz=>by subst z;have e1:=(Um.mp h1);have e2:=(Um.mp hn);obtain⟨l1,q1⟩:=e1;obtain⟨l2,q2⟩:=e2;exact e ((BJ r.nd).mp (q1.trans q2.symm))
  exact(r.obj m b w h1 h2).mono (ZP h no nf) λz hz=>by rw[Qo nb];exact hz
abbrev XS:=Xc->L2.St->Hp->Prop
def FpW(X:Cx)(pins:LAO)(H:Hp)(b:Addr):Prop:=H b=none/\b≠X.env.locals/\b∉X.fs/\(b∈X.ex\/X.s₀.heap.get? b=none)/\(∀x c,X.env.cells.lookup x=some c->c≠b)/\∀p∈X.pn++pins,p.1≠b
structure Fl(X:Cx)(ca:Nat->Addr)(a:Addr)(x:Xc)(H:Hp)(h:Heap):Prop where
 fp:FpW X [] H a
 ln:x.2=none
 ex:∃oe vs,h.get? a=some oe/\XOb ca x oe/\oe.data=.fields vs/\1<vs.size/\(vs[1]?=some .none\/∃T oT ts,vs[1]?=some (.ref T)/\T≠a/\FpW X [] H T/\h.get? T=some oT/\oT.data=.fields ts/\3<ts.size/\(ts[3]?=some .none\/ts[3]?=some (rawInt X.env.locals)))
def XE(X:Cx)(ca:Nat->Addr)(Φ:XS):Value->Shared->Prop:=λv s=>∃a x σ H,v=.ref a/\Inv X [] σ H s/\Fl X ca a x H s.heap/\Φ x σ H
abbrev xon(X:Cx)(pn:LAO):Cx:={X with pn:=pn,xe:=λ_ _=>False}
abbrev xat(X:Cx)(ca:Nat->Addr)(pn:LAO)(Φ:XS):Cx:={X with pn:=pn,xe:=XE (xon X pn) ca Φ}
def RaP(K:Frag)(ca:Nat->Addr)(Φ:XS)(σ:L2.St)(H:Hp)(μ:List Addr)(x:Xc)(g':G):Prop:=∀H' μ',Ext K μ H μ' H'->GRep K ca μ' H' g'->Φ x σ H'
def Post(K:Frag)(ca:Nat->Addr)(Φ:XS)(σ:L2.St)(Q:VK)(H:Hp)(μ:List Addr):Res D->Prop
 |.ok d g'=>∀v H' μ',Ext K μ H μ' H'->GRep K ca μ' H' g'->Den K μ' H' v d->Q v H'|.raise x g'=>RaP K ca Φ σ H μ x g'|.stuck=>False
def PostT(K:Frag)(ca:Nat->Addr)(Φ:XS)(σ:L2.St)(Q:Bool->Hp->Prop)(H:Hp)(μ:List Addr):Res Bool->Prop
 |.ok b g'=>∀H' μ',Ext K μ H μ' H'->GRep K ca μ' H' g'->Q b H'|.raise x g'=>RaP K ca Φ σ H μ x g'|.stuck=>False
def PostA(K:Frag)(ca:Nat->Addr)(Φ:XS)(σ:L2.St)(Q:List V->Hp->Prop)(H:Hp)(μ:List Addr):Res (List D)->Prop
 |.ok ds g'=>∀vs H' μ',Ext K μ H μ' H'->GRep K ca μ' H' g'->Dens K μ' H' vs ds->Q vs H'|.raise x g'=>RaP K ca Φ σ H μ x g'|.stuck=>False
def PostS(K:Frag)(ca:Nat->Addr)(Φ:XS)(E:Ends)(H:Hp)(μ:List Addr):Out->Prop
 |.nx σ3 g'=>∀σ' H' μ',Ext K μ H μ' H'->Rep K ca μ' σ3 g' σ' H'->E.nx σ' H'|.bk σ3 g'=>∀σ' H' μ',Ext K μ H μ' H'->Rep K ca μ' σ3 g' σ' H'->E.bk σ' H'|.ct σ3 g'=>∀σ' H' μ',Ext K μ H μ' H'->Rep K ca μ' σ3 g' σ' H'->E.ct σ' H'|.rt d g'=>∀v H' μ',Ext K μ H μ' H'->GRep K ca μ' H' g'->Den K μ' H' v d->E.rt v H'|.raise x σ3 g'=>∀σ' H' μ',Ext K μ H μ' H'->Rep K ca μ' σ3 g' σ' H'->Φ x σ' H'|.stuck=>False
def up(K:Frag)(ca:Nat->Addr)(Φ:XS)(m:ME):TE:=λσ H Q=>∃σ3 g μ,Rep K ca μ σ3 g σ H/\Post K ca Φ σ Q H μ (m σ3 g)
def upT(K:Frag)(ca:Nat->Addr)(Φ:XS)(m:MT):TT:=λσ H Q=>∃σ3 g μ,Rep K ca μ σ3 g σ H/\PostT K ca Φ σ Q H μ (m σ3 g)
def upA(K:Frag)(ca:Nat->Addr)(Φ:XS)(m:MA):TA:=λσ H Q=>∃σ3 g μ,Rep K ca μ σ3 g σ H/\PostA K ca Φ σ Q H μ (m σ3 g)
def upS(K:Frag)(ca:Nat->Addr)(Φ:XS)(m:MS):TS:=λE σ H=>∃σ3 g μ,Rep K ca μ σ3 g σ H/\PostS K ca Φ E H μ (m σ3 g)
def PE3(ca:Nat->Addr)(X:Cx)(e:Expr)(m:ME):Prop:=∀pn Φ,PE (xat X ca pn Φ) e (up X.K ca Φ m)
def PT3(ca:Nat->Addr)(X:Cx)(e:Expr)(m:MT):Prop:=∀pn Φ,PT (xat X ca pn Φ) e (upT X.K ca Φ m)
def PW3(ca:Nat->Addr)(X:Cx)(e:Expr)(m:MT):Prop:=∀pn Φ,PW (xat X ca pn Φ) e (upT X.K ca Φ m)
def PA3(ca:Nat->Addr)(X:Cx)(es:List Expr)(m:MA):Prop:=∀pn Φ,PA (xat X ca pn Φ) es (upA X.K ca Φ m)
def PS3(ca:Nat->Addr)(X:Cx)(st:Stmt)(m:MS):Prop:=∀pn Φ,PS (xat X ca pn Φ) st (upS X.K ca Φ m)
def PSs3(ca:Nat->Addr)(X:Cx)(sts:List Stmt)(m:MS):Prop:=∀pn Φ,PSs (xat X ca pn Φ) sts (upS X.K ca Φ m)
variable{Φ:XS}{σ:L2.St}
theorem RaP.go(e:Ext K μ H μ' H')(h:RaP K ca Φ σ H μ x g'):RaP K ca Φ σ H' μ' x g':=λH2 μ2 e2=>h H2 μ2 (e.trans e2)
theorem Post.go(e:Ext K μ H μ' H')(h:Post K ca Φ σ Q H μ r):Post K ca Φ σ Q H' μ' r:=by
 cases r with
 |ok d g'=>exact λv H2 μ2 e2=>h v H2 μ2 (e.trans e2)
 |raise _ _=>exact RaP.go e h|stuck=>exact h
theorem PostT.go(e:Ext K μ H μ' H')(h:PostT K ca Φ σ Q H μ r):PostT K ca Φ σ Q H' μ' r:=by
 cases r with
 |ok d g'=>exact λH2 μ2 e2=>h H2 μ2 (e.trans e2)
 |raise _ _=>exact RaP.go e h|stuck=>exact h
theorem PostA.go(e:Ext K μ H μ' H')(h:PostA K ca Φ σ Q H μ r):PostA K ca Φ σ Q H' μ' r:=by
 cases r with
 |ok d g'=>exact λv H2 μ2 e2=>h v H2 μ2 (e.trans e2)
 |raise _ _=>exact RaP.go e h|stuck=>exact h
theorem PostS.go(e:Ext K μ H μ' H')(h:PostS K ca Φ E H μ r):PostS K ca Φ E H' μ' r:=by
 cases r with
 |nx _ _=>exact λv H2 μ2 e2=>h v H2 μ2 (e.trans e2)
 |bk _ _=>exact λv H2 μ2 e2=>h v H2 μ2 (e.trans e2)
 |ct _ _=>exact λv H2 μ2 e2=>h v H2 μ2 (e.trans e2)
 |rt _ _=>exact λv H2 μ2 e2=>h v H2 μ2 (e.trans e2)
 |raise _ _ _=>exact λv H2 μ2 e2=>h v H2 μ2 (e.trans e2)
 |stuck=>exact h
theorem Post.pure(h:Post K ca Φ σ Q H μ (.ok d g))(r:GRep K ca μ H g)(q:Den K μ H v d):Q v H:=h v H μ .refl r q
theorem RaP.stmt(R:Rep K ca μ σ3 g σ H)(h:PostS K ca Φ E H μ (.raise x σ3 g')):RaP K ca Φ σ H μ x g':=λH' μ' e r=>h σ H' μ' e (R.go e r)
theorem Qe6{m:ME}{α:Type}{k:D->G->Res α}{σ3:S3}{g:G}(R:Rep K ca μ σ3 g σ H){P:Res α->Hp->List Addr->Prop}(hp:P ((m σ3 g).bind k) H μ)(hst:∀H μ,¬P .stuck H μ)(hra:∀e g H μ,P (.raise e g) H μ->RaP K ca Φ σ H μ e g)(hgo:∀r H μ H' μ',Ext K μ H μ' H'->P r H μ->P r H' μ'):
  up K ca Φ m σ H λx H1=>∃d g1 μ1,Ext K μ H μ1 H1/\Rep K ca μ1 σ3 g1 σ H1/\Den K μ1 H1 x d/\P (k d g1) H1 μ1:=by
 refine⟨σ3,g,μ,R,?_⟩;cases hm:m σ3 g with
 |ok d g1 =>rw[hm]at hp;exact λv H1 μ1 e1 r1 d1=>⟨d,g1,μ1,e1,R.go e1 r1,d1,hgo _ _ _ _ _ e1 hp⟩
 |raise e g1=>rw[hm]at hp;exact hra _ _ _ _ hp|stuck=>rw[hm]at hp;exact(hst _ _ hp).elim
theorem Y7(R:Rep K ca μ σ3 g σ H)(hp:Post K ca Φ σ Q H μ ((m σ3 g).bind k)):
  up K ca Φ m σ H λx H1=>∃d g1 μ1,Ext K μ H μ1 H1/\Rep K ca μ1 σ3 g1 σ H1/\Den K μ1 H1 x d/\Post K ca Φ σ Q H1 μ1 (k d g1):=Qe6 (P:=λr H μ=>Post K ca Φ σ Q H μ r) R hp (λ_ _ h=>h) (λ_ _ _ _ h=>h) λ_ _ _ _ _ e h=>h.go e
theorem Qom(R:Rep K ca μ σ3 g σ H)(hp:PostT K ca Φ σ Q H μ ((m σ3 g).bind k)):
  up K ca Φ m σ H λx H1=>∃d g1 μ1,Ext K μ H μ1 H1/\Rep K ca μ1 σ3 g1 σ H1/\Den K μ1 H1 x d/\PostT K ca Φ σ Q H1 μ1 (k d g1):=Qe6 (P:=λr H μ=>PostT K ca Φ σ Q H μ r) R hp (λ_ _ h=>h) (λ_ _ _ _ h=>h) λ_ _ _ _ _ e h=>h.go e
theorem Qmn(R:Rep K ca μ σ3 g σ H)(hp:PostA K ca Φ σ Q H μ ((m σ3 g).bind k)):
  up K ca Φ m σ H λx H1=>∃d g1 μ1,Ext K μ H μ1 H1/\Rep K ca μ1 σ3 g1 σ H1/\Den K μ1 H1 x d/\PostA K ca Φ σ Q H1 μ1 (k d g1):=Qe6 (P:=λr H μ=>PostA K ca Φ σ Q H μ r) R hp (λ_ _ h=>h) (λ_ _ _ _ h=>h) λ_ _ _ _ _ e h=>h.go e
theorem QfY{m:MT}{α:Type}{k:Bool->G->Res α}{σ3:S3}{g:G}(R:Rep K ca μ σ3 g σ H){P:Res α->Hp->List Addr->Prop}(hp:P ((m σ3 g).bind k) H μ)(hst:∀H μ,¬P .stuck H μ)(hra:∀e g H μ,P (.raise e g) H μ->RaP K ca Φ σ H μ e g)(hgo:∀r H μ H' μ',Ext K μ H μ' H'->P r H μ->P r H' μ'):
  upT K ca Φ m σ H λb H1=>∃g1 μ1,Ext K μ H μ1 H1/\Rep K ca μ1 σ3 g1 σ H1/\P (k b g1) H1 μ1:=by
 refine⟨σ3,g,μ,R,?_⟩;cases hm:m σ3 g with
 |ok d g1 =>rw[hm]at hp;exact λH1 μ1 e1 r1=>⟨g1,μ1,e1,R.go e1 r1,hgo _ _ _ _ _ e1 hp⟩
 |raise e g1=>rw[hm]at hp;exact hra _ _ _ _ hp|stuck=>rw[hm]at hp;exact(hst _ _ hp).elim
theorem Qon(R:Rep K ca μ σ3 g σ H)(hp:Post K ca Φ σ Q H μ ((m σ3 g).bind k)):
  upT K ca Φ m σ H λb H1=>∃g1 μ1,Ext K μ H μ1 H1/\Rep K ca μ1 σ3 g1 σ H1/\Post K ca Φ σ Q H1 μ1 (k b g1):=QfY (P:=λr H μ=>Post K ca Φ σ Q H μ r) R hp (λ_ _ h=>h) (λ_ _ _ _ h=>h) λ_ _ _ _ _ e h=>h.go e
theorem Qh3(R:Rep K ca μ σ3 g σ H)(hp:PostT K ca Φ σ Q H μ ((m σ3 g).bind k)):
  upT K ca Φ m σ H λb H1=>∃g1 μ1,Ext K μ H μ1 H1/\Rep K ca μ1 σ3 g1 σ H1/\PostT K ca Φ σ Q H1 μ1 (k b g1):=QfY (P:=λr H μ=>PostT K ca Φ σ Q H μ r) R hp (λ_ _ h=>h) (λ_ _ _ _ h=>h) λ_ _ _ _ _ e h=>h.go e
theorem QfZ{m:MA}{α:Type}{k:List D->G->Res α}{σ3:S3}{g:G}(R:Rep K ca μ σ3 g σ H){P:Res α->Hp->List Addr->Prop}(hp:P ((m σ3 g).bind k) H μ)(hst:∀H μ,¬P .stuck H μ)(hra:∀e g H μ,P (.raise e g) H μ->RaP K ca Φ σ H μ e g)(hgo:∀r H μ H' μ',Ext K μ H μ' H'->P r H μ->P r H' μ'):
  upA K ca Φ m σ H λxs H1=>∃ds g1 μ1,Ext K μ H μ1 H1/\Rep K ca μ1 σ3 g1 σ H1/\Dens K μ1 H1 xs ds/\P (k ds g1) H1 μ1:=by
 refine⟨σ3,g,μ,R,?_⟩;cases hm:m σ3 g with
 |ok d g1 =>rw[hm]at hp;exact λv H1 μ1 e1 r1 d1=>⟨d,g1,μ1,e1,R.go e1 r1,d1,hgo _ _ _ _ _ e1 hp⟩
 |raise e g1=>rw[hm]at hp;exact hra _ _ _ _ hp|stuck=>rw[hm]at hp;exact(hst _ _ hp).elim
theorem QbM(R:Rep K ca μ σ3 g σ H)(hp:Post K ca Φ σ Q H μ ((m σ3 g).bind k)):
  upA K ca Φ m σ H λxs H1=>∃ds g1 μ1,Ext K μ H μ1 H1/\Rep K ca μ1 σ3 g1 σ H1/\Dens K μ1 H1 xs ds/\Post K ca Φ σ Q H1 μ1 (k ds g1):=QfZ (P:=λr H μ=>Post K ca Φ σ Q H μ r) R hp (λ_ _ h=>h) (λ_ _ _ _ h=>h) λ_ _ _ _ _ e h=>h.go e
theorem Qlf(R:Rep K ca μ σ3 g σ H)(hp:PostA K ca Φ σ Q H μ ((m σ3 g).bind k)):
  upA K ca Φ m σ H λxs H1=>∃ds g1 μ1,Ext K μ H μ1 H1/\Rep K ca μ1 σ3 g1 σ H1/\Dens K μ1 H1 xs ds/\PostA K ca Φ σ Q H1 μ1 (k ds g1):=QfZ (P:=λr H μ=>PostA K ca Φ σ Q H μ r) R hp (λ_ _ h=>h) (λ_ _ _ _ h=>h) λ_ _ _ _ _ e h=>h.go e
theorem QN(h:up K ca Φ m σ H Q)(i:∀x H1,Q x H1->Q' x H1):up K ca Φ m σ H Q':=by
 obtain⟨σ3,g,μ,R,p⟩:=h;refine⟨σ3,g,μ,R,?_⟩;cases hm:m σ3 g with
 |ok d g1=>rw[hm]at p;exact λv H1 μ1 e r q=>i _ _ (p v H1 μ1 e r q)
 |raise e g1=>rw[hm]at p;exact p|stuck=>rw[hm]at p;exact p
theorem Qbr(h:upT K ca Φ m σ H Q)(i:∀x H1,Q x H1->Q' x H1):upT K ca Φ m σ H Q':=by
 obtain⟨σ3,g,μ,R,p⟩:=h;refine⟨σ3,g,μ,R,?_⟩;cases hm:m σ3 g with
 |ok d g1=>rw[hm]at p;exact λH1 μ1 e r=>i _ _ (p H1 μ1 e r)
 |raise e g1=>rw[hm]at p;exact p|stuck=>rw[hm]at p;exact p
theorem Yf(h:upA K ca Φ m σ H Q)(i:∀x H1,Q x H1->Q' x H1):upA K ca Φ m σ H Q':=by
 obtain⟨σ3,g,μ,R,p⟩:=h;refine⟨σ3,g,μ,R,?_⟩;cases hm:m σ3 g with
 |ok d g1=>rw[hm]at p;exact λv H1 μ1 e r q=>i _ _ (p v H1 μ1 e r q)
 |raise e g1=>rw[hm]at p;exact p|stuck=>rw[hm]at p;exact p
end
theorem QS(h:PE X e t)(i:∀σ H Q,t' σ H Q->t σ H Q):PE X e t':=λpins s σ H Q I q=>h pins s σ H Q I (i σ H Q q)
theorem Qe7(h:PT X e t)(i:∀σ H Q,t' σ H Q->t σ H Q):PT X e t':=λpins s σ H Q I q=>h pins s σ H Q I (i σ H Q q)
theorem Qh4(h:PW X e t)(i:∀σ H Q,t' σ H Q->t σ H Q):PW X e t':=λw pins s σ H Q I q=>h w pins s σ H Q I (i σ H Q q)
theorem Qh5(h:PA X e t)(i:∀σ H Q,t' σ H Q->t σ H Q):PA X e t':=λp pins s σ H Q I q=>h p pins s σ H Q I (i σ H Q q)
theorem Z2(h:PS X e t)(i:∀D σ H,t' D σ H->t D σ H):PS X e t':=λpins s σ H D I q=>h pins s σ H D I (i D σ H q)
theorem Qf0(h:PSs X e t)(i:∀D σ H,t' D σ H->t D σ H):PSs X e t':=λpins s σ H D I q=>h pins s σ H D I (i D σ H q)
section
variable{X:Cx}{ca:Nat->Addr}{a b c e:Expr}{es rest:List Expr}{ma mb me:ME}{tc ta tb:MT}{mr:MA}{pos:Pos}
theorem Qb(i:Nat){x:Str}(hN:X.N[i]?=some x:=by rfl)(hv:Vis X.env.scope x:=by first|exact Or.inl rfl|exact Or.inr (Or.inl rfl)|exact Or.inr (Or.inr rfl))(hd:(x==("__debug__" : Str))=false:=by decide)(hcd:(x==("__classdict__" : Str))=false:=by decide):PE3 ca X (.Name x pos) (mVar i):=
 λpn Φ=>QS (Qnn (X:=xat X ca pn Φ) hN hv hd hcd) λσ H Q hQ=>by
  obtain⟨σ3,g,μ,R,p⟩:=hQ;unfold mVar at p;cases e:σ3[i]? with
  |none=>rw[e]at p;exact p.elim|some o=>
   cases o with
   |none=>rw[e]at p;exact p.elim|some d =>rw[e]at p;obtain⟨v,h1,h2⟩:=R.st i d e;exact⟨v,h1,p v H μ .refl R.g h2⟩
theorem Qh6(h:∀pn Φ,PE (xat X ca pn Φ) e (tC v))(hd:∀K μ H,Den K μ H v d):PE3 ca X e (mLit d):=λpn Φ=>QS (h pn Φ) λ_ H _ ⟨_,_,μ,R,p⟩=>p v H μ .refl R.g (hd _ _ _)
theorem Ql  : PE3 ca X (.Constant (.int i) j pos) (mLit (.int i)):=Qh6 (λ_ _=>Qno) λ_ _ _=>.int i
theorem Yp  : PE3 ca X (.Constant (.str x) j pos) (mLit (.str x)):=Qh6 (λ_ _=>Qnq) λ_ _ _=>.str x
theorem r_bl  : PE3 ca X (.Constant (.bool x) j pos) (mLit (.bl x)):=Qh6 (λ_ _=>Qpe) λ_ _ _=>.bl x
theorem J9:PE3 ca X (.Constant .none j pos) (mLit .non):=Qh6 (λ_ _=>Qnp) λ_ _ _=>.non
theorem Qlg(hm:X.mg x=some u)(r:RelV v u)(hd':∀K μ H,Den K μ H v d)(hg:Gl X x:=by rfl)(hd:(x==("__debug__" : Str))=false:=by decide):PE3 ca X (.Name x pos) (mLit d):=Qh6 (λpn Φ=>Qc2 (X:=xat X ca pn Φ) hg hm r hd) hd'
def YR(K:Frag)(ca:Nat->Addr)(r:R2)(f:D->D->G->Res D):Prop:=∀(Φ:XS)(σ:L2.St)(H:Hp)(μ:List Addr)(g:G)(x y:V)(dx dy:D)(Q:VK),GRep K ca μ H g->Den K μ H x dx->Den K μ H y dy->Post K ca Φ σ Q H μ (f dx dy g)->r x y H Q
theorem Qf1{K:Frag}{Φ:XS}{r:R2}{f:D->D->G->Res D}(hp:YR K ca r f)(σ:L2.St)(H:Hp)(Q:VK)(h:up K ca Φ (mOp2 f ma mb) σ H Q):tOp r (up K ca Φ ma) (up K ca Φ mb) σ H Q:=by obtain⟨σ3,g,μ,R,p⟩:=h;refine QN (Y7 R p) λx H1 ⟨dx,g1,μ1,e1,R1,q1,p1⟩=>?_;refine QN (Y7 R1 p1) λy H2 ⟨dy,g2,μ2,e2,R2,q2,p2⟩=>?_;exact hp Φ σ H2 μ2 g2 x y dx dy Q R2.g (q1.mono e2) q2 p2
theorem QgU(ho:∀pn Φ,OpR (xat X ca pn Φ) (binaryOp op) r)(hp:YR X.K ca r f)(ha:PE3 ca X a ma)(hb:PE3 ca X b mb):PE3 ca X (.BinOp a op b pos) (mOp2 f ma mb):=λpn Φ=>QS (Qpo (ho pn Φ) (ha pn Φ) (hb pn Φ)) (Qf1 hp)
theorem Qj9(ho:∀pn Φ,OpR (xat X ca pn Φ) (compareOp op) r)(hp:YR X.K ca r f)(ha:PE3 ca X a ma)(hb:PE3 ca X b mb)(hm:behindInMarks op b=false):PE3 ca X (.Compare a [op] [b] pos) (mOp2 f ma mb):=λpn Φ=>QS (Ql2 (ho pn Φ) (ha pn Φ) (hb pn Φ) hm) (Qf1 hp)
theorem r_ix(ho:∀pn Φ,IxR (xat X ca pn Φ) r)(hp:YR X.K ca r f)(ha:PE3 ca X a ma)(hb:PE3 ca X b mb)(hs:Qc6 b:=by exact λ_ _=>rfl):PE3 ca X (.Subscript a b pos) (mOp2 f ma mb):=λpn Φ=>QS (Qpw (ho pn Φ) (ha pn Φ) (hb pn Φ) hs) (Qf1 hp)
theorem r_un{op:UnaryOp}{r:V->Hp->VK->Prop}{f:D->G->Res D}(ho:∀pn Φ,UnR (xat X ca pn Φ) (unaryOp op) r)(hp:∀(Φ:XS) (σ:L2.St) (H:Hp) (μ:List Addr) (g:G) (x:V) (dx:D) (Q:VK),GRep X.K ca μ H g->Den X.K μ H x dx->Post X.K ca Φ σ Q H μ (f dx g)->r x H Q)(ha:PE3 ca X a ma):PE3 ca X (.UnaryOp op a pos) (mOp1 f ma):=λpn Φ=>QS (Qpp (ho pn Φ) (ha pn Φ)) λσ H Q ⟨σ3,g,μ,R,p⟩=>QN (Y7 R p) λx H1 ⟨dx,g1,μ1,e1,R1,q1,p1⟩=>hp Φ σ H1 μ1 g1 x dx Q R1.g q1 p1
theorem Qm:PA3 ca X [] mNil:=λpn Φ=>Qh5 (Qcw (X:=xat X ca pn Φ)) λ_ H _ ⟨_,_,μ,R,p⟩=>p [] H μ .refl R.g .nil
theorem Jf(ha:PE3 ca X e me)(hr:PA3 ca X es mr)(hs:starEach (e::es) X.env=(false,eval e X.env)::starEach es X.env:=by rfl):PA3 ca X (e::es) (Qa me mr):=λpn Φ=>Qh5 (Yl (X:=xat X ca pn Φ) (ha pn Φ) (hr pn Φ) hs) λσ H Q ⟨σ3,g,μ,R,p⟩=>QN (Qmn R p) λx H1 ⟨d,g1,μ1,e1,R1,q1,p1⟩=>
  Yf (Qlf R1 p1) λxs H2 ⟨ds,g2,μ2,e2,R2,q2,p2⟩=>p2 (x::xs) H2 μ2 .refl R2.g (.cons (q1.mono e2) q2)
theorem ZC(ha:PE3 ca X a ma)(he:∀whole,isTrue a X.env whole=(do let v <-whole;standAt a.pos;holding [v] (truthy v)):=by intro _;rfl):PT3 ca X a (Qj ma):=
 λpn Φ=>Qe7 (Qnr (X:=xat X ca pn Φ) (ha pn Φ) he) λσ H Q ⟨σ3,g,μ,R,p⟩=>QN (Qom R p) λx H1 hQ=>by
  obtain⟨d,g1,μ1,e1,R1,q1,p1⟩:=hQ;cases q1 with
  |bl b=>exact⟨b,rfl,p1 H1 μ1 .refl R1.g⟩|_=>exact p1.elim
theorem Jl(ho:∀pn Φ,OpR (xat X ca pn Φ) (compareOp op) r)(hp:YR X.K ca r f)(ha:PE3 ca X a ma)(hb:PE3 ca X b mb)(hm:behindInMarks op b=false):PT3 ca X (.Compare a [op] [b] pos) (Qj (mOp2 f ma mb)):=
 λpn Φ=>Qe7 (Ql3 (ho pn Φ) (ha pn Φ) (hb pn Φ) hm) λσ H Q hQ=>by
  obtain⟨σ3,g,μ,R,p⟩:=hQ;have q:up X.K ca Φ (mOp2 f ma mb) σ H λx H'=>∃k,x=.bl k/\Q k H':=QN (Qom R p) λx H1 hQ=>by
   obtain⟨d,g1,μ1,e1,R1,q1,p1⟩:=hQ;cases q1 with
   |bl b=>exact⟨b,rfl,p1 H1 μ1 .refl R1.g⟩|_=>exact p1.elim
  exact Qf1 hp σ H _ q
theorem Jg(ha:PT3 ca X a ta):PT3 ca X (.UnaryOp .Not a pos) (Yn ta):=λpn Φ=>Qe7 (Qnu (X:=xat X ca pn Φ) (ha pn Φ)) λσ H Q ⟨σ3,g,μ,R,p⟩=>Qbr (Qh3 R p) λb H1 ⟨g1,μ1,e1,R1,p1⟩=>p1 H1 μ1 .refl R1.g
theorem Qe8(ha:PT3 ca X a ta):PW3 ca X (.BoolOp .And [a] pos) ta:=λpn Φ=>QlU (X:=xat X ca pn Φ) (ha pn Φ)
theorem Qao(ha:PT3 ca X a ta):PW3 ca X (.BoolOp .Or [a] pos) ta:=λpn Φ=>Qns (X:=xat X ca pn Φ) (ha pn Φ)
theorem Qh7(ha:PT3 ca X a ta)(hb:PW3 ca X (.BoolOp .And (b::rest) pos) tb):PW3 ca X (.BoolOp .And (a::b::rest) pos) (Qco ta tb):=
 λpn Φ=>Qh4 (Qnt (X:=xat X ca pn Φ) (ha pn Φ) (hb pn Φ)) λσ H Q ⟨σ3,g,μ,R,p⟩=>Qbr (Qh3 R p) λb H1 hQ=>by
  obtain⟨g1,μ1,e1,R1,p1⟩:=hQ;cases b with
  |true=>rw[Ue rfl]at p1 ⊢;exact⟨σ3,g1,μ1,R1,p1⟩|false=>rw[Uf Ui]at p1 ⊢;exact p1 H1 μ1 .refl R1.g
theorem Qdl(ha:PT3 ca X a ta)(hb:PW3 ca X (.BoolOp .Or (b::rest) pos) tb):PW3 ca X (.BoolOp .Or (a::b::rest) pos) (mOrT ta tb):=
 λpn Φ=>Qh4 (Qpf (X:=xat X ca pn Φ) (ha pn Φ) (hb pn Φ)) λσ H Q ⟨σ3,g,μ,R,p⟩=>Qbr (Qh3 R p) λb H1 hQ=>by
  obtain⟨g1,μ1,e1,R1,p1⟩:=hQ;cases b with
  |true=>rw[Ue rfl]at p1 ⊢;exact p1 H1 μ1 .refl R1.g|false=>rw[Uf Ui]at p1 ⊢;exact⟨σ3,g1,μ1,R1,p1⟩
theorem r_w(h:PW3 ca X e ta):PT3 ca X e ta:=λpn Φ=>(h pn Φ).pt
theorem Qoo(ha:PE3 ca X a ma):PE3 ca X (.UnaryOp .Not a pos) (mNot ma):=
 λpn Φ=>QS (Qnx (X:=xat X ca pn Φ) (ha pn Φ)) λσ H Q ⟨σ3,g,μ,R,p⟩=>QN (Y7 R p) λx H1 hQ=>by
  obtain⟨d,g1,μ1,e1,R1,q1,p1⟩:=hQ;cases q1 with
  |bl b=>exact⟨b,rfl,p1 _ H1 μ1 .refl R1.g (.bl _)⟩|_=>exact p1.elim
theorem QgV(ha:PE3 ca X a ma):PE3 ca X (.BoolOp op [a] pos) ma:=λpn Φ=>Qnv (X:=xat X ca pn Φ) (ha pn Φ)
theorem Qem(ha:PE3 ca X a ma)(hb:PE3 ca X (.BoolOp .And (b::rest) pos) mb):PE3 ca X (.BoolOp .And (a::b::rest) pos) (mAnd ma mb):=
 λpn Φ=>QS (Qnw (X:=xat X ca pn Φ) (ha pn Φ) (hb pn Φ)) λσ H Q ⟨σ3,g,μ,R,p⟩=>QN (Y7 R p) λx H1 hQ=>by
  obtain⟨d,g1,μ1,e1,R1,q1,p1⟩:=hQ;cases q1 with
  |bl b=>
   refine⟨b,rfl,?_⟩;cases b with
   |true=>rw[Ue rfl];exact⟨σ3,g1,μ1,R1,p1⟩|false=>rw[Uf Ui];exact p1 _ H1 μ1 .refl R1.g (.bl _)
  |_=>exact p1.elim
theorem Qka(hc:PT3 ca X c tc)(ha:PE3 ca X a ma)(hb:PE3 ca X b mb):PE3 ca X (.IfExp c a b pos) (mIfE tc ma mb):=
 λpn Φ=>QS (QjQ (X:=xat X ca pn Φ) (hc pn Φ) (ha pn Φ) (hb pn Φ)) λσ H Q ⟨σ3,g,μ,R,p⟩=>Qbr (Qon R p) λb H1 hQ=>by
  obtain⟨g1,μ1,e1,R1,p1⟩:=hQ;cases b with
  |true=>rw[Ue rfl]at p1 ⊢;exact⟨σ3,g1,μ1,R1,p1⟩|false=>rw[Uf Ui]at p1 ⊢;exact⟨σ3,g1,μ1,R1,p1⟩
theorem ZQ:SZ<=sizeLine:=by rw[TU];decide
theorem Dens.sz{K:Frag}{μ:List Addr}{H:Hp}{vs:List V}{ds:List D}(h:Dens K μ H vs ds)(z:ds.length<=SZ):vs.length<=sizeLine:=by rw[h.length];exact Uk z ZQ
theorem Jm(h:PA3 ca X es mr):PE3 ca X (.Tuple es k pos) (mOpA pTup mr):=
 λpn Φ=>QS (Qk3 (X:=xat X ca pn Φ) (h pn Φ)) λσ H Q ⟨σ3,g,μ,R,p⟩=>Yf (QbM R p) λxs H1 hQ=>by
  obtain⟨ds,g1,μ1,e1,R1,q1,p1⟩:=hQ;unfold pTup at p1;by_cases z:ds.length<=SZ
  ·rw[Ue z]at p1;exact⟨q1.sz z,λt ht=>p1 _ _ μ1 (QM ht) (R1.g.new ht) (.tup (.of Qk) (q1.mono (QM ht)))⟩
  ·rw[Uf z]at p1;exact p1.elim
theorem Qbi(h:PA3 ca X es mr):PE3 ca X (.List es pos) (mOpA newL mr):=
 λpn Φ=>QS (QnO (X:=xat X ca pn Φ) (h pn Φ)) λσ H Q ⟨σ3,g,μ,R,p⟩=>Yf (QbM R p) λxs H1 hQ=>by
  obtain⟨ds,g1,μ1,e1,R1,q1,p1⟩:=hQ;unfold newL at p1;by_cases z:ds.length<=SZ
  ·rw[Ue z]at p1;refine⟨q1.sz z,λt ht=>p1 _ _ (μ1++[t]) (Qx ht) (R1.g.push ht ⟨xs,Qk,q1.mono (Qx ht)⟩) (.ref ?_)⟩;rw[<-R1.g.len];simp
  ·rw[Uf z]at p1;exact p1.elim
end
end L3
namespace L3
open PySem PySem.Spec PyProof.Rows L2
section
variable{X:Cx}{ca:Nat->Addr}{pins:LAO}{σ:L2.St}{H:Hp}{s:Shared}{a:Addr}{x:Xc}{E:VP}
theorem Qlh(I:Inv (xat X ca pn Φ) pins σ H s):Inv (xon X pn) pins σ H s:=(Inv.wish I λ_ _=>False)
theorem Qf2(I:Inv X pins σ H s)(hb:s.heap.get? b=none)(hn:H' b=none):FpW X pins H' b:=by
 refine⟨hn,λz=>?_,λz=>?_,?_,λx c e z=>?_,λp hp z=>?_⟩
 ·obtain⟨m,⟨o,_,_,ho,_⟩,_⟩:=I.loc;rw[z,ho]at hb;cases hb
 ·obtain⟨_,o,ho,_⟩:=I.funs.mem z;rw[ho]at hb;cases hb
 ·by_cases hx:b∈X.ex
  ·exact .inl hx
  ·refine .inr ?_;cases q:X.s₀.heap.get? b with
   |none=>rfl|some o =>obtain⟨o',e'⟩:=I.base.there b o q hx;rw[e']at hb;cases hb
 ·obtain⟨v,o,ho,_⟩:=I.cell x c e;rw[z,hb]at ho;cases ho
 ·rw[<-z,(I.pin p hp).1]at hb;cases hb
theorem Qen{H':Hp}{h':Heap}{g':Array GenState}{t':Nat}{d':Drawn}{ch:List Addr}(I:Inv X pins σ H s)(hch:∀b∈ch,(b∈X.ex\/X.s₀.heap.get? b=none)/\b≠X.env.locals/\(∀x c,X.env.cells.lookup x=some c->c≠b)/\∀p∈X.pn++pins,p.1≠b)(keep:∀b o,b≠X.env.locals->b∉X.fs->b∉ch->s.heap.get? b=some o->H b=none->h'.get? b=some o)(slot:∀b o,b≠X.env.locals->b∈X.fs->b∉ch->s.heap.get? b=some o->H b=none->∃sl,h'.get? b=some {o with slots:=sl})(free:∀b o,b∉ch->s.heap.get? b=some o->H b=none->H' b=none)(there:∀b o,b∉ch->s.heap.get? b=some o->∃o',h'.get? b=some o')(tups:∀b xs,H b=some (.tup xs)->H' b=some (.tup xs))(frzs:∀b o u,H b=some (.frz o u)->H' b=some (.frz o u))(tbls:∀b ps,H b=some (.tbl ps)->∃more,H' b=some (.tbl (ps++more)))(ns:∀m,s.heap.Ns X.env.locals m->h'.Ns X.env.locals m)(hok:HOk X.prog X.w H' h')(hg:AllBare g'):
  Inv X pins σ H' {s with heap:=h',gens:=g',drawn:=d',toks:=t'}:=by
 have neL:∀b o,X.s₀.heap.get? b=some o->b≠X.env.locals:=λb o e=>UR (UB (Uw e) I.ok.above);have neC:∀b o,X.s₀.heap.get? b=some o->b∉X.ex->b∉ch:=λb o e hx hb=>by
  rcases(hch b hb).1 with z|z
  ·exact hx z
  ·rw[z]at e;cases e
 have cellK:∀x c,X.env.cells.lookup x=some c->∀v,s.heap.IsCell c v->h'.IsCell c v:=λx c e v hQ=>by
  obtain⟨o,ho,hd⟩:=hQ;have nch:c∉ch:=λz=>(hch c z).2.2.1 x c e rfl;by_cases hc:c∈X.fs
  ·obtain⟨sl,q⟩:=slot c o (I.cne x c e) hc nch ho (I.freeC x c e);exact⟨_,q,hd⟩
  ·exact⟨o,keep c o (I.cne x c e) hc nch ho (I.freeC x c e),hd⟩
 refine⟨I.ok,I.os,hg,⟨λb o e n hb hx=>?_,λb o e n hb hx=>?_,λb o e n hx=>?_,λb o e hx=>?_,λb xs e=>tups b xs (I.base.tups b xs e),λb o xs e=>frzs b o xs (I.base.frzs b o xs e),λb ps e=>?_⟩,?_,λx c e=>?_,?_,λx c e=>?_,λp hp=>?_,hok,I.len⟩
 ·exact keep b o (neL b o e) hb (neC b o e hx) (I.base.keep b o e n hb hx) (I.base.free b o e n hx)
 ·obtain⟨sl,e1⟩:=I.base.slot b o e n hb hx;obtain⟨sl',e2⟩:=slot b _ (neL b o e) hb (neC b o e hx) e1 (I.base.free b o e n hx);exact⟨sl',e2⟩
 ·obtain⟨o',e1⟩:=I.base.there b o e hx;exact free b o' (neC b o e hx) e1 (I.base.free b o e n hx)
 ·obtain⟨o',e1⟩:=I.base.there b o e hx;exact there b o' (neC b o e hx) e1
 ·obtain⟨m1,e1⟩:=I.base.tbls b ps e;obtain⟨m2,e2⟩:=tbls b _ e1;exact⟨m1++m2,by rw[e2,Wv]⟩
 ·obtain⟨m,hn,hl⟩:=I.loc;refine⟨m,ns m hn,λi x v e1 e2 e3=>?_⟩;obtain⟨u,r,l⟩:=hl i x v e1 e2 e3;refine⟨u,r,?_⟩;rcases l with l|⟨k,c,e,z⟩
  ·exact .inl l
  ·exact .inr ⟨k,c,e,cellK x c e _ z⟩
 ·obtain⟨v,z⟩:=I.cell x c e;exact⟨v,cellK x c e v z⟩
 ·obtain⟨m,⟨o,_,_,ho,_⟩,_⟩:=I.loc;exact free _ o (λz=>(hch _ z).2.1 rfl) ho I.free
 ·obtain⟨v,o,ho,hd⟩:=I.cell x c e;exact free c o (λz=>(hch c z).2.2.1 x c e rfl) ho (I.freeC x c e)
 ·obtain⟨e,n,ne,nf,d⟩:=I.pin p hp;have nch:p.1∉ch:=λz=>(hch p.1 z).2.2.2 p hp rfl;exact⟨keep p.1 p.2 ne nf nch e n,free p.1 p.2 nch e n,ne,nf,d⟩
theorem Qf3{ch:List Addr}{h':Heap}(I:Inv X pins σ H s)(hch:∀b∈ch,FpW X pins H b)(keep:∀b o,b∉ch->b≠X.env.locals->b∉X.fs->s.heap.get? b=some o->h'.get? b=some o)(slot:∀b o,b∉ch->s.heap.get? b=some o->∃sl,h'.get? b=some {o with slots:=sl}):Inv X pins σ H {s with heap:=h'}:=by
 have nl:X.env.locals∉ch:=λz=>(hch _ z).2.1 rfl;have nt:∀b v,H b=some v->b∉ch:=λb v e z=>by rw[(hch b z).1]at e;cases e
 have nf:∀b v,H b=some v->b∉X.fs:=λb v e z=>by obtain⟨_,o,ho,_⟩:=I.ok.funs.mem z;have:=I.base.free b o ho (I.ok.frf b z) λq=>I.ok.exfs b q z;rw[this]at e;cases e
 have nL:∀b v,H b=some v->b≠X.env.locals:=λb v e z=>by rw[z,I.free]at e;cases e
 refine Qen (h':=h') (H':=H) (g':=s.gens) (t':=s.toks) (d':=s.drawn) (ch:=ch) I (λb hb=>⟨(hch b hb).2.2.2.1,(hch b hb).2.1,(hch b hb).2.2.2.2.1,(hch b hb).2.2.2.2.2⟩) (λb o h1 h2 h3 e _=>keep b o h3 h1 h2 e) (λb o _ _ h3 e _=>slot b o h3 e)
  (λb o _ _ n=>n) (λb o h e=>let ⟨sl,q⟩:=slot b o h e;⟨_,q⟩) (λb v e=>e) (λb o v e=>e) (λb ps e=>⟨#[],by rw[e];simp⟩) (λm hm=>?_) (λb v e=>?_) I.bare
 ·obtain⟨o,es,ep,ho,rr⟩:=hm;obtain⟨sl,q⟩:=slot _ o nl ho;exact⟨_,es,ep,q,rr⟩
 ·refine(I.hok b v e).stay (λc' v' hc' q=>?_) (λc' q=>q) λc' xs' q=>q;rcases hc' with rfl|hc'
  ·exact keep _ _ (nt _ _ e) (nL _ _ e) (nf _ _ e) q
  ·exact keep _ _ (nt _ _ hc') (nL _ _ hc') (nf _ _ hc') q
def FlN(X:Cx)(ca:Nat->Addr)(a:Addr)(x:Xc)(H:Hp)(h:Heap):Prop:=FpW X [] H a/\x.2=none/\∃oe vs T oT ts,h.get? a=some oe/\XOb ca x oe/\oe.data=.fields vs/\vs[1]?=some (.ref T)/\T≠a/\FpW X [] H T/\h.get? T=some oT/\oT.data=.fields ts/\ts[3]?=some (rawInt X.env.locals)
def FlT(X:Cx)(ca:Nat->Addr)(a:Addr)(x:Xc)(H:Hp)(h:Heap):Prop:=FpW X [] H a/\x.2=none/\∃oe vs T oT ts,h.get? a=some oe/\XOb ca x oe/\oe.data=.fields vs/\vs[1]?=some (.ref T)/\T≠a/\FpW X [] H T/\h.get? T=some oT/\oT.data=.fields ts/\3<ts.size
theorem FlN.t(f:FlN X ca a x H h):FlT X ca a x H h:=by obtain⟨f1,f2,oe,vs,T,oT,ts,e1,e2,e3,e4,e5,e6,e7,e8,e9⟩:=f;exact⟨f1,f2,oe,vs,T,oT,ts,e1,e2,e3,e4,e5,e6,e7,e8,(TW.mp e9).1⟩
theorem FlN.fl(f:FlN X ca a x H h):Fl X ca a x H h:=by obtain⟨f1,f2,oe,vs,T,oT,ts,e1,e2,e3,e4,e5,e6,e7,e8,e9⟩:=f;exact⟨f1,f2,oe,vs,e1,e2,e3,(TW.mp e4).1,.inr ⟨T,oT,ts,e4,e5,e6,e7,e8,(TW.mp e9).1,.inr e9⟩⟩
theorem QcE{h:Heap}{b:Addr}{o:Obj}{ts:Array Value}(i:Nat)(v:Value)(e:h.get? b=some o)(d:o.data=.fields ts):
  (h.update b (Obj.mapFields (·.setIfInBounds i v))).get? b=some (o.mapFields (·.setIfInBounds i v))/\(o.mapFields (·.setIfInBounds i v)).data=.fields (ts.setIfInBounds i v)/\(o.mapFields (·.setIfInBounds i v)).cls=o.cls:=⟨RD _ e (WP (RA d _)),RA d _,Bx _ _⟩
theorem Qf4{base:Heap}{env:Env}{outer:List Env}{L:Addr}{oe:Obj}{vs:Array Value}{head:Value}{hn:Bool}{M:Model}{A:Around}{Q:Unit->Shared->Prop}(hfr:A.frames=some (env::outer))(hl:s.heap.FunFrames base (env::outer))(hf:env.frame=some L)(he:s.heap.get? a=some oe)(hd:oe.data=.fields vs)(hsz:1<vs.size)(ha:a∉(env::outer).filterMap (·.frame))(k:∀h₁ (cells:Array Value),Heap.SlotsOnly ((env::outer).filterMap (·.frame)) s.heap h₁->cells[3]?=some (rawInt L)->Q () {s with heap:=(h₁.push {cls:=.type "traceback",dict:=none,data:=.fields cells}).update a (Obj.mapFields (·.setIfInBounds 1 (.ref h₁.objs.size)))}):
  wpAny M A (do let fv <-frameOf env;let pl <-entryPlaceOf L hn;let b <-EntryCells.newEntry head fv .none (rawInt L) .none pl;setField (.ref a) 1 b) Q E s:=by
 refine Ua (wpAny_frameOf_fun hfr hl hf λh₁ so=>Ua (wpAny_entryPlaceOf λpl hpl=>?_));unfold EntryCells.newEntry newFields;refine Ua (UX ?_ (hpl.sizeOk5 _ _ _ _ _));have e1:h₁.get? a=some oe:=(so.2.1 a ha).trans he;refine RQ (Uc _ e1) hd hsz (k h₁ _ so ?_);first
  | (simp;done)
  | (rcases hpl with rfl|⟨_,_,_,_,_,_,_,rfl⟩<;>simp)
theorem Qe9{M:Model}{Q:Unit->Shared->Prop}(I:Inv X [] σ H s)(hk:X.stack=X.env::X.outer)(hf:X.env.frame=some X.env.locals)(fl:Fl X ca a x H s.heap)(k:∀h',Inv X [] σ H {s with heap:=h'}->FlN X ca a x H h'->Q () {s with heap:=h'}):wpAny M X.A (noteFrame (.ref a) X.env) Q E s:=by
 obtain⟨fp,ln,oe,vs,he,hc,hd,hsz,hv⟩:=fl;have hfr:X.A.frames=some (X.env::X.outer):=by rw[<-hk];exact I.ok.frames
 have hst:s.heap.FunFrames X.base (X.env::X.outer):=by rw[<-hk];exact I.stack
 have hfs:(X.env::X.outer).filterMap (·.frame)=X.env.locals::X.fs:=by rw[Rn,hf];rfl
 have ha:a∉(X.env::X.outer).filterMap (·.frame):=by
  rw[hfs];intro z;rcases UG.mp z with z|z
  ·exact fp.2.1 z
  ·exact fp.2.2.1 z
 -- an entry is laid over a heap that differs from s at ch alone
 have fin:∀(h0 h₁:Heap)(cells:Array Value)(ch:List Addr),(∀b∈ch,FpW X [] H b)->(∀b o,b∉ch->s.heap.get? b=some o->h0.get? b=some o)->h0.objs.size=s.heap.objs.size->h0.get? a=some oe->Heap.SlotsOnly ((X.env::X.outer).filterMap (·.frame)) h0 h₁->cells[3]?=some (rawInt X.env.locals)->Q () {s with heap:=(h₁.push {cls:=.type "traceback",dict:=none,data:=.fields cells}).update a (Obj.mapFields (·.setIfInBounds 1 (.ref h₁.objs.size)))}:=by
  intro h0 h₁ cells ch hch hk0 hz he0 so hcl;have e1:h₁.get? a=some oe:=(so.2.1 a ha).trans he0;obtain⟨u1,u2,u3⟩:=QcE 1 (.ref h₁.objs.size) (Uc {cls:=.type "traceback",dict:=none,data:=.fields cells} e1) hd;have hTa:h₁.objs.size≠a:=Bf (Uw e1);have oth:∀b o,b≠a->h₁.get? b=some o->((h₁.push {cls:=.type "traceback",dict:=none,data:=.fields cells}).update a (Obj.mapFields (·.setIfInBounds 1 (.ref h₁.objs.size)))).get? b=some o:=λb o hb e=>
   (Tt _ _ (Ne.symm hb)).trans (Uc _ e)
  refine k _ (Qf3 (ch:=a::ch) I (λb hb=>?_) (λb o h1 h2 h3 e=>?_) λb o h1 e=>?_) ⟨fp,ln,_,_,h₁.objs.size,_,cells,u1,hc.map _,u2,by simp[hsz],hTa,?_,(Tt _ _ (Ne.symm hTa)).trans (Uy _ rfl),rfl,hcl⟩
  ·rcases UG.mp hb with e|e
   ·rw[e];exact fp
   ·exact hch b e
  ·refine oth b o (λz=>h1 (by rw[z];exact UD)) ?_;rw[so.2.1 b (by rw[hfs];intro z;rcases UG.mp z with z|z;(· exact h2 z);exact h3 z)];exact hk0 b o (λz=>h1 (Uz _ z)) e
  ·obtain⟨sl,q⟩:=so.2.2 b o (hk0 b o (λz=>h1 (Uz _ z)) e);exact⟨sl,oth b _ (λz=>h1 (by rw[z];exact UD)) q⟩
  ·refine Qf2 I (Heap.get?_none_of_le ?_) (I.hok.fresh ?_)<;>rw[so.1,hz]<;>exact Ug _
 unfold noteFrame;simp only[hf];rcases hv with hv|⟨T,oT,ts,hv,hTa,fT,hT,hdT,hs3,h3⟩
 ·refine Ua (U0 he hd hv ?_);rw[Uf (by decide)];exact Qf4 hfr hst hf he hd hsz ha λh₁ cells so hcl=>fin s.heap h₁ cells [] (by simp) (λ_ _ _ e=>e) rfl he so hcl
 ·refine Ua (U0 he hd hv ?_);rw[Ue (show(Value.ref T != Value.none)=true from by simp)];rcases h3 with h3|h3
  ·refine Ua (U0 hT hdT h3 ?_);rw[Uf (show ¬((Value.none==rawInt X.env.locals)=true) from by simp[rawInt])];refine Ua (RQ hT hdT hs3 ?_);have oth:∀b o,b≠T->s.heap.get? b=some o->(s.heap.update T (Obj.mapFields (·.setIfInBounds 3 Value.none))).get? b=some o:=λb o hb e=>(Tt _ _ (Ne.symm hb)).trans e;have kp:∀b o,s.heap.get? b=some o->(∀vs,o.data≠.fields vs)->(s.heap.update T (Obj.mapFields (·.setIfInBounds 3 Value.none))).get? b=some o:=λb o e n=>oth b o (λz=>by rw[z,hT]at e;cases e;exact n _ hdT) e;refine Qf4 (s:={s with heap:=s.heap.update T (Obj.mapFields (·.setIfInBounds 3 Value.none))}) hfr (hst.of_keeps λb o e n=>⟨o,kp b o e n,rfl⟩) hf (oth a oe (Ne.symm hTa) he) hd hsz ha λh₁ cells so hcl=>?_;exact fin _ h₁ cells [T] (λb hb=>by rw[Uj.mp hb];exact fT) (λb o hb e=>oth b o (λz=>hb (by simp[z])) e) (Heap.size_after_update ..) (oth a oe (Ne.symm hTa) he) so hcl
  ·refine Ua (U0 hT hdT h3 ?_);rw[Ue (show(rawInt X.env.locals==rawInt X.env.locals)=true from by simp)];exact Ub (k s.heap I ⟨fp,ln,oe,vs,T,oT,ts,he,hc,hd,hv,hTa,fT,hT,hdT,h3⟩)
theorem Jn{M:Model}{A:Around}{Q:Unit->Shared->Prop}{fo:Option Addr}(I:Inv X [] σ H s)(fl:FlT X ca a x H s.heap)(k:∀h' T oT ts oe vs,Inv X [] σ H {s with heap:=h'}->h'.get? a=some oe->XOb ca x oe->oe.data=.fields vs->vs[1]?=some (.ref T)->T≠a->FpW X [] H T->h'.get? T=some oT->oT.data=.fields ts->3<ts.size->ts[3]?=some (fo.elim Value.none λf=>rawInt f)->Q () {s with heap:=h'}):wpAny M A (setFlight (.ref a) fo) Q E s:=by
  obtain⟨fp,ln,oe,vs,T,oT,ts,he,hc,hd,hv,hTa,fT,hT,hdT,hs3⟩:=fl;unfold setFlight;refine Ua (U0 he hd hv ?_);rw[Ue (show(Value.ref T != Value.none)=true from by simp)];have oth:∀b o,b≠T->s.heap.get? b=some o->(s.heap.update T (Obj.mapFields (·.setIfInBounds 3 (fo.elim Value.none λf=>rawInt f)))).get? b=some o:=λb o hb e=>(Tt _ _ (Ne.symm hb)).trans e;obtain⟨u1,u2,u3⟩:=QcE 3 (fo.elim Value.none λf=>rawInt f) hT hdT;refine RQ hT hdT hs3 (k _ T _ _ oe vs (Qf3 (ch:=[T]) I (λb hb=>by rw[Uj.mp hb];exact fT) (λb o h1 _ _ e=>oth b o (λz=>h1 (by simp[z])) e) λb o h1 e=>⟨o.slots,oth b o (λz=>h1 (by simp[z])) e⟩)
    (oth a oe (Ne.symm hTa) he) hc hd hv hTa fT u1 u2 (by simpa using hs3) (by simp[hs3]))
theorem Qli(hk:X.stack=X.env::X.outer)(hf:X.env.frame=some X.env.locals)(pn:LAO)(Φ:XS):PassesOwn (model X.prog X.w) X.A X.env (xat X ca pn Φ).xe:=by rintro v s ⟨a,x,σ,H,rfl,I,fl,q⟩;refine Qe9 (X:=xon X pn) I hk hf fl λh1 I1 f1=>?_;unfold cameBackBy;obtain⟨fp,ln,oe,vs,T,oT,ts,he,hc,hd,hv,hTa,fT,hT,hdT,h3⟩:=id f1;refine Ua (U0 he hd hv ?_);rw[Uf (show ¬((Value.ref T==Value.none)=true) from by simp)];refine Jn (X:=xon X pn) (fo:=X.env.frame) I1 f1.t λh2 T oT ts oe vs I2 a1 a2 a3 a4 a5 a6 a7 a8 a9 a10=>?_;rw[hf]at a10;exact⟨a,x,σ,H,rfl,I2,FlN.fl ⟨fp,ln,oe,vs,T,oT,ts,a1,a2,a3,a4,a5,a6,a7,a8,a10⟩,q⟩
end
def CXW(P:Program)(w:World)(ca:Nat->Addr):CXT:=λouter H s E v s'=>∃(a:Addr)(x:Xc)(H':Hp),v=.ref a/\s'.os=s.os/\AllBare s'.gens/\Un (frs outer) [] H H' s.heap s'.heap/\HOk P w H' s'.heap/\x.2=none/\(∃oe vs T oT ts,s.heap.get? a=none/\H' a=none/\s'.heap.get? a=some oe/\XOb ca x oe/\oe.data=.fields vs/\vs[1]?=some (.ref T)/\T≠a/\s.heap.get? T=none/\H' T=none/\s'.heap.get? T=some oT/\oT.data=.fields ts/\ts[3]?=some .none)/\E (.int x.1 0) x.2 H'
section
variable{P:Program}{w:World}{K:Frag}{mg:SOV}{base:Heap}{ca:Nat->Addr}
theorem Qkb{N:List Str}{qual:Str}{scope:Scope}{f:Addr}{cd:Value}{A:Around}{outer:List Env}{s s':Shared}{H:Hp}{E:XK}{v:Value}(h:XE (xon (cxOf (CXW P w ca) P w K mg base N qual scope f cd A outer s H E) []) ca (λx _ H'=>E (.int x.1 0) x.2 H') v s'):(cxOf (CXW P w ca) P w K mg base N qual scope f cd A outer s H E).xe v s':=by
 obtain⟨a,x,σ,H',rfl,I,fl,q⟩:=h;show wpAny _ _ (leaving _ (.ref a)) _ _ s';unfold leaving;refine Ua (Qe9 I rfl rfl fl λh1 I1 f1=>?_);obtain⟨fp,ln,_⟩:=id f1;refine Jn (fo:=none) I1 f1.t λh2 T oT ts oe vs I2 a1 a2 a3 a4 a5 a6 a7 a8 a9 a10=>?_;refine⟨a,x,H',rfl,I2.os,I2.bare,I2.base,I2.hok,ln,⟨oe,vs,T,oT,ts,?_,fp.1,a1,a2,a3,a4,a5,?_,a6.1,a7,a8,a10⟩,q⟩
 ·rcases fp.2.2.2.1 with z|z
  ·exact absurd (show a∈([]:List Addr) from z) (by simp)
  ·exact z
 ·rcases a6.2.2.2.1 with z|z
  ·exact absurd (show T∈([]:List Addr) from z) (by simp)
  ·exact z
end
section
variable{X:Cx}{ca:Nat->Addr}{pn:LAO}{Φ:XS}
theorem Qh8(I:Inv (xat X ca pn Φ) pins σ H s)(h:CXW X.prog X.w ca X.stack H s (λc l H'=>∀x:Xc,c=.int x.1 0->l=x.2->Φ x σ H') v s'):(xat X ca pn Φ).xe v s':=by obtain⟨a,x,H',rfl,os,bare,un,hok,ln,⟨oe,vs,T,oT,ts,e1,e2,e3,e4,e5,e6,e7,e8,e9,e10,e11,e12⟩,q⟩:=h;have I0:Inv (xon X pn) [] σ H s:=(Qlh I).pins_of λp hp=>absurd hp (by simp);have I1:Inv (xon X pn) [] σ H' s':=Inv.call' (ch:=[]) I0 os un hok bare λb z=>absurd z (by simp);refine⟨a,x,σ,H',rfl,I1,⟨Qf2 I0 e1 e2,ln,oe,vs,e3,e4,e5,(TW.mp e6).1,.inr ⟨T,oT,ts,e6,e7,Qf2 I0 e8 e9,e10,e11,(TW.mp e12).1,.inl e12⟩⟩,q x rfl rfl⟩
end
end L3
namespace L3
open PySem PySem.Spec PyProof.Rows L2
section
variable{X:Cx}{ca:Nat->Addr}{a b c e:Expr}{st:Stmt}{sts rest:List Stmt}{ma mb me:ME}{tc:MT}{m m':MS}{pos:Pos}
theorem QI:PSs3 ca X [] QV:=λpn Φ=>Qf0 (Qhv (X:=xat X ca pn Φ)) λ_ σ H ⟨_,_,μ,R,p⟩=>p σ H μ .refl R
theorem Qop{K:Frag}{Φ:XS}(E:Ends)(σ:L2.St)(H:Hp)(h:upS K ca Φ (mSeq m m') E σ H):tSeq (upS K ca Φ m) (upS K ca Φ m') E σ H:=by
 obtain⟨σ3,g,μ,R,p⟩:=h;refine⟨σ3,g,μ,R,?_⟩;unfold mSeq at p;cases hm:m σ3 g with
 |nx σ1 g1 =>rw[hm]at p;exact λσ' H' μ' e' R'=>⟨σ1,g1,μ',R',PostS.go e' p⟩
 |rt d g1=>rw[hm]at p;exact p|bk _ _=>rw[hm]at p;exact p|ct _ _=>rw[hm]at p;exact p|raise _ _ _=>rw[hm]at p;exact p|stuck=>rw[hm]at p;exact p
theorem Qc(h1:PS3 ca X st m)(h2:PSs3 ca X rest m'):PSs3 ca X (st::rest) (mSeq m m'):=λpn Φ=>Qf0 (QjR (X:=xat X ca pn Φ) (h1 pn Φ) (h2 pn Φ)) Qop
theorem Qg(h1:PS3 ca X st m):PSs3 ca X [st] m:=λpn Φ=>QlV (X:=xat X ca pn Φ) (h1 pn Φ)
theorem Qdm:PS3 ca X st QbJ:=λpn Φ=>Z2 (QjS (X:=xat X ca pn Φ)) λ_ _ _ ⟨_,_,_,_,p⟩=>p
theorem Yq(he:PE3 ca X e me)(hs:swapsWith e none pos.line X.env=pure false:=by rfl):PS3 ca X (.Expr e pos) (Yb me):=
 λpn Φ=>Z2 (QlW (X:=xat X ca pn Φ) (he pn Φ) hs) λE σ H ⟨σ3,g,μ,R,p⟩=>⟨σ3,g,μ,R,by
  unfold Yb at p;cases hm:me σ3 g with
  |ok d g1=>rw[hm]at p;exact λv H' μ' e' r' _=>p σ H' μ' e' (R.go e' r')
  |raise _ _=>rw[hm]at p;exact RaP.stmt R p|stuck=>rw[hm]at p;exact p⟩
theorem QO(he:PE3 ca X e me):PS3 ca X (.Return (some e) pos) (mRet me):=
 λpn Φ=>Z2 (Qny (X:=xat X ca pn Φ) (he pn Φ)) λE σ H ⟨σ3,g,μ,R,p⟩=>⟨σ3,g,μ,R,by
  unfold mRet at p;cases hm:me σ3 g with
  |ok d g1=>rw[hm]at p;exact p|raise _ _=>rw[hm]at p;exact RaP.stmt R p|stuck=>rw[hm]at p;exact p⟩
theorem Qoq:PS3 ca X (.Return none pos) Qmm:=λpn Φ=>Z2 (QlX (X:=xat X ca pn Φ)) λ_ σ H ⟨_,_,μ,R,p⟩=>p .non H μ .refl R.g .non
theorem r_if(hc:PT3 ca X c tc)(ha:PSs3 ca X sa m)(hb:PSs3 ca X sb m'):PS3 ca X (.If c sa sb pos) (mIf tc m m'):=
 λpn Φ=>Z2 (Qpl (X:=xat X ca pn Φ) (hc pn Φ) (ha pn Φ) (hb pn Φ)) λE σ H ⟨σ3,g,μ,R,p⟩=>⟨σ3,g,μ,R,by
  unfold mIf at p;cases hm:tc σ3 g with
  |ok d g1=>
   rw[hm]at p;cases d with
   |true=>exact λH' μ' e' r'=>by show(if true=true then _ else _);rw[Ue rfl];exact⟨σ3,g1,μ',R.go e' r',PostS.go e' (by simpa using p)⟩
   |false=>exact λH' μ' e' r'=>by show(if false=true then _ else _);rw[Uf Ui];exact⟨σ3,g1,μ',R.go e' r',PostS.go e' (by simpa using p)⟩
  |raise _ _=>rw[hm]at p;exact RaP.stmt R p|stuck=>rw[hm]at p;exact p⟩
def upG(K:Frag)(ca:Nat->Addr)(f:MG):TG:=λv σ H Q=>∃σ3 g μ d σ3',Rep K ca μ σ3 g σ H/\Den K μ H v d/\f d σ3=some σ3'/\∀σ',Rep K ca μ σ3' g σ' H->Q σ' H
def PG3(ca:Nat->Addr)(X:Cx)(tg:Expr)(f:MG):Prop:=∀pn Φ,PG (xat X ca pn Φ) tg (upG X.K ca f)
theorem Qh9(h:PG X tg t)(i:∀v σ H Q,t' v σ H Q->t v σ H Q):PG X tg t':=λpins s σ H x u Q I r q=>h pins s σ H x u Q I r (i x σ H Q q)
theorem Rep.set{K:Frag}{μ:List Addr}{σ3:S3}{g:G}{σ:L2.St}{H:Hp}{v:V}{d:D}(R:Rep K ca μ σ3 g σ H)(h:Den K μ H v d)(i:Nat):Rep K ca μ (σ3.set i (some d)) g (σ.set i (some v)) H:=by
 refine⟨R.g,by rw[UK,UK,R.len],λj x hx=>?_⟩;by_cases e:j=i
 ·subst e;have hl:j<σ3.length:=by have:=(Um.mp hx).1;simpa using this
  rw[UP hl]at hx;cases hx;exact⟨v,by rw[UP (by rw[R.len];exact hl)],h⟩
 ·rw[Uh (Ne.symm e)]at hx;obtain⟨w,h1,h2⟩:=R.st j x hx;exact⟨w,by rw[Uh (Ne.symm e)];exact h1,h2⟩
theorem Q2(i:Nat){x:Str}(hN:X.N.Nodup)(hi:X.N[i]?=some x:=by rfl)(hx:Loc X.env.scope x:=by first|exact Or.inl rfl|exact Or.inr rfl)(hf:X.fn x=true\/X.env.scope.names.lookup x=some .local:=by first|exact .inl rfl|exact .inr rfl):PG3 ca X (.Name x pos) (gSet i):=
 λpn Φ=>Qh9 (QlY (X:=xat X ca pn Φ) hN hi hx hf) λv σ H Q hQ=>by obtain⟨σ3,g,μ,d,σ3',R,q,e,k⟩:=hQ;cases e;exact k _ (R.set q i)
def upGs(K:Frag)(ca:Nat->Addr)(fs:List MG):TGs:=λvs σ H Q=>∃σ3 g μ ds σ3',Rep K ca μ σ3 g σ H/\Dens K μ H vs ds/\QgS fs ds σ3=some σ3'/\∀σ',Rep K ca μ σ3' g σ' H->Q σ' H
def PGs3(ca:Nat->Addr)(X:Cx)(tgs:List Expr)(fs:List MG):Prop:=∀pn Φ,PGs (xat X ca pn Φ) tgs (upGs X.K ca fs)
theorem Qf5(h:PGs X tg t)(i:∀v σ H Q,t' v σ H Q->t v σ H Q):PGs X tg t':=λpins s σ H xs us Q I r q=>h pins s σ H xs us Q I r (i xs σ H Q q)
theorem Qia:PGs3 ca X [] []:=λpn Φ=>Qf5 (QlZ (X:=xat X ca pn Φ)) λvs σ H Q hQ=>by
 obtain⟨σ3,g,μ,ds,σ3',R,q,e,k⟩:=hQ;cases q with
 |nil=>cases e;exact⟨rfl,k _ R⟩|cons _ _=>cases e
theorem Y8{es:List Expr}{f:MG}{fs:List MG}(h1:PG3 ca X e f)(h2:PGs3 ca X es fs)(hs:(assignEach (e::es) X.env).map (·.2)=assign e X.env::(assignEach es X.env).map (·.2):=by rfl):PGs3 ca X (e::es) (f::fs):=
 λpn Φ=>Qf5 (QjT (X:=xat X ca pn Φ) (h1 pn Φ) (h2 pn Φ) hs) λvs σ H Q hQ=>by
  obtain⟨σ3,g,μ,ds,σ3',R,q,e,k⟩:=hQ;cases q with
  |nil=>cases e|@cons v d vs ds q1 q2=>
   unfold QgS at e;cases hf:f d σ3 with
   |none=>rw[hf]at e;cases e|some σ4 =>rw[hf]at e;exact⟨v,vs,rfl,σ3,g,μ,d,σ4,R,q1,hf,λσ' R'=>⟨σ4,g,μ,ds,σ3',R',q2,e,k⟩⟩
theorem Qeo:∀{fs:List MG}{ds:List D}{σ σ':S3},QgS fs ds σ=some σ'->ds.length=fs.length
 |[],[],_,_,_=>rfl|[],_::_,_,_,h=>by cases h
 |_::_,[],_,_,h=>by cases h
 |f::fs,d::ds,σ,σ',h=>by
  unfold QgS at h;cases hf:f d σ with
  |none=>rw[hf]at h;cases h|some σ4 =>rw[hf]at h;rw[UH,UH,Qeo (fs:=fs) h]
theorem Qib{es:List Expr}{k:Nat}{fs:List MG}(hc:X.calm=true)(h:PGs3 ca X es fs)(hn:(assignEach es X.env).length=fs.length:=by rfl)(hst:(assignEach es X.env).findIdx? (·.1)=none:=by rfl):PG3 ca X (.Tuple es k pos) (QgT fs):=
 λpn Φ=>Qh9 (QnB (X:=xat X ca pn Φ) hc (h pn Φ) hn hst) λv σ H Q hQ=>by
  obtain⟨σ3,g,μ,d,σ3',R,q,e,kk⟩:=hQ;cases q with
  |@tup a vs ds ht hs =>exact⟨a,vs,rfl,ht,hs.length.trans (Qeo e),σ3,g,μ,ds,σ3',R,hs,e,kk⟩|_=>cases e
theorem Qor{K:Frag}{Φ:XS}{f:MG}(E:Ends)(σ:L2.St)(H:Hp)(h:upS K ca Φ (mAsg f me) E σ H):tAsg (up K ca Φ me) (upG K ca f) E σ H:=by
 obtain⟨σ3,g,μ,R,p⟩:=h;refine⟨σ3,g,μ,R,?_⟩;unfold mAsg at p;cases hm:me σ3 g with
 |ok d g1=>
  rw[hm]at p;dsimp only at p;intro v H' μ' e' r' q';cases hf:f d σ3 with
  |none=>rw[hf]at p;exact p.elim|some σ4 =>rw[hf]at p;exact⟨σ3,g1,μ',d,σ4,R.go e' r',q',hf,λσ' R'=>p σ' H' μ' e' R'⟩
 |raise _ _=>rw[hm]at p;exact RaP.stmt R p|stuck=>rw[hm]at p;exact p
theorem Qos{tg:Expr}{f:MG}(he:PE3 ca X e me)(hg:PG3 ca X tg f)(hs:swapsWithSole [tg] e pos.line X.env=pure false:=by rfl)(hw:swappedStores [tg] e X.env=pure none:=by rfl)(h1:(assignEach [tg] X.env).map (·.2)=[assign tg X.env]:=by rfl):PS3 ca X (.Assign [tg] e pos) (mAsg f me):=λpn Φ=>Z2 (Qhw (X:=xat X ca pn Φ) (he pn Φ) (hg pn Φ) hs hw h1) Qor
theorem QpI(i:Nat){x:Str}{pos':Pos}(hN:X.N.Nodup)(he:PE3 ca X e me)(hi:X.N[i]?=some x:=by rfl)(hx:Loc X.env.scope x:=by first|exact Or.inl rfl|exact Or.inr rfl)(hs:swapsWith e (some (.Name x pos')) pos.line X.env=pure false:=by rfl)(hf:X.fn x=true\/X.env.scope.names.lookup x=some .local:=by first|exact .inl rfl|exact .inr rfl):
  PS3 ca X (.Assign [.Name x pos'] e pos) (mAsg (gSet i) me):=
 λpn Φ=>Z2 (QnC (X:=xat X ca pn Φ) hN hi hx (he pn Φ) hs hf) λE σ H h=>by
  obtain⟨σ3,g,μ,R,p⟩:=h;refine⟨σ3,g,μ,R,?_⟩;unfold mAsg gSet at p;cases hm:me σ3 g with
  |ok d g1 =>rw[hm]at p;exact λv H' μ' e' r' q'=>p _ H' μ' e' ((R.go e' r').set q' i)
  |raise _ _=>rw[hm]at p;exact RaP.stmt R p|stuck=>rw[hm]at p;exact p
structure FldOk(K:Frag)(ca:Nat->Addr)(cs:List Nat)(f:Str):Prop where
 cl:∀c∈cs,Cls K (ca c)
 no:∀c∈cs,NoAttr K (ca c) f
theorem FRel.look{K:Frag}{μ:List Addr}{H:Hp}{f:Str}{d:D}:∀{fv:List (Str×V)}{fs:List (Str×D)},FRel K μ H fv fs->fs.lookup f=some d->∃v,fv.lookup f=some v/\Den K μ H v d
 |_,_,.nil,h=>by cases h
 | (k,v)::r,(k',d')::r',.cons ⟨e,q⟩ t,h=>by
  have e:k=k':=e;subst e;cases hb:f==k with
  |true =>simp only[List.lookup,hb]at h ⊢;cases h;exact⟨v,rfl,q⟩|false =>simp only[List.lookup,hb]at h ⊢;exact FRel.look t h
theorem FRel.no{K:Frag}{μ:List Addr}{H:Hp}{f:Str}:∀{fv:List (Str×V)}{fs:List (Str×D)},FRel K μ H fv fs->fs.lookup f=Option.none->fv.lookup f=Option.none
 |_,_,.nil,_=>rfl| (k,v)::r,(k',d')::r',.cons ⟨e,q⟩ t,h=>by
  have e:k=k':=e;subst e;cases hb:f==k with
  |true=>simp only[List.lookup,hb]at h;cases h|false =>simp only[List.lookup,hb]at h ⊢;exact FRel.no t h
theorem FRel.put{K:Frag}{μ:List Addr}{H:Hp}{f:Str}{v:V}{d:D}(q:Den K μ H v d):∀{fv:List (Str×V)}{fs:List (Str×D)},FRel K μ H fv fs->FRel K μ H (putF f v fv) (putG f d fs)
 |_,_,.nil=>.cons ⟨rfl,q⟩ .nil| (k,w)::r,(k',d')::r',.cons ⟨e,z⟩ t=>by
  have e:k=k':=e;subst e;show FRel K μ H (if k=f then (k,v)::r else (k,w)::putF f v r) (if k=f then (k,d)::r' else (k,d')::putG f d r');by_cases h:k=f
  ·rw[Ue h,Ue h];exact .cons ⟨rfl,q⟩ t
  ·rw[Uf h,Uf h];exact .cons ⟨rfl,z⟩ (FRel.put q t)
theorem Zm{cs:List Nat}{f:Str}(he:PE3 ca X e me)(ok:FldOk X.K ca cs f)(hb:attributeBase e f X.env (eval e X.env)=eval e X.env:=by rfl):PE3 ca X (.Attribute e f pos) (Qz cs f me):=
 λpn Φ=>QS (QnM (X:=xat X ca pn Φ) (he pn Φ) hb) λσ H Q ⟨σ3,g,μ,R,p⟩=>QN (Y7 R p) λx H1 hQ=>by
  obtain⟨d,g1,μ1,e1,R1,q1,p1⟩:=hQ;cases q1 with
  |@ref n a hn=>
   dsimp only at p1;cases hg:g1[n]? with
   |none=>rw[hg]at p1;exact p1.elim|some o=>
    rw[hg]at p1;obtain⟨a',ha',ob⟩:=R1.g.addr hg;rw[hn]at ha';cases ha';cases o with
    |ins c fs=>
     dsimp only at p1;obtain⟨dx,fv,hH,fr⟩:=ob;by_cases hc:c∈cs
     ·rw[Ue hc]at p1;cases hl:fs.lookup f with
      |none=>rw[hl]at p1;exact p1.elim|some y =>rw[hl]at p1;obtain⟨v,h1,h2⟩:=fr.look hl;exact⟨a,ca c,dx,fv,v,rfl,hH,ok.cl c hc,ok.no c hc,h1,p1 v H1 μ1 .refl R1.g h2⟩
     ·rw[Uf hc]at p1;exact p1.elim
    |_=>exact p1.elim
  |_=>exact p1.elim
theorem Yr(ho:PE3 ca X o mo)(he:PE3 ca X e me)(ok:FldOk X.K ca cs f)(hs:swapsWith e (some (.Attribute o f pos')) pos.line X.env=pure false:=by rfl):
  PS3 ca X (.Assign [.Attribute o f pos'] e pos) (Q4 cs f mo me):=
 λpn Φ=>Z2 (QnN (X:=xat X ca pn Φ) (ho pn Φ) (he pn Φ) hs) λE σ H ⟨σ3,g,μ,R,p⟩=>⟨σ3,g,μ,R,by
  unfold Q4 at p;cases hm:me σ3 g with
  |ok y g1=>
   rw[hm]at p;dsimp only at p;intro vy H1 μ1 e1 r1 q1;refine⟨σ3,g1,μ1,R.go e1 r1,?_⟩;cases hm2:mo σ3 g1 with
   |ok d g2=>
    rw[hm2]at p;intro vx H2 μ2 e2 r2 q2;cases q2 with
    |@ref n a hn=>
     dsimp only at p;cases hg:g2[n]? with
     |none=>rw[hg]at p;exact p.elim|some ob=>
      rw[hg]at p;obtain⟨a',ha',orp⟩:=r2.addr hg;rw[hn]at ha';cases ha';cases ob with
      |ins c fs=>
       dsimp only at p;obtain⟨dx,fv,hH,fr⟩:=orp;by_cases hc:c∈cs/\fs.length<100
       ·rw[Ue hc]at p;have fl:fv.length=fs.length:=Paired.length fr;refine⟨a,ca c,dx,fv,rfl,hH,ok.cl c hc.1,ok.no c hc.1,by omega,?_⟩;have ex:Ext X.K μ2 H2 μ2 (upd H2 a (.ins (ca c) dx (putF f vy fv))):=ZP hH (by intro _ z;cases z) (by intro _ _ z;cases z);refine p σ _ μ2 ((e1.trans e2).trans ex) ((R.go (e1.trans e2) r2).go ex ?_);exact r2.set hn hH (by intro _ z;cases z) (by intro _ _ z;cases z) ⟨dx,_,Qk,FRel.put ((q1.mono e2).mono ex) (fr.mono ex)⟩
       ·rw[Uf hc]at p;exact p.elim
      |_=>exact p.elim
    |_=>exact p.elim
   |raise _ _=>rw[hm2]at p;exact(RaP.stmt R p).go e1|stuck=>rw[hm2]at p;exact p
  |raise _ _=>rw[hm]at p;exact RaP.stmt R p|stuck=>rw[hm]at p;exact p⟩
theorem Qmo{o i:Expr}{mo mi:ME}{pos':Pos}(ho:PE3 ca X o mo)(hi:PE3 ca X i mi)(he:PE3 ca X e me)(hs:swapsWithSole [.Subscript o i pos'] e pos.line X.env=pure false:=by rfl)(hw:swappedStores [.Subscript o i pos'] e X.env=pure none:=by rfl)(h1:(assignEach [.Subscript o i pos'] X.env).map (·.2)=[assign (.Subscript o i pos') X.env]:=by rfl)(ha:∀v,assign (.Subscript o i pos') X.env v=(do
   let ov <-holding [v] (eval o X.env)
   let iv <-holding [v,ov] (eval i X.env)
   standAt pos'
   holding [v,ov,iv] (setItem ov iv v)
   release [v,ov,iv] []):=by intro _;rfl):PS3 ca X (.Assign [.Subscript o i pos'] e pos) (Qek mo mi me):=
 λpn Φ=>Z2 (Qhw (X:=xat X ca pn Φ) (he pn Φ) (Qk0 (X:=xat X ca pn Φ) (ho pn Φ) (hi pn Φ) Qj2 ha) hs hw h1) λE σ H ⟨σ3,g,μ,R,p⟩=>⟨σ3,g,μ,R,by
  unfold Qek at p;cases hm:me σ3 g with
  |ok y g1=>
   rw[hm]at p;dsimp only at p;intro vy H1 μ1 e1 r1 q1;refine⟨σ3,g1,μ1,R.go e1 r1,?_⟩;cases hm2:mo σ3 g1 with
   |ok d g2=>
    rw[hm2]at p;intro vx H2 μ2 e2 r2 q2;cases q2 with
    |@ref n a hn=>
     dsimp only at p;refine⟨σ3,g2,μ2,R.go (e1.trans e2) r2,?_⟩;cases hm3:mi σ3 g2 with
     |ok di g3=>
      rw[hm3]at p;intro vi H3 μ3 e3 r3 q3;cases q3 with
      |int k=>
       dsimp only at p;cases hg:g3[n]? with
       |none=>rw[hg]at p;exact p.elim|some ob=>
        rw[hg]at p;obtain⟨a',ha',orp⟩:=r3.addr hg;rw[e3.at hn]at ha';cases ha';cases ob with
        |lst ds=>
         dsimp only at p;obtain⟨vs,hH,q⟩:=orp;cases hj:ixD ds.length k with
         |none=>rw[hj]at p;exact p.elim|some j =>rw[hj]at p;have ex:Ext X.K μ3 H3 μ3 (upd H3 a (.lst (vs.set j vy))):=ZP hH (by intro _ z;cases z) (by intro _ _ z;cases z);refine⟨a,vs,k,j,rfl,rfl,hH,by rw[q.length];exact hj,?_⟩;refine p σ _ μ3 (((e1.trans e2).trans e3).trans ex) ((R.go ((e1.trans e2).trans e3) r3).go ex ?_);exact r3.set (e3.at hn) hH (by intro _ z;cases z) (by intro _ _ z;cases z) ⟨_,Qk,Dens.set (((q1.mono e2).mono e3).mono ex) j (q.mono ex)⟩
        |_=>exact p.elim
      |_=>exact p.elim
     |raise _ _=>rw[hm3]at p;exact(RaP.stmt R p).go (e1.trans e2)|stuck=>rw[hm3]at p;exact p
    |_=>exact p.elim
   |raise _ _=>rw[hm2]at p;exact(RaP.stmt R p).go e1|stuck=>rw[hm2]at p;exact p
  |raise _ _=>rw[hm]at p;exact RaP.stmt R p|stuck=>rw[hm]at p;exact p⟩
def Sim(K:Frag)(ca:Nat->Addr)(μ0:List Addr)(H0:Hp)(src:Src)(J:It):Prop:=
 ∀(i:Nat)(H:Hp)(μ:List Addr)(g:G),Ext K μ0 H0 μ H->GRep K ca μ H g->match src.at' g i with
  |some (some d)=>J.go i H/\∀x H',J.yld i H x H'->Ext K μ H μ H'/\GRep K ca μ H' g/\Den K μ H' x d|some none=>J.stop i H|none=>True
def upI(K:Frag)(ca:Nat->Addr)(Φ:XS)(m:MI):TI:=λσ H R=>∃σ3 g μ,Rep K ca μ σ3 g σ H/\match m σ3 g with
 |.ok src g'=>∀J H' μ',Ext K μ H μ' H'->GRep K ca μ' H' g'->Sim K ca μ' H' src J->R J H'|.raise x g'=>RaP K ca Φ σ H μ x g'|.stuck=>False
def PI3(ca:Nat->Addr)(X:Cx)(tg iter:Expr)(m:MI):Prop:=∀pn Φ,PI (xat X ca pn Φ) tg iter (upI X.K ca Φ m)
theorem QbN(hc:X.calm=true)(hi:PI3 ca X tg iter mi)(hg:PG3 ca X tg f)(hb:PSs3 ca X body m)(hs:∀x,foldedSetIterable iter X.env x=pure x:=by intro _;rfl)(hk:X.stack=X.env::X.outer:=by rfl)(hf:X.env.frame=some X.env.locals:=by rfl):
  PS3 ca X (.For tg iter body [] pos) (mFor mi f m):=
 λpn Φ=>Z2 (QnE (X:=xat X ca pn Φ) (Qli hk hf pn Φ) hc (hi pn Φ) (hg pn Φ) (hb pn Φ) hs) λE σ H ⟨σ3,g,μ,R,p⟩=>⟨σ3,g,μ,R,by
  unfold mFor at p;cases hm:mi σ3 g with
  |ok src g'=>
   rw[hm]at p;dsimp only at p ⊢;intro J H' μ' e' r' sim;refine⟨λi n σ1 H1=>∃σ4 g1 μ1,Ext X.K μ' H' μ1 H1/\Rep X.K ca μ1 σ4 g1 σ1 H1/\PostS X.K ca Φ E H1 μ1 (forL src f m n i σ4 g1),⟨src.top+1,σ3,g',μ',.refl,R.go e' r',p.go e'⟩,?_⟩;rintro i n σ1 H1 ⟨σ4,g1,μ1,e1,R1,p1⟩;have s1:=sim i H1 μ1 g1 e1 R1.g;cases n with
   |zero=>exact p1.elim|succ n=>
    unfold forL at p1;cases ha:src.at' g1 i with
    |none=>rw[ha]at p1;exact p1.elim|some od=>
     rw[ha]at p1 s1;cases od with
     |none=>exact .inl ⟨s1,p1 σ1 H1 μ1 .refl R1⟩|some d=>
      dsimp only at p1 s1;obtain⟨go,yl⟩:=s1;refine .inr ⟨go,λσ2 H2=>∃σ5 g2 μ2,Ext X.K μ' H' μ2 H2/\Rep X.K ca μ2 σ5 g2 σ2 H2/\PostS X.K ca Φ E H2 μ2 (forL src f m n (i+1) σ5 g2),λσ2 H2 z=>⟨n,T6 n,z⟩,λx H2 y=>?_⟩;obtain⟨e2,r2,q2⟩:=yl x H2 y;cases hf:f d σ4 with
      |none=>rw[hf]at p1;exact p1.elim|some σ5=>
       rw[hf]at p1;dsimp only at p1;refine⟨σ4,g1,μ1,d,σ5,R1.go e2 r2,q2,hf,λσ6 R6=>⟨σ5,g1,μ1,R6,?_⟩⟩;cases hb:m σ5 g1 with
       |nx σ7 g7 =>rw[hb]at p1;exact λσ' H3 μ3 e3 R3=>⟨σ7,g7,μ3,(e1.trans e2).trans e3,R3,PostS.go (e2.trans e3) p1⟩
       |ct σ7 g7 =>rw[hb]at p1;exact λσ' H3 μ3 e3 R3=>⟨σ7,g7,μ3,(e1.trans e2).trans e3,R3,PostS.go (e2.trans e3) p1⟩
       |bk σ7 g7 =>rw[hb]at p1;exact λσ' H3 μ3 e3 R3=>p1 σ' H3 μ3 (e2.trans e3) R3
       |rt d7 g7 =>rw[hb]at p1;exact λv H3 μ3 e3 r3 q3=>p1 v H3 μ3 (e2.trans e3) r3 q3
       |raise _ _ _ =>rw[hb]at p1;exact λσ' H3 μ3 e3 R3=>p1 σ' H3 μ3 (e2.trans e3) R3
       |stuck=>rw[hb]at p1;exact p1
  |raise _ _=>rw[hm]at p;exact RaP.stmt R p|stuck=>rw[hm]at p;exact p⟩
theorem Qic(hc:PT3 ca X c tc)(hb:PSs3 ca X body m)(hk:X.stack=X.env::X.outer:=by rfl)(hf:X.env.frame=some X.env.locals:=by rfl):PS3 ca X (.While c body [] pos) (QbK tc m):=
 λpn Φ=>Z2 (QjU (X:=xat X ca pn Φ) (Qli hk hf pn Φ) (hc pn Φ) (hb pn Φ)) λE σ H hQ=>by
  obtain⟨σ3,g,μ,R,p⟩:=hQ;unfold QbK at p;by_cases hh:∃f,ZB tc m f σ3 g≠.stuck
  ·rw[dif_pos hh]at p;generalize hh.choose=k at p;refine⟨λn σ1 H1=>∃σ4 g1 μ1,Ext X.K μ H μ1 H1/\Rep X.K ca μ1 σ4 g1 σ1 H1/\PostS X.K ca Φ E H1 μ1 (ZB tc m n σ4 g1),⟨k,σ3,g,μ,.refl,R,p⟩,?_⟩;rintro n σ1 H1 ⟨σ4,g1,μ1,e1,R1,p1⟩;cases n with
   |zero=>exact p1.elim|succ n=>
    unfold ZB at p1;refine⟨σ4,g1,μ1,R1,?_⟩;cases ht:tc σ4 g1 with
    |ok t g2=>
     rw[ht]at p1;cases t with
     |true=>
      dsimp only at p1;intro H2 μ2 e2 r2;rw[Ue rfl];refine⟨λσ2 H3=>∃σ5 g3 μ3,Ext X.K μ H μ3 H3/\Rep X.K ca μ3 σ5 g3 σ2 H3/\PostS X.K ca Φ E H3 μ3 (ZB tc m n σ5 g3),λσ2 H3 z=>⟨n,T6 n,z⟩,σ4,g2,μ2,R1.go e2 r2,?_⟩;cases hb:m σ4 g2 with
      |nx σ7 g7 =>rw[hb]at p1;exact λσ' H3 μ3 e3 R3=>⟨σ7,g7,μ3,(e1.trans e2).trans e3,R3,PostS.go (e2.trans e3) p1⟩
      |ct σ7 g7 =>rw[hb]at p1;exact λσ' H3 μ3 e3 R3=>⟨σ7,g7,μ3,(e1.trans e2).trans e3,R3,PostS.go (e2.trans e3) p1⟩
      |bk σ7 g7 =>rw[hb]at p1;exact λσ' H3 μ3 e3 R3=>p1 σ' H3 μ3 (e2.trans e3) R3
      |rt d7 g7 =>rw[hb]at p1;exact λv H3 μ3 e3 r3 q3=>p1 v H3 μ3 (e2.trans e3) r3 q3
      |raise _ _ _ =>rw[hb]at p1;exact λσ' H3 μ3 e3 R3=>p1 σ' H3 μ3 (e2.trans e3) R3
      |stuck=>rw[hb]at p1;exact p1
     |false =>intro H2 μ2 e2 r2;rw[Uf Ui];exact p1 σ1 H2 μ2 e2 (R1.go e2 r2)
    |raise _ _=>rw[ht]at p1;exact RaP.stmt R1 p1|stuck=>rw[ht]at p1;exact p1
  ·rw[dif_neg hh]at p;exact p.elim
end
end L3
namespace L3
open PySem PySem.Spec PyProof.Rows L2
def spM(K:Frag)(ca:Nat->Addr)(n:Nat)(F:MF):Sp:=λvs H Q E=>vs.length=n/\∃ds g μ,GRep K ca μ H g/\Dens K μ H vs ds/\match F ds g with
 |.ok d g'=>∀v H' μ',Ext K μ H μ' H'->GRep K ca μ' H' g'->Den K μ' H' v d->Q v H'|.raise x g'=>∀H' μ',Ext K μ H μ' H'->GRep K ca μ' H' g'->E (.int x.1 0) x.2 H'|.stuck=>False
theorem Qid{K:Frag}{ca:Nat->Addr}{μ:List Addr}{H:Hp}{g:G}{vs:List V}{ds:List D}(N:List Str)(r:GRep K ca μ H g)(q:Dens K μ H vs ds):Rep K ca μ (ds.map some++List.replicate (N.length-vs.length) none) g (L2.start N vs) H:=by
 unfold L2.start;refine⟨r,?_,λi d h=>?_⟩
 ·rw[Us,Us,Ud,Ud,q.length,Ta,Ta]
 ·by_cases hi:i<ds.length
  ·rw[Ul (by simpa using hi),UJ]at h;cases hd:ds[i]? with
   |none=>rw[hd]at h;cases h|some d' =>rw[hd]at h;cases h;obtain⟨v,h1,h2⟩:=q.get hd;refine⟨v,?_,h2⟩;rw[Ul (by simpa[q.length]using hi),UJ,h1];rfl
  ·rw[UE (by simpa using hi),RN]at h;split at h<;>cases h
structure FnH(P:Program)(w:World)(K:Frag)(mg:SOV)(base:Heap)(ca:Nat->Addr)(x:Str)(k n:Nat)(F:MF):Prop where
 ex:∃(f:Addr)(fd:FuncData)(ps:List Str),FnOk P w K mg base (CXW P w ca) k f fd ps (spM K ca n F)/\mg x=some (.ref f)/\keepIn K (.ref f)=true/\Binds K fd ps []
 st:∀ds g,ds.length≠n->F ds g=.stuck
structure MtH(P:Program)(w:World)(K:Frag)(mg:SOV)(base:Heap)(ca:Nat->Addr)(c:Nat)(x:Str)(k n:Nat)(F:MF):Prop where
 ex:∃(f:Addr)(fd:FuncData)(ps:List Str),FnOk P w K mg base (CXW P w ca) k f fd ps (spM K ca n F)/\Meth K (ca c) x f/\Cls K (ca c)/\Binds K fd ps []
 st:∀ds g,ds.length≠n->F ds g=.stuck
structure MkH(P:Program)(w:World)(K:Frag)(mg:SOV)(base:Heap)(ca:Nat->Addr)(c:Nat)(x:Str)(k n:Nat)(F:MF):Prop where
 ex:∃(f:Addr)(fd:FuncData)(ps:List Str),FnOk P w K mg base (CXW P w ca) k f fd ps (spM K ca n F)/\Mk K (ca c) f/\mg x=some (.ref (ca c))/\Binds K fd ps []
 st:∀ds g,ds.length≠n->F ds g=.stuck
theorem Qdn(k n:Nat)(m:MS):∀ds g,ds.length≠k->mDef k n m ds g=.stuck:=λds g h=>by unfold mDef;rw[Uf h]
theorem FnH.mono{P:Program}{w:World}{K:Frag}{mg:SOV}{base:Heap}{ca:Nat->Addr}{x:Str}{j k n:Nat}{F:MF}(h:FnH P w K mg base ca x j n F)(hj:j<=k):FnH P w K mg base ca x k n F:=by obtain⟨f,fd,ps,a,b⟩:=h.ex;exact⟨⟨f,fd,ps,a.mono hj,b⟩,h.st⟩
section
variable{P:Program}{w:World}{K:Frag}{mg:SOV}{base:Heap}{ca:Nat->Addr}
theorem Qie{N:List Str}{qual:Str}{scope:Scope}{f:Addr}{cd:Value}{A:Around}{outer:List Env}{s:Shared}{H:Hp}{E:XK}{body:List Stmt}{t:TS}(h:PSs (xat (cxOf (CXW P w ca) P w K mg base N qual scope f cd A outer s H E) ca [] (λx _ H'=>E (.int x.1 0) x.2 H')) body t):PSs (cxOf (CXW P w ca) P w K mg base N qual scope f cd A outer s H E) body t:=λpins s1 σ H1 D I q=>
 Tg (h pins s1 σ H1 D (Inv.wish I _) q) (λ_ _ z=>SP.unwish (X:=cxOf (CXW P w ca) P w K mg base N qual scope f cd A outer s H E) z) λ_ _ z=>Qkb z
theorem Qif{x qual:Str}{st:Stmt}{f:Addr}{fd:FuncData}{N ps:List Str}{k n j:Nat}{m:MS}(F:Fun K x qual st f fd)(S:FnScope N ps (Qe st))(hj:ps.length=j)(hn:N.length-ps.length=n)(h:∀(cdv:Value) (A:Around) (outer:List Env) (s:Shared) (H:Hp) (E:XK),Room k (A.deeper (envOfC qual (Qe st) s.heap.objs.size f cdv))->PSs3 ca (cxOf (CXW P w ca) P w K mg base N qual (Qe st) f cdv A outer s H E) (Z1 st) m):FnOk P w K mg base (CXW P w ca) (k+1) f fd ps (spM K ca j (mDef j n m)):=by
 subst hj;obtain⟨oc,od,kV,doc,pm,an,cdv,ct,osl,rfl,lk,hcd⟩:=F.ex;refine QnP lk hcd S (λvs H Q E q=>q.1) λA outer s H vs Q E hr hsp=>?_;obtain⟨hl,ds,g,μ,r,q,p⟩:=hsp;refine⟨_,Qie (h cdv A outer s H E hr [] _),ds.map some++List.replicate n none,g,μ,?_,?_⟩
 ·have z:=Qid N r q;rw[hl,hn]at z;exact z
 ·unfold mDef at p;rw[Ue (by rw[<-q.length,hl])]at p;cases hm:m (ds.map some++List.replicate n none) g with
  |nx σ' g'=>rw[hm]at p;exact λσ'' H' μ' e' R'=>p .non H' μ' e' R'.g .non
  |rt d g'=>rw[hm]at p;exact p|bk _ _=>rw[hm]at p;exact p.elim|ct _ _=>rw[hm]at p;exact p.elim|raise _ _ _=>rw[hm]at p;exact λσ'' H' μ' e' R'=>p H' μ' e' R'.g
  |stuck=>rw[hm]at p;exact p.elim
def EK(Φ:XS)(σ:L2.St):XK:=λc l H'=>∀x:Xc,c=.int x.1 0->l=x.2->Φ x σ H'
theorem Qf6(st:∀ds g,ds.length≠n->F ds g=.stuck)(r:GRep K ca μ H g)(q:Dens K μ H vs ds)(p:Post K ca Φ σ Q H μ (F ds g)):spM K ca n F vs H Q (EK Φ σ):=by
 have hl:vs.length=n:=by rw[q.length];apply Decidable.byContradiction;intro h;rw[st ds g h]at p;exact p
 refine⟨hl,ds,g,μ,r,q,?_⟩;cases hF:F ds g with
 |ok d g'=>rw[hF]at p;exact p|raise x g'=>
  rw[hF]at p;intro H' μ' e r' y e1 e2;have:x=y:=by
   obtain⟨a,b⟩:=x;obtain⟨c,d⟩:=y;injection e1 with e1;have e1:(a:Int)=(c:Int):=e1;have e3:a=c:=by omega
   rw[e3,show b=d from e2]
  rw[<-this];exact p H' μ' e r'
 |stuck=>rw[hF]at p;exact p
end
section
variable{X:Cx}{ca:Nat->Addr}{e o:Expr}{es:List Expr}{me mo:ME}{mr:MA}{p pos apos:Pos}{k n:Nat}{F:MF}{pn:LAO}{Φ:XS}
theorem Qig{f:Addr}{fd:FuncData}{ps:List Str}{pins:LAO}{σ:L2.St}{H:Hp}{s:Shared}{Q:VK}{us:List Value}{vs:List V}(G:FnOk X.prog X.w X.K X.mg X.base (CXW X.prog X.w ca) k f fd ps (spM X.K ca n F))(hr:Room k X.A)(hb:Binds X.K fd ps [])(I:Inv (xat X ca pn Φ) pins σ H s)(r:Vals vs us)(h:spM X.K ca n F vs H Q (EK Φ σ)):wpAny (model X.prog X.w) X.A (call (.ref f) us) (EP (xat X ca pn Φ) pins σ Q) (xat X ca pn Φ).xe s:=by
 have hl:(us++[]).length=ps.length:=by rw[UY,<-r.length];exact G.len _ _ _ _ h
 have b:=hb s us I.kIn hl;rw[UY]at b;refine wpAny_call (BV (G.run X.A X.stack s H ⟨us,[]⟩ us vs Q (EK Φ σ) hr I.env0 b r h) λres s' hq=>?_);cases res with
 |error z=>exact Qh8 I hq|ok fl=>
  cases fl with
  |ret u=>exact I.after hq|_=>exact False.elim hq
theorem QG{x:Str}(h:FnH X.prog X.w X.K X.mg X.base ca x k n F)(hr:Room k X.A)(ha:PA3 ca X (e::es) mr)(hg:Gl X x:=by rfl)(hdb:(x==("__debug__" : Str))=false:=by decide)(he:starEach (e::es) X.env=(false,eval e X.env)::starEach es X.env:=by rfl)(hpl:(backTo pos (starEach es X.env)).any (·.1)=false:=by rfl):PE3 ca X (.Call (.Name x p) (e::es) [] pos) (Qr F mr):=by obtain⟨f,fd,ps,F1,m1,k1,b1⟩:=h.ex;intro pn Φ pins s σ H Q I ⟨σ3,g,μ,R,q⟩;refine RU (QaM I hg m1 ?_ hdb);have z:upA X.K ca Φ mr σ H λvs H1=>spM X.K ca n F vs H1 Q (EK Φ σ):=Yf (QbM R q) λxs H1 ⟨ds,g1,μ1,e1,R1,q1,p1⟩=>Qf6 h.st R1.g q1 p1;refine Bo (h₀:=X.base) I.ok.mod.kin k1 (thn (ha pn Φ pos pins s σ H _ I z) λus s1 ⟨vs,H1,I1,r,q1⟩=>⟨I1.kIn,?_⟩) he hpl;exact Qig F1 hr b1 I1 r q1
theorem Qih{K:Frag}{c:Nat}{m:Str}{σ:L2.St}{H:Hp}{Q:VK}{α:Type}{kk:Nat->G->Res α}{R:Res α->Hp->List Addr->Prop}{d:D}{g:G}{μ:List Addr}{v:V}(r:GRep K ca μ H g)(hst:¬R .stuck H μ)(p:R (match d with
   |.ref i=>(match g[i]? with
    |some (.ins c' fs)=>if c'=c/\fs.lookup m=none then kk i g else .stuck
    |_=>.stuck)
   |_=>.stuck) H μ)(q:Den K μ H v d):∃a dx fv i,d=.ref i/\v=.ref a/\μ[i]?=some a/\H a=some (.ins (ca c) dx fv)/\fv.lookup m=none/\R (kk i g) H μ:=by
 cases q with
 |@ref i a hn=>
  dsimp only at p;cases hg:g[i]? with
  |none=>rw[hg]at p;exact(hst p).elim|some ob=>
   rw[hg]at p;obtain⟨a',ha',orp⟩:=r.addr hg;rw[hn]at ha';cases ha';cases ob with
   |ins c' fs=>
    dsimp only at p;obtain⟨dx,fv,hH,fr⟩:=orp;by_cases hc:c'=c/\fs.lookup m=none
    ·rw[Ue hc]at p;obtain⟨rfl,hl⟩:=hc;exact⟨a,dx,fv,i,rfl,rfl,hn,hH,fr.no hl,p⟩
    ·rw[Uf hc]at p;exact(hst p).elim
   |_=>exact(hst p).elim
 |_=>exact(hst p).elim
theorem Jo{c:Nat}{m:Str}{pl:Sem Bool}(h:MtH X.prog X.w X.K X.mg X.base ca c m k n F)(hr:Room k X.A)(ho:PE3 ca X o mo)(ha:PA3 ca X (e::es) mr)(hst:starEach (e::es) X.env=(false,eval e X.env)::starEach es X.env:=by rfl)(hpl:(backTo pos (starEach es X.env)).any (·.1)=false:=by rfl)(ht:eval (.Call (.Attribute o m apos) (e::es) [] pos) X.env=(do
   let ov <-eval o X.env
   standAt apos.atName
   let (f,first) <-holding [ov] (getMethod ov m pl)
   callWith pos f first (backTo pos (starEach (e::es) X.env)) (backToKw pos (keywordEach [] X.env))):=by rfl):PE3 ca X (.Call (.Attribute o m apos) (e::es) [] pos) (Yc c m F mo mr):=by
 obtain⟨f,fd,ps,F1,m1,k1,b1⟩:=h.ex;intro pn Φ pins s σ H Q I ⟨σ3,g,μ,R,q⟩;refine methodCall_KW (pl:=pl) (thn (ho pn Φ pins s σ H _ I (Y7 R q)) λu s1 ⟨x,H1,I1,rx,d,g1,μ1,e1,R1,q1,p1⟩=>?_) ht;obtain⟨a,dx,fv,i,rfl,rfl,hn,hH,hl,p2⟩:=Qih (Q:=Q) (σ:=σ) (R:=λr H μ=>Post X.K ca Φ σ Q H μ r) (kk:=λi g=>(mr σ3 g).bind λxs g2=>F (.ref i::xs) g2) R1.g (λz=>z) p1 q1;obtain rfl:u=Value.ref a:=rx;refine Qcv I1 hH k1 m1 hl ?_;have z:upA X.K ca Φ mr σ H1 λvs H2=>spM X.K ca n F (.ref a::vs) H2 Q (EK Φ σ):=Yf (QbM R1 p2) λxs H2 ⟨ds,g2,μ2,e2,R2,q2,p3⟩=>Qf6 h.st R2.g (.cons (.ref (e2.at hn)) q2) p3;refine Bo (first:=[.ref a]) (h₀:=X.base) I.ok.mod.kin m1.kp (thn (ha pn Φ pos pins s1 σ H1 _ I1 z) λus s2 ⟨vs,H2,I2,r,q2⟩=>⟨I2.kIn,?_⟩) hst hpl;exact Qig (us:=.ref a::us) (vs:=.ref a::vs) F1 hr b1 I2 (.cons rfl r) q2
theorem Qfa{c:Nat}{m:Str}{pl:Sem Bool}(h:MtH X.prog X.w X.K X.mg X.base ca c m k n F)(hr:Room k X.A)(ho:PE3 ca X o mo)(ht:eval (.Call (.Attribute o m apos) [] [] pos) X.env=(do
   let ov <-eval o X.env
   standAt apos.atName
   let (f,first) <-holding [ov] (getMethod ov m pl)
   callWith pos f first (backTo pos (starEach [] X.env)) (backToKw pos (keywordEach [] X.env))):=by rfl):PE3 ca X (.Call (.Attribute o m apos) [] [] pos) (Yc c m F mo mNil):=by
 obtain⟨f,fd,ps,F1,m1,k1,b1⟩:=h.ex;intro pn Φ pins s σ H Q I ⟨σ3,g,μ,R,q⟩;refine methodCall_KW (pl:=pl) (thn (ho pn Φ pins s σ H _ I (Y7 R q)) λu s1 ⟨x,H1,I1,rx,d,g1,μ1,e1,R1,q1,p1⟩=>?_) ht;obtain⟨a,dx,fv,i,rfl,rfl,hn,hH,hl,p2⟩:=Qih (Q:=Q) (σ:=σ) (R:=λr H μ=>Post X.K ca Φ σ Q H μ r) (kk:=λi g=>(mNil σ3 g).bind λxs g2=>F (.ref i::xs) g2) R1.g (λz=>z) p1 q1;obtain rfl:u=Value.ref a:=rx;refine Qcv I1 hH k1 m1 hl ?_;exact callWith_K0 (first:=[.ref a]) I1.kIn m1.kp (Qig (us:=[.ref a]) (vs:=[.ref a]) F1 hr b1 I1 (.cons rfl .nil) (Qf6 h.st R1.g (.cons (.ref hn) .nil) p2))
def MkQ(X:Cx)(ca:Nat->Addr)(c n:Nat)(F:MF)(Φ:XS)(σ:L2.St)(Q:VK)(vs:List V)(H1:Hp):Prop:=∀y dy,H1 y=none->H1 dy=none->dy≠y->spM X.K ca n F (.ref y::vs) (upd (upd H1 dy (.own y)) y (.ins (ca c) dy [])) (λv H2=>v=.non/\Q (.ref y) H2) (EK Φ σ)
theorem mk_z{c:Nat}{x:Str}{Φ:XS}{σ:L2.St}{H:Hp}{μ:List Addr}{σ3:S3}{g:G}{Q:VK}(h:MkH X.prog X.w X.K X.mg X.base ca c x k n F)(R:Rep X.K ca μ σ3 g σ H)(q:Post X.K ca Φ σ Q H μ (QaO c F mr σ3 g)):upA X.K ca Φ mr σ H (MkQ X ca c n F Φ σ Q):=
 Yf (QbM R q) λxs H1 ⟨ds,g1,μ1,e1,R1,q1,p1⟩ y dy hy hdy ne=>by
  have hy2:(upd H1 dy (.own y)) y=none:=by rw[Qo (Ne.symm ne)];exact hy
  have ex1:Ext X.K μ1 H1 μ1 (upd H1 dy (.own y)):=QM hdy;have g2:=R1.g.new (o:=.own y) hdy;have ex2:Ext X.K μ1 (upd H1 dy (.own y)) (μ1++[y]) (upd (upd H1 dy (.own y)) y (.ins (ca c) dy [])):=Qx hy2;have g3:GRep X.K ca (μ1++[y]) (upd (upd H1 dy (.own y)) y (.ins (ca c) dy [])) (g1++[.ins c []]):=g2.push hy2 ⟨dy,[],Qk,.nil⟩;have ey:(μ1++[y])[g1.length]?=some y:=by rw[<-R1.g.len];simp
  refine Qf6 (Φ:=Φ) (σ:=σ) h.st g3 (.cons (.ref ey) ((q1.mono ex1).mono ex2)) ?_;cases hF:F (D.ref g1.length::ds) (g1++[.ins c []]) with
  |stuck=>rw[hF]at p1;exact p1.elim|raise _ _=>rw[hF]at p1;exact RaP.go (ex1.trans ex2) p1|ok d g4=>
   rw[hF,Res.bind_ok]at p1;intro v H' μ' e' r' q';cases q' with
   |non=>exact⟨rfl,p1 _ H' μ' ((ex1.trans ex2).trans e') r' (.ref (e'.at ey))⟩|_=>exact p1.elim
theorem Qlj{c:Nat}{x:Str}{pn:LAO}{Φ:XS}{pins:LAO}{s1:Shared}{σ:L2.St}{H1:Hp}{vs:List V}{us:List Value}{Q:VK}(h:MkH X.prog X.w X.K X.mg X.base ca c x k n F)(hr:Room (k+1) X.A)(I1:Inv (xat X ca pn Φ) pins σ H1 s1)(r:Vals vs us)(q1:MkQ X ca c n F Φ σ Q vs H1):wpAny (model X.prog X.w) X.A (call (.ref (ca c)) us) (EP (xat X ca pn Φ) pins σ Q) (xat X ca pn Φ).xe s1:=by
 obtain⟨f,fd,ps,F1,m1,k1,b1⟩:=h.ex;have hq:=q1 (s1.heap.objs.size+1) s1.heap.objs.size (I1.hok.fresh (Nat.le_succ _)) (I1.hok.fresh (Ug _)) (UR (T6 _));have I2:=Inv.made (C:=ca c) I1;have r2:Vals (V.ref (s1.heap.objs.size+1)::vs) (Value.ref (s1.heap.objs.size+1)::us):=.cons rfl r;have hl:(Value.ref (s1.heap.objs.size+1)::us++[]).length=ps.length:=by have w:=r2.length;rw[F1.len _ _ _ _ hq]at w;rw[UY];exact w.symm
 have b2:=b1 _ (Value.ref (s1.heap.objs.size+1)::us) I2.kIn hl;rw[UY]at b2;refine wpAny_call (QjZ (f:=f) I1.kIn m1.makes m1.init (TB.mp m1.fn) (BV (F1.run _ X.stack _ _ ⟨Value.ref (s1.heap.objs.size+1)::us,[]⟩ (Value.ref (s1.heap.objs.size+1)::us) _ _ (EK Φ σ) (hr.make (ca c) us [])
  (I2.env0.make (ca c) us []) b2 r2 hq) λres s' hq'=>?_))
 cases res with
 |error z=>exact Qh8 I2 hq'|ok fl=>
  cases fl with
  |ret u =>obtain⟨v,H',I3,rv,ev,q3⟩:=I2.after hq';subst ev;exact⟨rv,⟨V.ref (s1.heap.objs.size+1),H',I3,rfl,q3⟩⟩|_=>exact False.elim hq'
theorem Qlk{c:Nat}{x:Str}(h:MkH X.prog X.w X.K X.mg X.base ca c x k n F)(hr:Room (k+1) X.A)(ha:PA3 ca X (e::es) mr)(hg:Gl X x:=by rfl)(hdb:(x==("__debug__" : Str))=false:=by decide)(he:starEach (e::es) X.env=(false,eval e X.env)::starEach es X.env:=by rfl)(hpl:(backTo pos (starEach es X.env)).any (·.1)=false:=by rfl):PE3 ca X (.Call (.Name x p) (e::es) [] pos) (QaO c F mr):=by obtain⟨f,fd,ps,F1,m1,k1,b1⟩:=h.ex;intro pn Φ pins s σ H Q I ⟨σ3,g,μ,R,q⟩;refine RU (QaM I hg k1 ?_ hdb);exact Bo (h₀:=X.base) I.ok.mod.kin m1.kp (thn (ha pn Φ pos pins s σ H _ I (mk_z h R q)) λus s1 ⟨vs,H1,I1,r,q1⟩=>⟨I1.kIn,Qlj h hr I1 r q1⟩) he hpl
theorem Qmp{c:Nat}{x:Str}(h:MkH X.prog X.w X.K X.mg X.base ca c x k n F)(hr:Room (k+1) X.A)(hg:Gl X x:=by rfl)(hdb:(x==("__debug__" : Str))=false:=by decide):PE3 ca X (.Call (.Name x p) [] [] pos) (QaO c F mNil):=by obtain⟨f,fd,ps,F1,m1,k1,b1⟩:=h.ex;intro pn Φ pins s σ H Q I ⟨σ3,g,μ,R,q⟩;refine RU (QaM I hg k1 ?_ hdb);obtain⟨_,_,μ',R',p'⟩:=mk_z h R q;exact callWith_K0 I.kIn m1.kp (Qlj h hr I .nil (p' [] H μ' .refl R'.g .nil))
end
section
variable{X:Cx}{ca:Nat->Addr}{tg e:Expr}{me:ME}{mr:MA}{p pos:Pos}
theorem QbO(h:PI X tg iter t)(i:∀σ H R,t' σ H R->t σ H R):PI X tg iter t':=λpins s σ H R I q=>h pins s σ H R I (i σ H R q)
theorem Qii(K:Frag)(μ:List Addr)(H:Hp)(lo:Int)(n:Nat):Sim K ca μ H (Yd lo n) (Itr lo n):=by
 intro i H1 μ1 g1 e r;unfold Yd;dsimp only;by_cases h:i<n
 ·rw[Ue h];exact⟨h,λx H' y=>by obtain⟨rfl,rfl⟩:=y;exact⟨.refl,r,.int _⟩⟩
 ·rw[Uf h];exact Wl h
theorem Qmq{K:Frag}{μ:List Addr}{H:Hp}{a:Addr}{vs:List V}{ds:List D}(h:SqT K H a vs)(q:Dens K μ H vs ds):Sim K ca μ H ⟨λ_ i=>some ds[i]?,ds.length⟩ (Itt K a):=by
 intro i H1 μ1 g1 e r;dsimp only;cases hd:ds[i]? with
 |none =>refine⟨vs,e.tup _ _ h,?_⟩;rw[q.length];exact Tc.mp hd|some d =>obtain⟨v,h1,h2⟩:=q.get hd;refine⟨⟨vs,v,e.tup _ _ h,h1⟩,λx H' y=>?_⟩;obtain⟨rfl,y⟩:=y;have:=y vs (e.tup _ _ h);rw[h1]at this;cases this;exact⟨.refl,r,h2.mono e⟩
theorem Qmr{K:Frag}{μ:List Addr}{H:Hp}{a:Addr}{n t:Nat}(hn:μ[n]?=some a):Sim K ca μ H ⟨λg i=>(match g[n]? with|some (.lst es)=>some es[i]? | _=>none),t⟩ (Itl K a):=by
 intro i H1 μ1 g1 e r;dsimp only;cases hg:g1[n]? with
 |none=>trivial|some o=>
  cases o with
  |lst ds=>
   dsimp only;obtain⟨a',ha',vs,hH,q⟩:=r.addr hg;rw[e.at hn]at ha';cases ha';cases hd:ds[i]? with
   |none =>refine⟨vs,.of hH,?_⟩;rw[q.length];exact Tc.mp hd|some d =>obtain⟨v,h1,h2⟩:=q.get hd;refine⟨⟨vs,v,.of hH,h1⟩,λx H' y=>?_⟩;obtain⟨rfl,y⟩:=y;have:=y vs (.of hH);rw[h1]at this;cases this;exact⟨.refl,r,h2⟩
  |_=>trivial
theorem Qot{K:Frag}{μ:List Addr}{H:Hp}{a:Addr}{vs:List V}{ds:List D}(h:SqF K H a vs)(q:Dens K μ H vs ds):Sim K ca μ H ⟨λ_ i=>some ds[i]?,ds.length⟩ (Itl K a):=by
 intro i H1 μ1 g1 e r;dsimp only;have sq:SqL K H1 a vs:=(e.fl _ _ h).sq;cases hd:ds[i]? with
 |none =>refine⟨vs,sq,?_⟩;rw[q.length];exact Tc.mp hd|some d =>obtain⟨v,h1,h2⟩:=q.get hd;refine⟨⟨vs,v,sq,h1⟩,λx H' y=>?_⟩;obtain⟨rfl,y⟩:=y;have:=y vs sq;rw[h1]at this;cases this;exact⟨.refl,r,h2.mono e⟩
theorem Qou(hl:PE X l tl):PI X tg l (λσ H R=>tl σ H λx H1=>(∃a,x=.ref a/\(∃xs,SqL X.K H1 a xs)/\R (Itl X.K a) H1)\/∃a,x=.ref a/\(∃xs,SqT X.K H1 a xs)/\R (Itt X.K a) H1):=by
 intro pins s σ H R I h;refine thn (hl pins s σ H _ I h) λv s1 ⟨x,H1,I1,r1,q1⟩=>?_;rcases q1 with⟨a,e,⟨xs,hq⟩,q⟩|⟨a,e,⟨xs,hq⟩,q⟩
 ·subst e;cases r1;obtain⟨its,rv,p,hz⟩:=I1.list hq;refine Bz p.isList ?_;refine⟨s1.heap.objs.size,[s1.heap.objs.size],_,_,H1,rfl,I1.kept (t':=s1.toks) λb o e=>Uc _ e,Qhx a _,⟨_,Uy _ rfl,rfl,rfl⟩,λb hb=>?_,q⟩;have e:b=s1.heap.objs.size:=by simpa using hb
  subst e;exact I1.fpOk (Ug _) (I1.hok.fresh (Ug _))
 ·subst e;cases r1;obtain⟨its,rv,p,hz⟩:=I1.tuple hq;refine wpAny_pyIter_tuple (show s1.heap.IsTuple a its.toArray from p) ?_;refine⟨s1.heap.objs.size,[s1.heap.objs.size],_,_,H1,rfl,I1.kept (t':=s1.toks) λb o e=>Uc _ e,QgC a _,⟨_,Uy _ rfl,rfl,rfl⟩,λb hb=>?_,q⟩;have e:b=s1.heap.objs.size:=by simpa using hb
  subst e;exact I1.fpOk (Ug _) (I1.hok.fresh (Ug _))
theorem YK(he:PE3 ca X e me):PI3 ca X tg e (QR me):=
 λpn Φ=>QbO (Qou (X:=xat X ca pn Φ) (he pn Φ)) λσ H R hQ=>by
  obtain⟨σ3,g,μ,Rp,p⟩:=hQ;unfold QR at p;refine⟨σ3,g,μ,Rp,?_⟩;cases hm:me σ3 g with
  |raise _ _=>rw[hm]at p;exact p|stuck=>rw[hm]at p;exact p.elim|ok d g1=>
   rw[hm,Res.bind_ok]at p;intro v H1 μ1 e1 r1 q1;unfold JY at p;cases q1 with
   |@tup a vs ds ht hs =>exact .inr ⟨a,rfl,⟨vs,ht⟩,p _ H1 μ1 e1 r1 (Qmq ht hs)⟩|@fl a vs ds ht hs=>exact .inl ⟨a,rfl,⟨vs,ht.sq⟩,p _ H1 μ1 e1 r1 (Qot ht hs)⟩|@ref n a hn=>
    dsimp only at p;cases hg:g1[n]? with
    |none=>rw[hg]at p;exact p.elim|some o=>
     rw[hg]at p;obtain⟨a',ha',orp⟩:=r1.addr hg;rw[hn]at ha';cases ha';cases o with
     |lst ds=>obtain⟨vs,hH,q⟩:=orp;exact .inl ⟨a,rfl,⟨vs,.of hH⟩,p _ H1 μ1 e1 r1 (Qmr hn)⟩|_=>exact p.elim
   |_=>exact p.elim
theorem Qdo(hm:X.mg "range"=none)(he:PE3 ca X e me)(hg:Gl X "range":=by rfl)(hs:starEach [e] X.env=[(false,eval e X.env)]:=by rfl):PI3 ca X tg (.Call (.Name "range" p) [e] [] pos) (ZH me):=
 λpn Φ=>QbO (Qhy (X:=xat X ca pn Φ) hg hm (Jf he Qm hs pn Φ) hs) λσ H R hQ=>by
  obtain⟨σ3,g,μ,Rp,p⟩:=hQ;refine⟨σ3,g,μ,Rp,?_⟩;unfold ZH at p;unfold Qa mNil;cases hm:me σ3 g with
  |raise _ _=>rw[hm]at p;exact p|stuck=>rw[hm]at p;exact p.elim|ok d g1=>
   rw[hm,Res.bind_ok]at p;rw[Res.bind_ok,Res.bind_ok];intro vs H1 μ1 e1 r1 q1;cases q1 with
   |cons h1 h2=>
    cases h2;cases h1 with
    |int j=>
     dsimp only at p;by_cases hj:inR j
     ·rw[Ue hj]at p;exact⟨j,rfl,hj.1,hj.2,p _ H1 μ1 e1 r1 (Qii X.K μ1 H1 0 j.toNat)⟩
     ·rw[Uf hj]at p;exact p.elim
    |_=>exact p.elim
end
end L3
namespace L3
open PySem PySem.Spec PyProof.Rows L2
def blk(X:Cx)(scope:Scope)(cl:List (Str×Addr))(C:Addr)(Nb:List Str)(s3:Shared)(H3:Hp)(ex:List Addr):Cx:={X with env:=compEnvC scope cl C X.env,N:=Nb,s₀:=s3,H₀:=H3,outer:=X.stack,stack:=X.stack,ex:=ex,fn:=λ_=>false,pn:=[],xe:=λ_ _=>False}
structure BScope(X:Cx)(scope:Scope)(Nb:List Str)(no:Nat)(cap:List Nat):Prop where
 kind:scope.kind=.function
 cell:∀y∈scope.names,y.2≠.cell
 loc:∀y∈scope.names,y.2=.local->scope.names.lookup y.1=some .local
 free:∀y∈scope.names,y.2=.free->X.env.kindOf y.1=some .cell\/X.env.kindOf y.1=some .free
 len:Nb.length=no+cap.length
 cap:∀(j i:Nat),cap[j]?=some i->∃x,Nb[no+j]?=some x/\X.N[i]?=some x/\scope.names.lookup x=some .free/\Vis X.env.scope x/\X.env.kindOf x≠some .local
def clOf(cells:List (Str×Addr)):List (Str×NameKind)->List (Str×Addr)->Option (List (Str×Addr))
 |[],cs=>some cs| (n,k)::r,cs=>if (k==.free)=true then (match cells.lookup n with
  |some a=>clOf cells r ((n,a)::cs)|none=>none) else clOf cells r cs
theorem QaP:∀(names:List (Str×NameKind))(cs cl:List (Str×Addr)),clOf env.cells names cs=some cl->
  (forIn names cs λ(x:Str×NameKind)(r:List (Str×Addr))=>(match x with
   | (name,kind)=>if (kind==.free)=true then (do let a <-cellOf env name;pure (ForInStep.yield ((name,a)::r))) else pure (ForInStep.yield r):Sem (ForInStep (List (Str×Addr)))))=(pure cl:Sem (List (Str×Addr)))
 |[],cs,cl,h=>by cases h;rfl
 | (n,k)::r,cs,cl,h=>by
  unfold clOf at h;rw[RY];by_cases hk:(k==.free)=true
  ·rw[Ue hk]at h;cases hl:env.cells.lookup n with
   |none=>rw[hl]at h;cases h|some a =>rw[hl]at h;dsimp only at h ⊢;rw[Ue hk];unfold cellOf;rw[hl];exact QaP r _ cl h
  ·rw[Uf hk]at h;dsimp only;rw[Uf hk];exact QaP r _ cl h
theorem Qdp(h:clOf env.cells scope.names []=some cl):closureFor scope env=pure cl:=by have q:=QaP (env:=env) scope.names [] cl h;unfold closureFor;exact RL (λt=>t >>= λr=>(pure r:Sem _)) q
theorem QbP:∀(names:List (Str×NameKind))(cs:List (Str×Addr)),(∀y∈names,y.2=.free->∃c,cells.lookup y.1=some c)->∃cl,clOf cells names cs=some cl
 |[],cs,_=>⟨cs,rfl⟩| (n,k)::r,cs,h=>by
  unfold clOf;by_cases hk:(k==.free)=true
  ·rw[Ue hk];obtain⟨c,e⟩:=h (n,k) UD (TB.mp hk);rw[show cells.lookup n=some c from e];exact QbP r _ λy hy=>h y (Uz _ hy)
  ·rw[Uf hk];exact QbP r _ λy hy=>h y (Uz _ hy)
theorem YD:∀(names:List (Str×NameKind))(cs cl:List (Str×Addr)),clOf cells names cs=some cl->(∀x c,cs.lookup x=some c->cells.lookup x=some c)->∀x c,cl.lookup x=some c->cells.lookup x=some c
 |[],cs,cl,h,hc=>by cases h;exact hc
 | (n,k)::r,cs,cl,h,hc=>by
  unfold clOf at h;by_cases hk:(k==.free)=true
  ·rw[Ue hk]at h;cases hl:cells.lookup n with
   |none=>rw[hl]at h;cases h|some a=>
    rw[hl]at h;refine YD r _ cl h λx c e=>?_;by_cases z:x=n
    ·subst z;simp only[List.lookup,BL]at e;cases e;exact hl
    ·have zb:(x==n)=false:=Th.mpr z;simp only[List.lookup,zb]at e;exact hc x c e
  ·rw[Uf hk]at h;exact YD r _ cl h hc
theorem Qbs:∀(names:List (Str×NameKind))(cs cl:List (Str×Addr)),clOf cells names cs=some cl->∀x,(x∈names.filterMap λy=>if (y.2==.free)=true then some y.1 else none)\/(∃c,cs.lookup x=some c)->∃c,cl.lookup x=some c
 |[],cs,cl,h,x,hx=>by
  cases h;rcases hx with hx|hx
  ·simp at hx
  ·exact hx
 | (n,k)::r,cs,cl,h,x,hx=>by
  unfold clOf at h;by_cases hk:(k==.free)=true
  ·rw[Ue hk]at h;cases hl:cells.lookup n with
   |none=>rw[hl]at h;cases h|some a=>
    rw[hl]at h;refine Qbs r _ cl h x ?_;by_cases z:x=n
    ·subst z;exact .inr ⟨a,by simp[List.lookup]⟩
    ·have zb:(x==n)=false:=Th.mpr z;rcases hx with hx|⟨c,hx⟩
     ·rw[Rn]at hx;simp only[hk,Wk]at hx;rcases UG.mp hx with e|e
      ·exact absurd e z
      ·exact .inl e
     ·exact .inr ⟨c,by simp only[List.lookup,zb];exact hx⟩
  ·rw[Uf hk]at h;refine Qbs r _ cl h x ?_;rcases hx with hx|hx
   ·rw[Rn]at hx;simp only[hk]at hx;exact .inl (by simpa using hx)
   ·exact .inr hx
theorem QbQ{names:List (Str×NameKind)}{x:Str}(h:names.lookup x=some .free):x∈names.filterMap λy=>if (y.2==.free)=true then some y.1 else none:=Bk.mpr ⟨(x,.free),Ro h,by simp⟩
theorem Jp{env:Env}:∀{names:List (Str×NameKind)}{x:Str}{k:NameKind},(∀y∈names,y.2≠.cell)->(names.map λ(n,k)=>if (k==NameKind.free&&env.scope.kind==.function&&env.kindOf n==some .cell) then (n,NameKind.cell) else (n,k)).lookup x=some k->(k=.cell\/k=.free)->names.lookup x=some .free
 |[],_,_,_,h,_=>by cases h
 | (n,k0)::r,x,k,hn,h,hk=>by
  have ih:=@Jp env r x k λy hy=>hn y (Uz _ hy);rw[UO]at h;by_cases hc:(k0==NameKind.free&&env.scope.kind==.function&&env.kindOf n==some .cell)=true
  ·have k0f:k0=.free:=by simp only[UN]at hc;exact TB.mp hc.1.1
   dsimp only at h;rw[Ue hc]at h;cases hx:x==n with
   |true=>simp only[List.lookup,hx];rw[k0f]|false=>simp only[List.lookup,hx]at h ⊢;exact ih h hk
  ·dsimp only at h;rw[Uf hc]at h;cases hx:x==n with
   |true=>
    simp only[List.lookup,hx]at h ⊢;cases h;rcases hk with e|e
    ·exact absurd e (hn (n,k0) UD)
    ·rw[e]
   |false=>simp only[List.lookup,hx]at h ⊢;exact ih h hk
theorem Qep{prog:Program}{w:World}{A:Around}{R:Result->Shared->Prop}{s:Shared}{elt target iter:Expr}{ifs:List Expr}{scope:Scope}{pos:Pos}{it acc:Value}{env:Env}(I:Nat->Shared->Prop)(turn:∀n s,I n s->wpAny (model prog w) A (pyNext it) (λr s₁=>match r with
   |none=>R (.ok .next) s₁|some v=>wpAny (model prog w) A (letOwnedTupleGo target it v) (λ_ s1'=>wpAny (model prog w) A (assign target env v) (λ_ s₂=>
     wpAny (model prog w) A (forIn ifs true λc r=>if r=true then do let ok <-isTrue c env (eval c env);pure (ForInStep.yield ok) else pure (ForInStep.yield r)) (λok s₃=>
      if ok=true then wpAny (model prog w) A (eval elt env) (λx s₄=>
       wpAny (model prog w) A (call (.builtin "list.append") [acc,x]) (λ_ s₅=>∃m,m<n/\I m s₅) (λ_ _=>False) s₄) (λ_ _=>False) s₃
      else ∃m,m<n/\I m s₃) (λ_ _=>False) s₂) (λ_ _=>False) s1') (λ_ _=>False) s₁) (λ_ _=>False) s)(n:Nat)(h:I n s):codeAny (model prog w) A (.compLoop (.ListComp elt [⟨target,iter,ifs,0⟩] scope pos) 0 it acc env) R s:=by
 refine codeAny_loop rfl I (λn s hI=>?_) n h;show wpAny _ A ((compTurn (.ListComp elt [⟨target,iter,ifs,0⟩] scope pos) 0 it acc env).onRaise (λx=>do noteFrame x env;theTreesLotGoes x)) _ _ s;refine wpAny_noted ?_;rw[compTurn_list];refine Ua (wpAny_standAt (Ua (Tg (turn n s hI) (λr s₁ h₁=>?_) λ_ _ h'=>h'.elim)));cases r with
 |none=>exact Ub h₁|some v=>
  refine Ua (Tg h₁ (λ_ s1' h1'=>?_) λ_ _ h'=>h'.elim);refine Ua (Tg h1' (λ_ s₂ h₂=>Ua (Tg h₂ (λok s₃ h₃=>?_) λ_ _ h'=>h'.elim)) λ_ _ h'=>h'.elim);cases ok with
  |false=>exact Ub ⟨rfl,h₃⟩|true =>exact Ua (Ua (Tg h₃ (λx s₄ h₄=>Ua (Tg h₄ (λ_ s₅ h₅=>Ub (Ub ⟨rfl,h₅⟩)) λ_ _ h'=>h'.elim)) λ_ _ h'=>h'.elim))
theorem Inv.track(I:Inv X pins σ H s)(ha:FpOk X pins H a)(new:ObjOk X.prog X.w (upd H a o) s.heap a o):Inv X pins σ (upd H a o) s:=by
 obtain⟨f0,f1,f2,f3,f4,f5⟩:=ha;have ne:∀b u,H b=some u->b≠a:=λb u e=>Qy e f0;refine I.step (h':=s.heap) (g':=s.gens) (t':=s.toks) (d':=s.drawn) (ch:=[a]) (λb hb=>?_) (λb o _ _ _ e _=>e) (λb o _ _ _ e _=>⟨o.slots,e⟩) (λb o hb e n=>?_) (λb o _ e=>⟨o,e⟩)
  (λb xs e=>by rw[Qo (ne b _ e)];exact e) (λb o u e=>by rw[Qo (ne b _ e)];exact e) (λb ps e=>⟨#[],by rw[Qo (ne b _ e),e];simp⟩) (λ_ h=>h) (λb u e=>?_) I.bare
 ·have e:b=a:=by simpa using hb
  subst e;exact⟨f3,f1,f4,f5⟩
 ·rw[Qo (λz=>hb (by simp[z]))];exact n
 ·by_cases hb:b=a
  ·subst hb;rw[Qk]at e;cases e;exact new
  ·rw[Qo hb]at e;exact(I.hok b u e).stay (λ_ _ _ q=>q) (λc q=>by rw[Qo (ne c _ q)];exact q) λc xs q=>by rw[Qo (ne c _ q)];exact q
theorem FpOk.mono(h:FpOk X pins H b)(n:H' b=none):FpOk X pins H' b:=⟨n,h.2⟩
abbrev F0:XS:=λ_ _ _=>False
theorem noX(h:wpAny M A t Q (XE X ca F0) s):wpAny M A t Q (λ_ _=>False) s:=Tg h (λ_ _ z=>z) λ_ _ ⟨_,_,_,_,_,_,_,z⟩=>z
def PIf(ca:Nat->Addr)(X:Cx)(ifs:List Expr)(m:MT):Prop:=∀(pins:LAO)(s:Shared)(σ:L2.St)(H:Hp)(Q:Bool->Hp->Prop),Inv (xat X ca [] F0) pins σ H s->upT X.K ca F0 m σ H Q->wpAny (model X.prog X.w) X.A (forIn ifs true λc r=>if r=true then do let ok <-isTrue c X.env (eval c X.env);pure (ForInStep.yield ok) else pure (ForInStep.yield r)) (TP (xat X ca [] F0) pins σ Q) (λ_ _=>False) s
theorem Qkc  : PIf ca X [] Qam:=by intro pins s σ H Q I ⟨_,_,μ,R,p⟩;rw[Wj];exact Ub ⟨H,I,p H μ .refl R.g⟩
theorem Qov(h:PT3 ca X c m):PIf ca X [c] m:=by intro pins s σ H Q I q;exact wpAny_tests_one (noX (h [] F0 pins s σ H Q I q))
end L3
namespace L3
open PySem PySem.Spec PyProof.Rows L2
section
variable{X:Cx}{ca:Nat->Addr}{pn:LAO}
theorem Qow{scope:Scope}{Nb:List Str}{no:Nat}{cap:List Nat}{cl:List (Str×Addr)}{pins:LAO}{σ:L2.St}{H:Hp}{s:Shared}{ex:List Addr}(B:BScope X scope Nb no cap)(hcl:clOf X.env.cells scope.names []=some cl)(I:Inv (xat X ca pn F0) pins σ H s)(hex:∀b∈ex,FpOk (xat X ca pn F0) pins H b)(hlt:∀b∈ex,b<s.heap.objs.size):(xat (blk X scope cl s.heap.objs.size Nb s H ex) ca [] F0).Ok where
 mod:=I.ok.mod
 kind:=B.kind
 glob:=I.ok.glob
 blt:=I.ok.blt
 above:=Ug _
 inj:=λx y c h1 h2=>I.ok.inj x y c (YD _ _ _ hcl (λ_ _ z=>by cases z) x c h1) (YD _ _ _ hcl (λ_ _ z=>by cases z) y c h2)
 has:=λx hx=>Qbs _ _ _ hcl x (.inl (QbQ (by
  rcases hx with hx|hx
  ·exact Jp B.cell hx (.inl rfl)
  ·exact Jp B.cell hx (.inr rfl))))
 cab:=λ_ _ z=>by cases z
 hd:=I.ok.hd
 frames:=I.ok.frames
 stk:=.inl rfl
 exf:=λb hb=>⟨UR (hlt b hb),λx c e z=>(hex b hb).2.2.2.2.1 x c (YD _ _ _ hcl (λ_ _ z=>by cases z) x c e) z⟩
 bs:=I.bs
 bsz:=Uk I.ok.bsz I.sz
 noex:=λb o e hb=>by
  rcases(hex b hb).2.2.2.1 with z|z
  ·exact I.ok.noex b o e z
  ·exact absurd (UB (Uw e) (Uk I.ok.bsz z)) (Rb _)
 exfs:=λb hb z=>by
  rcases UG.mp (I.stkSub b z) with e|e
  ·exact(hex b hb).2.1 e
  ·exact(hex b hb).2.2.1 e
 funs:=I.stack
 frf:=I.stkFree
theorem YS{env:Env}:∀{names:List (Str×NameKind)}{x:Str},names.lookup x=some .free->(names.map λ(n,k)=>if (k==NameKind.free&&env.scope.kind==.function&&env.kindOf n==some .cell) then (n,NameKind.cell) else (n,k)).lookup x=some .local->False
 |[],_,h,_=>by cases h
 | (n,k0)::r,x,h,h'=>by
  have ih:=@YS env r x;rw[UO]at h';dsimp only at h';by_cases hc:(k0==NameKind.free&&env.scope.kind==.function&&env.kindOf n==some .cell)=true
  ·rw[Ue hc]at h';cases hx:x==n with
   |true=>simp only[List.lookup,hx]at h';cases h'|false=>simp only[List.lookup,hx]at h h';exact ih h h'
  ·rw[Uf hc]at h';cases hx:x==n with
   |true=>simp only[List.lookup,hx]at h h';rw[h']at h;cases h|false=>simp only[List.lookup,hx]at h h';exact ih h h'
theorem Qkd{K:Frag}{ca:Nat->Addr}{μ2:List Addr}{σ3:S3}{g1:G}{σ:L2.St}{H2:Hp}(no:Nat)(cap:List Nat)(R2:Rep K ca μ2 σ3 g1 σ H2):Rep K ca μ2 (capt no cap σ3) g1 (List.replicate no none++cap.map λi=>(σ[i]?).getD none) H2:=by
 refine⟨R2.g,?_,λi d h=>?_⟩
 ·unfold capt;rw[Us,Us,Ta,Ta,Ud,Ud]
 ·unfold capt at h;have hi:no<=i:=by apply Wl;intro hlt;rw[Ul (by simpa using hlt),RN,Ue hlt]at h;cases h
  rw[UE (by simpa using hi),Ta,UJ]at h ⊢;cases hcp:cap[i-no]? with
  |none=>rw[hcp]at h;cases h|some j=>
   rw[hcp]at h;have h:(σ3[j]?).getD none=some d:=by simpa using h
   have hs:σ3[j]?=some (some d):=by
    cases z:σ3[j]? with
    |none=>rw[z]at h;cases h|some w=>rw[z]at h;have h:w=some d:=h;rw[h]
   obtain⟨v,h1,h2⟩:=R2.st j d hs;exact⟨v,by simp[h1],h2⟩
theorem Qij{tg iter elt:Expr}{ifs:List Expr}{scope:Scope}{pos:Pos}{Nb:List Str}{no:Nat}{cap:List Nat}{cl:List (Str×Addr)}{f:MG}{tc:MT}{me:ME}{src:Src}{pins:LAO}{σ:L2.St}{σ3:S3}{H2:Hp}{s2:Shared}{μ2:List Addr}{g1 g2:G}{ds:List D}{it:Addr}{fp:List Addr}{tn:Nat->Heap->Prop}{J:It}{RR:Value->Addr->Result->Shared->Prop}{E:VP}(B:BScope X scope Nb no cap)(hc:X.calm=true)(hb:∀cl C s3 H3 ex,PG3 ca (blk X scope cl C Nb s3 H3 ex) tg f/\PIf ca (blk X scope cl C Nb s3 H3 ex) ifs tc/\PE3 ca (blk X scope cl C Nb s3 H3 ex) elt me)(hcl:clOf X.env.cells scope.names []=some cl)(I2:Inv (xat X ca pn F0) pins σ H2 s2)(T:Turn X.prog X.w X.K tg J fp it tn)(st2:tn 0 s2.heap)(f2:∀b∈fp,FpOk (xat X ca pn F0) pins H2 b)(R2:Rep X.K ca μ2 σ3 g1 σ H2)(sim:Sim X.K ca μ2 H2 src J)(hz:src.top<=SZ)(hL:Ji src f tc me (src.top+1) 0 (capt no cap σ3) g1 []=.ok ds g2)(fin:∀(D C:Addr) (s':Shared) (H4:Hp) (μ4:List Addr) (accV:List V) (its:List Value) (k:Nat),Inv (xat X ca pn F0) pins σ H4 s'->(∃m,s'.heap.Ns C m)->FpOk (xat X ca pn F0) pins H4 C->FpOk (xat X ca pn F0) pins H4 D->D≠C->s'.heap.get? D=some {cls:=.type "list",data:=.seq its.toArray k}->Vals accV its->accV.length<=sizeLine->Ext X.K μ2 H2 μ4 H4->GRep X.K ca μ4 H4 g2->Dens X.K μ4 H4 accV ds->RR (.ref D) C (.ok .next) s'):
  wpAny (model X.prog X.w) X.A (newList []) (λacc s₃=>wpAny (model X.prog X.w) X.A (newFunctionEnv scope X.env.globals cl [] X.env.qual none .none (some X.env)) (λcenv s₄=>
   codeAny (model X.prog X.w) X.A (.compStart (.ListComp elt [⟨tg,iter,ifs,0⟩] scope pos) 0 (.ref it) acc {cenv with scope:=relabel scope X.env}) (RR acc cenv.locals) s₄) E s₃) E s2:=by
 refine UX (wpAny_newFunctionEnv B.cell (by intro y hy;simp at hy) (λh₁ hns₁ hsb₁=>?_) B.kind);dsimp only at hns₁ hsb₁ ⊢;generalize hH2:s2.heap.push {cls:=.type "list",dict:=none,data:=.seq ([]:List Value).toArray}=hp at hns₁ hsb₁ ⊢;have hC:hp.objs.size=s2.heap.objs.size+1:=by rw[<-hH2,Rg]
 have I3:Inv (xat X ca pn F0) pins σ H2 {s2 with heap:=hp}:=by rw[<-hH2];exact I2.kept (t':=s2.toks) λb o e=>Uc _ e
 have hD3:hp.get? s2.heap.objs.size=some {cls:=.type "list",data:=.seq ([]:List Value).toArray}:=by rw[<-hH2];exact Uy _ rfl
 have fD:FpOk (xat X ca pn F0) pins H2 s2.heap.objs.size:=I2.fpOk (Ug _) (I2.hok.fresh (Ug _));have fC:FpOk (xat X ca pn F0) pins H2 hp.objs.size:=I3.fpOk (Ug _) (I3.hok.fresh (Ug _));have fplt:∀b∈fp,b<s2.heap.objs.size:=λb hb=>by obtain⟨o,e,_⟩:=T.obj 0 _ st2 b hb;exact Uw e
 have DnF:s2.heap.objs.size∉fp:=λh=>Rb _ (fplt _ h);have DnC:s2.heap.objs.size≠hp.objs.size:=by rw[hC];exact UR (T6 _)
 have exOk:∀b∈s2.heap.objs.size::fp,FpOk (xat X ca pn F0) pins H2 b:=λb hb=>by
  rcases UG.mp hb with e|e
  ·rw[e];exact fD
  ·exact f2 b e
 have exLt:∀b∈s2.heap.objs.size::fp,b<hp.objs.size:=λb hb=>by
  rcases UG.mp hb with e|e
  ·rw[e,hC];exact T6 _
  ·rw[hC];exact Nat.lt_succ_of_lt (fplt b e)
 have okb:(xat (blk X scope cl hp.objs.size Nb {s2 with heap:=hp} H2 (s2.heap.objs.size::fp)) ca [] F0).Ok:=Qow (s:={s2 with heap:=hp}) B hcl I3 exOk exLt;obtain⟨hgB,hiB,heB⟩:=hb cl hp.objs.size {s2 with heap:=hp} H2 (s2.heap.objs.size::fp);have old:∀b o,hp.get? b=some o->h₁.get? b=some o:=λb o e=>hsb₁.extBut b o (UR (Uw e)) (Uc _ e)
 -- the block's first state
 have Ib:Inv (xat (blk X scope cl hp.objs.size Nb {s2 with heap:=hp} H2 (s2.heap.objs.size::fp)) ca [] F0) [] (List.replicate no none++cap.map λi=>(σ[i]?).getD none) H2 {s2 with heap:=h₁,toks:=s2.toks+([]:List (Str×Value)).length}:=by
  refine⟨okb,rfl,I3.bare,Un.kept old,⟨_,hns₁,λi x v h1 h2 h3=>?_⟩,λx c e=>?_,fC.1,λx c e=>?_,λp hp=>absurd (show p∈([]:LAO) from hp) (by simp),I3.hok.kept old,?_⟩
  ·have hi:no<=i:=by apply Wl;intro hlt;rw[Ul (by simpa using hlt),RN,Ue hlt]at h2;cases h2
   rw[UE (by simpa using hi),Ta,UJ]at h2;cases hcp:cap[i-no]? with
   |none=>rw[hcp]at h2;cases h2|some j=>
    rw[hcp]at h2;have h2:(σ[j]?).getD none=some v:=by simpa using h2
    have hs:σ[j]?=some (some v):=by
     cases z:σ[j]? with
     |none=>rw[z]at h2;cases h2|some w=>rw[z]at h2;have h2:w=some v:=h2;rw[h2]
    obtain⟨y,n1,n2,n3,n4,n5⟩:=B.cap (i-no) j hcp;have e0:no+(i-no)=i:=by omega
    rw[e0]at n1;have h1:Nb[i]?=some x:=h1;have hxy:y=x:=Option.some.inj (n1.symm.trans h1);subst hxy;obtain⟨m,hn,hl⟩:=I3.loc;obtain⟨u,ru,lk⟩:=hl j y v n2 hs n4;refine⟨u,ru,.inr ⟨?_,?_⟩⟩
    ·rcases h3 with z|z|z
     ·exact(YS n3 z).elim
     ·exact .inl z
     ·exact .inr z
    ·rcases lk with⟨k1,_⟩|⟨_,c,k2,k3⟩
     ·exact absurd k1 n5
     ·obtain⟨c',hc'⟩:=Qbs _ _ _ hcl y (.inl (QbQ n3));have:=YD _ _ _ hcl (λ_ _ z=>by cases z) y c' hc';have k2:X.env.cells.lookup y=some c:=k2;have hcc:c'=c:=Option.some.inj (this.symm.trans k2);subst hcc;exact⟨c',hc',k3.keeps old⟩
  ·obtain⟨v,z⟩:=I3.cell x c (YD _ _ _ hcl (λ_ _ z=>by cases z) x c e);exact⟨v,z.keeps old⟩
  ·exact I3.freeC x c (YD _ _ _ hcl (λ_ _ z=>by cases z) x c e)
  ·rw[Us,Ta,Ud];exact B.len.symm
 have RbR:=Qkd no cap R2;have eK:(xat (blk X scope cl hp.objs.size Nb {s2 with heap:=hp} H2 (s2.heap.objs.size::fp)) ca [] F0).K=X.K:=rfl;have eP:(xat (blk X scope cl hp.objs.size Nb {s2 with heap:=hp} H2 (s2.heap.objs.size::fp)) ca [] F0).prog=X.prog:=rfl;have eW:(xat (blk X scope cl hp.objs.size Nb {s2 with heap:=hp} H2 (s2.heap.objs.size::fp)) ca [] F0).w=X.w:=rfl;have eA:(xat (blk X scope cl hp.objs.size Nb {s2 with heap:=hp} H2 (s2.heap.objs.size::fp)) ca [] F0).A=X.A:=rfl;have eE:(xat (blk X scope cl hp.objs.size Nb {s2 with heap:=hp} H2 (s2.heap.objs.size::fp)) ca [] F0).env=compEnvC scope cl hp.objs.size X.env:=rfl;have eC:(xat (blk X scope cl hp.objs.size Nb {s2 with heap:=hp} H2 (s2.heap.objs.size::fp)) ca [] F0).calm=true:=hc;have eX:∀b∈s2.heap.objs.size::fp,b∈(xat (blk X scope cl hp.objs.size Nb {s2 with heap:=hp} H2 (s2.heap.objs.size::fp)) ca [] F0).ex:=λb hb=>hb;have eN:∀{pl:LAO}{p:Addr×Obj},p∈(xat (blk X scope cl hp.objs.size Nb {s2 with heap:=hp} H2 (s2.heap.objs.size::fp)) ca [] F0).pn++pl->p∈pl:=λh=>h;have toUn:∀{pl:LAO}{σ':L2.St}{H':Hp}{s':Shared},Inv (xat (blk X scope cl hp.objs.size Nb {s2 with heap:=hp} H2 (s2.heap.objs.size::fp)) ca [] F0) pl σ' H' s'->Un (frs (xat X ca pn F0).stack) (s2.heap.objs.size::fp) H2 H' hp s'.heap:=λI=>I.base;have toOs:∀{pl:LAO}{σ':L2.St}{H':Hp}{s':Shared},Inv (xat (blk X scope cl hp.objs.size Nb {s2 with heap:=hp} H2 (s2.heap.objs.size::fp)) ca [] F0) pl σ' H' s'->s'.os=s2.os:=λI=>I.os;generalize blk X scope cl hp.objs.size Nb {s2 with heap:=hp} H2 (s2.heap.objs.size::fp)=Xb at okb hgB hiB heB Ib eK eP eW eA eE eC eX eN toUn toOs
 -- the iterator's records,through the block
 have FpB:∀{H:Hp}{pl:LAO},(∀b∈fp,H b=none)->(∀p∈pl,p.1∉fp)->∀b∈fp,FpOk (xat Xb ca [] F0) pl H b:=λ{H pl} hn hpl b hb=>by
  have e0:=okb.exf b (eX b (Uz _ hb));refine⟨hn b hb,e0.1,?_,.inl (eX b (Uz _ hb)),e0.2,λp hp z=>?_⟩
  ·exact okb.exfs b (eX b (Uz _ hb))
  ·have hp':p∈pl:=eN hp;exact hpl p hp' (z ▸ hb)
 have FpD:∀{H:Hp},H s2.heap.objs.size=none->FpOk (xat Xb ca [] F0) [] H s2.heap.objs.size:=λ{H} hn=>by
  have e0:=okb.exf s2.heap.objs.size (eX _ UD);refine⟨hn,e0.1,?_,.inl (eX _ UD),e0.2,λp hp=>?_⟩
  ·exact okb.exfs s2.heap.objs.size (eX _ UD)
  ·exact absurd (eN hp) (by simp)
 have st4:tn 0 h₁:=T.keep _ _ _ st2 λb hb o e=>old b o (by rw[<-hH2];exact Uc _ e)
 -- the invariant
 have loop:∀s4:Shared,s4 = {s2 with heap:=h₁,toks:=s2.toks+([]:List (Str×Value)).length}->codeAny (model X.prog X.w) X.A (.compLoop (.ListComp elt [⟨tg,iter,ifs,0⟩] scope pos) 0 (.ref it) (.ref s2.heap.objs.size) (compEnvC scope cl hp.objs.size X.env)) (RR (.ref s2.heap.objs.size) hp.objs.size) s4:=by
  rintro s4 rfl;refine Qep (λn s'=>∃(i:Nat)(σ4:S3)(g4:G)(μ4:List Addr)(σ5:L2.St)(H4:Hp)(acc:List D)(accV:List V)(its:List Value)(k:Nat),Inv (xat Xb ca [] F0) [] σ5 H4 s'/\tn i s'.heap/\(∀b∈fp,H4 b=none)/\H4 s2.heap.objs.size=none/\s'.heap.get? s2.heap.objs.size=some {cls:=.type "list",data:=.seq its.toArray k}/\Vals accV its/\Ext X.K μ2 H2 μ4 H4/\Rep X.K ca μ4 σ4 g4 σ5 H4/\Dens X.K μ4 H4 accV acc/\Ji src f tc me n i σ4 g4 acc=.ok ds g2/\acc.length<=i/\i+n<=SZ+1) ?_ (src.top+1) ⟨0,capt no cap σ3,g1,μ2,_,H2,[],[],[],_,Ib,st4,λb hb=>(f2 b hb).1,fD.1,old _ _ hD3,.nil,.refl,RbR,.nil,hL,Ug _,by omega⟩
  rintro n s5 ⟨i,σ4,g4,μ4,σ5,H4,acc,accV,its,k,I5,st5,fr5,frD,hD5,va,e5,R5,da,hl5,ha5,hn5⟩;cases n with
  |zero=>cases hl5|succ n=>
   unfold Ji at hl5;have s1:=sim i H4 μ4 g4 e5 R5.g;have pinD:Inv (xat Xb ca [] F0) [(s2.heap.objs.size,{cls:=.type "list",data:=.seq its.toArray k})] σ5 H4 s5:=I5.pins_of λp hp=>by rw[Uj.mp hp];have z:=FpD frD;exact⟨hD5,frD,z.2.1,z.2.2.1,λv q=>by cases q⟩
   have nofp:∀p∈[(s2.heap.objs.size,({cls:=.type "list",data:=.seq its.toArray k}:Obj))],p.1∉fp:=λp hp=>by rw[Uj.mp hp];exact DnF
   have getD:∀{σ':L2.St}{H':Hp}{s':Shared}{pl:LAO},Inv (xat Xb ca [] F0) ([(s2.heap.objs.size,({cls:=.type "list",data:=.seq its.toArray k}:Obj))]++pl) σ' H' s'->s'.heap.get? s2.heap.objs.size=some {cls:=.type "list",data:=.seq its.toArray k}/\H' s2.heap.objs.size=none:=λ{σ' H' s' pl} I'=>by have z:=I'.pin (s2.heap.objs.size,{cls:=.type "list",data:=.seq its.toArray k}) (UU _ (RH _ (Uj.mpr rfl)));exact⟨z.1,z.2.1⟩
   cases hat:src.at' g4 i with
   |none=>rw[hat]at hl5;cases hl5|some od=>
    rw[hat]at hl5 s1;cases od with
    |none=>
     cases hl5;have dn:=T.done (xat Xb ca [] F0) eP eW eK eC i _ s5 σ5 H4 (λ_ _=>False) pinD (FpB fr5 nofp) st5 s1;rw[eA]at dn;refine thn dn λr s6 ⟨hr,I6⟩=>?_;subst hr;obtain⟨hD6,frD6⟩:=getD (pl:=[]) (by rw[UY];exact I6);have un:Un (frs (xat X ca pn F0).stack) (s2.heap.objs.size::fp) H2 H4 hp s6.heap:=toUn I6;have hok:HOk (xat X ca pn F0).prog (xat X ca pn F0).w H4 s6.heap:=by have:=I6.hok;rw[eP,eW]at this;exact this
     have os:s6.os=s2.os:=toOs I6;have I7:Inv (xat X ca pn F0) pins σ H4 s6:=Inv.call' (s':=s6) (ch:=s2.heap.objs.size::fp) I3 os un hok I6.bare λb hb=>⟨(exOk b hb).2.2.2.1,(exOk b hb).2.1,(exOk b hb).2.2.2.2.1,(exOk b hb).2.2.2.2.2⟩;have hCn:H4 hp.objs.size=none:=by have:=I6.free;rw[eE]at this;exact this
     have nsC:∃m,s6.heap.Ns hp.objs.size m:=by obtain⟨m,hm,_⟩:=I6.loc;rw[eE]at hm;exact⟨m,hm⟩
     refine fin _ _ s6 H4 μ4 accV its k I7 nsC (FpOk.mono fC hCn) (FpOk.mono fD frD6) DnC hD6 va ?_ e5 R5.g da;rw[da.length];have:=ZQ;omega
    |some d=>
     obtain⟨go,yl⟩:=s1;dsimp only at hl5;cases hf:f d σ4 with
     |none=>rw[hf]at hl5;cases hl5|some σ6=>
      rw[hf]at hl5;dsimp only at hl5;have im:=T.item (xat Xb ca [] F0) eP eW eK eC i _ s5 σ5 H4 (λ_ _=>False) pinD (FpB fr5 nofp) st5 go;rw[eA]at im;refine thn im λr s6 ⟨u,hr,h6⟩=>?_;subst hr;refine thn h6 λ_ s7 ⟨x,H7,I7,r7,y7,st7,fr7⟩=>?_;obtain⟨e7,g7,q7⟩:=yl x H7 y7;have I7':=I7.pinned (FpB fr7 nofp) (T.obj _ _ st7);have R7:=R5.go e7 g7;have asg:=hgB [] F0 _ s7 σ5 H7 x u (λσ' H'=>H'=H7/\Rep X.K ca μ4 σ6 g4 σ' H7) I7' r7 (by have:Xb.K=X.K:=eK;rw[this];exact⟨σ4,g4,μ4,d,σ6,R7,q7,hf,λσ' R'=>⟨rfl,R'⟩⟩);rw[eP,eW,eA,eE]at asg;refine thn (noX asg) λ_ s8 ⟨σ8,H8,I8,e8,R8⟩=>?_;subst e8;cases ht:tc σ6 g4 with
      |raise _ _=>rw[ht]at hl5;cases hl5|stuck=>rw[ht]at hl5;cases hl5|ok b g9=>
       rw[ht]at hl5;have hl5:(if b=true then (match me σ6 g9 with | .ok y g2=>Ji src f tc me n (i+1) σ6 g2 (acc++[y])|_=>.stuck) else Ji src f tc me n (i+1) σ6 g9 acc)=.ok ds g2:=hl5;have tst:=hiB _ s8 σ8 _ (λb' H'=>b'=b/\∃μ9,Ext X.K μ4 H8 μ9 H'/\Rep X.K ca μ9 σ6 g9 σ8 H') I8 (by have:Xb.K=X.K:=eK;rw[this];refine⟨σ6,g4,μ4,R8,?_⟩;rw[ht];exact λH' μ' e' r'=>⟨rfl,μ',e',R8.go e' r'⟩);have eP':Xb.prog=X.prog:=eP;have eW':Xb.w=X.w:=eW;have eA':Xb.A=X.A:=eA;have eE':Xb.env=compEnvC scope cl hp.objs.size X.env:=eE;rw[eP',eW',eA',eE']at tst;refine thn tst λok s9 ⟨H9,I9,eb,μ9,e9,R9⟩=>?_;subst eb;have again:∀{σ':L2.St}{H':Hp}{s':Shared},Inv (xat Xb ca [] F0) ([(s2.heap.objs.size,({cls:=.type "list",data:=.seq its.toArray k}:Obj))]++Qd6 fp s7.heap) σ' H' s'->Inv (xat Xb ca [] F0) [] σ' H' s'/\tn (i+1) s'.heap/\∀b∈fp,H' b=none:=λ{σ' H' s'} I'=>by refine⟨I'.pins_of λp hp=>absurd hp (by simp),T.keep _ _ _ st7 λb hb o e=>(I'.pin (b,o) (UU _ (UU _ (JC hb e)))).1,λb hb=>?_⟩;obtain⟨o,e,_⟩:=T.obj _ _ st7 b hb;exact(I'.pin (b,o) (UU _ (UU _ (JC hb e)))).2.1
       cases ok with
       |false =>rw[Uf Ui]at hl5 ⊢;obtain⟨J1,J2,J3⟩:=again I9;obtain⟨K1,K2⟩:=getD I9;refine⟨n,T6 n,i+1,σ6,g9,μ9,σ8,H9,acc,accV,its,k,J1,J2,J3,K2,K1,va,(e5.trans e7).trans e9,R9,(da.mono e7).mono e9,hl5,by omega,by omega⟩|true=>
        rw[Ue rfl]at hl5 ⊢;cases hm:me σ6 g9 with
        |raise _ _=>rw[hm]at hl5;cases hl5|stuck=>rw[hm]at hl5;cases hl5|ok y g10=>
         rw[hm]at hl5;have hl5:Ji src f tc me n (i+1) σ6 g10 (acc++[y])=.ok ds g2:=hl5;have el:=heB [] F0 _ s9 σ8 H9 (λvy H'=>∃μ10,Ext X.K μ9 H9 μ10 H'/\Rep X.K ca μ10 σ6 g10 σ8 H'/\Den X.K μ10 H' vy y) I9 (by have:Xb.K=X.K:=eK;rw[this];refine⟨σ6,g9,μ9,R9,?_⟩;rw[hm];exact λv H' μ' e' r' q'=>⟨μ',e',R9.go e' r',q'⟩);rw[eP,eW,eA,eE]at el;refine thn (noX el) λuy s10 ⟨vy,H10,I10,ry,μ10,e10,R10,qy⟩=>?_;obtain⟨K1,K2⟩:=getD I10;obtain⟨J1,J2,J3⟩:=again I10;have hlen:its.length=acc.length:=by rw[<-va.length,da.length]
         refine B0 F.slot_list_append ⟨_,K1,rfl⟩ F.entry_list_append (F.args_list_append_2 _ _) (PySem.list_append s2.heap.objs.size its.toArray k uy (by rw[Ux,TU];have:SZ=1000000:=rfl;omega)) ⟨K1,?_⟩;have up:=PySem.IsL.update K1 (·.push uy);rw[show its.toArray.push uy=(its++[uy]).toArray by simp]at up;have upo:∀b o,b≠s2.heap.objs.size->s10.heap.get? b=some o->(s10.heap.update s2.heap.objs.size (Obj.mapSeq (·.push uy))).get? b=some o:=λb o hb e=>(Tt s10.heap (Obj.mapSeq (·.push uy)) (Ne.symm hb)).trans e;obtain⟨d0,d1,d2,d3,d4,d5⟩:=FpD K2;refine⟨n,T6 n,i+1,σ6,g10,μ10,σ8,H10,acc++[y],accV++[vy],its++[uy],_,J1.turned (t':=s10.toks) upo d0 d1 d3 d4 d5,T.keep _ _ _ J2 λb hb o e=>upo b o (λz=>DnF (z ▸ hb)) e,J3,K2,up,va.append (.cons ry .nil),((e5.trans e7).trans e9).trans e10,R10,((da.mono e7).mono e9).mono e10 |>.append (.cons qy .nil),hl5,by rw[Us,Ti];omega,by omega⟩
 exact codeAny_compStart_list (loop _ rfl) (T.self _ 0 _ _ _ st4 (loop _ rfl))
end
end L3
namespace L3
open PySem PySem.Spec PyProof.Rows L2
section
variable{X:Cx}{ca:Nat->Addr}
theorem Qke{K:Frag}{Φ:XS}{σ:L2.St}{Q:VK}{H:Hp}{μ:List Addr}{mi:MI}{no:Nat}{cap:List Nat}{f:MG}{tc:MT}{me:ME}{σ3:S3}{g:G}(p:Post K ca Φ σ Q H μ (J8 mi no cap f tc me σ3 g)):
  ∃src g1 ds g2,mi σ3 g=.ok src g1/\src.top<=SZ/\Ji src f tc me (src.top+1) 0 (capt no cap σ3) g1 []=.ok ds g2/\Post K ca Φ σ Q H μ (.ok (.ref g2.length) (g2++[.lst ds])):=by
 unfold J8 at p;cases hm:mi σ3 g with
 |raise _ _=>rw[hm]at p;exact p.elim|stuck=>rw[hm]at p;exact p.elim|ok src g1=>
  rw[hm]at p;dsimp only at p;by_cases hz:src.top<=SZ
  ·rw[Ue hz]at p;cases hL:Ji src f tc me (src.top+1) 0 (capt no cap σ3) g1 []with
   |raise _ _=>rw[hL]at p;exact p.elim|stuck=>rw[hL]at p;exact p.elim|ok ds g2=>rw[hL]at p;exact⟨src,g1,ds,g2,rfl,hz,hL,p⟩
  ·rw[Uf hz]at p;exact p.elim
theorem QcF{tg iter elt:Expr}{ifs:List Expr}{scope:Scope}{pos:Pos}{Nb:List Str}{no:Nat}{cap:List Nat}{mi:MI}{f:MG}{tc:MT}{me:ME}(B:BScope X scope Nb no cap)(hc:X.calm=true)(hi:PI3 ca X tg iter mi)(hb:∀cl C s3 H3 ex,PG3 ca (blk X scope cl C Nb s3 H3 ex) tg f/\PIf ca (blk X scope cl C Nb s3 H3 ex) ifs tc/\PE3 ca (blk X scope cl C Nb s3 H3 ex) elt me)(hs:∀x,foldedSetIterable iter X.env x=pure x:=by intro _;rfl):PE3 ca X (.ListComp elt [⟨tg,iter,ifs,0⟩] scope pos) (J8 mi no cap f tc me):=by
 intro pn Φ pins s σ H Q I' ⟨σ3,g,μ,R,p⟩;obtain⟨src,g1,ds,g2,hm,hz,hL,p⟩:=Qke p;have I:Inv (xat X ca pn F0) pins σ H s:=Inv.wish I' _;suffices hh:wpAny (model X.prog X.w) X.A (eval (.ListComp elt [⟨tg,iter,ifs,0⟩] scope pos) X.env) (EP (xat X ca pn F0) pins σ Q) (λ_ _=>False) s from
  Tg hh (λu s' ⟨v,H',J,r,q⟩=>⟨v,H',Inv.wish J _,r,q⟩) λ_ _ z=>z.elim
 obtain⟨cl,hcl⟩:=QbP (cells:=X.env.cells) scope.names [] λy hy hf=>I.ok.has y.1 (B.free y hy hf);rw[eval_ListComp];refine wpAny_comprehension_free (env:=X.env) (use:=none) rfl hs (Qdp hcl) B.kind B.loc ?_;refine thn (noX (hi pn F0 pins s σ H (λJ H'=>∃μ',Ext X.K μ H μ' H'/\GRep X.K ca μ' H' g1/\Sim X.K ca μ' H' src J) I ⟨σ3,g,μ,R,?_⟩)) λv s1 h1=>thn (noX h1) λitv s2 h2=>?_
 ·rw[hm];exact λJ H' μ' e r sm=>⟨μ',e,r,sm⟩
 ·obtain⟨it,fp,tn,J,H2,e,I2,T,st2,f2,μ2,e2,r2,sim⟩:=h2;subst e;refine Qij (X:=X) (pn:=pn) (RR:=λacc C=>compPost (model X.prog X.w) X.A (λ_ _=>False) none (EP (xat X ca pn F0) pins σ Q) acc C) B hc hb hcl I2 T st2 f2 (R.go e2 r2) sim hz hL ?_;intro D C s' H4 μ4 accV its k I4 nsC fC fD dc hD va hl e4 r4 da;obtain⟨m,nsC⟩:=nsC;refine⟨m,nsC,λh'' hs''=>?_⟩;have I5:Inv (xat X ca pn F0) pins σ H4 {s' with heap:=h''}:=I4.turned (t':=s'.toks) (λb o hb e=>hs''.extBut b o hb e) fC.1 fC.2.1 fC.2.2.2.1 fC.2.2.2.2.1 fC.2.2.2.2.2;have hD':=hs''.extBut _ _ dc hD;have I6:=Inv.track (o:=.lst accV) I5 fD ⟨hl,its,k,va,hD'⟩;refine⟨.ref D,_,I6,rfl,p _ _ (μ4++[D]) ((e2.trans e4).trans (Qx fD.1)) (r4.push fD.1 ⟨accV,Qk,da.mono (Qx fD.1)⟩) (.ref ?_)⟩;rw[<-r4.len];simp
end
end L3
namespace L3
open PySem PySem.Spec PyProof.Rows L2
section
variable{X:Cx}{ca:Nat->Addr}{a b:Expr}{ma mb:ME}{pos:Pos}
theorem Qkf:OpR X (binaryOp .Add) (λx y H Q=>∃a b ys,x=.ref a/\y=.ref b/\SqT X.K H a []/\SqT X.K H b ys/\Q (.ref b) H):=by
 intro pins s σ H x y v u Q I rx ry h;obtain⟨a,b,ys,rfl,rfl,ha,hb,q⟩:=h;cases rx;cases ry;obtain⟨us,r1,p1,_⟩:=I.tuple ha;obtain⟨ts,r2,p2,_⟩:=I.tuple hb;cases r1;obtain⟨⟨cls,dd,data,sl⟩,ho,hc,n,hd⟩:=id p1;obtain⟨⟨cls2,dd2,data2,sl2⟩,ho2,hc2,n2,hd2⟩:=id p2;simp only at hc hd hc2 hd2;subst hc hd hc2 hd2;exact concat_meets ⟨_,ho,rfl⟩ ⟨_,ho2,rfl⟩ BK seq_tuple_add WC Ww (Wt _ _)
   (tuple_addW0 a b _ _ n n2 dd dd2 sl sl2 (by simp)) ⟨ho,ho2,⟨.ref b,H,I,rfl,q⟩⟩
theorem Qkg{K:Frag}:YR K ca (λx y H Q=>(((∃i j,x=.int i/\y=.int j/\Q (.int (i+j)) H)\/QnR K x y H Q)\/rCat x y H Q)\/(∃a b ys,x=.ref a/\y=.ref b/\SqT K H a []/\SqT K H b ys/\Q (.ref b) H)) pAdd:=by
 intro Φ σ H μ g x y dx dy Q r qx qy p;unfold pAdd at p;cases qx with
 |int i=>
  cases qy with
  |int j=>exact .inl (.inl (.inl ⟨i,j,rfl,rfl,p _ H μ .refl r (.int _)⟩))|_=>exact p.elim
 |@tup ax xs dsx hx hsx=>
  cases qy with
  |@tup ay ys dsy hy hsy=>
   dsimp only at p;by_cases z:dsx.length+dsy.length<=SZ
   ·rw[Ue z]at p;by_cases hx0:dsx=[]
    ·subst hx0;cases hsx;exact .inr ⟨ax,ay,ys,rfl,rfl,hx,hy,p _ H μ .refl r (.tup hy hsy)⟩
    ·refine .inl (.inl (.inr ⟨ax,ay,xs,ys,rfl,rfl,hx,hy,?_,by rw[hsx.length,hsy.length];exact Uk z ZQ,λe=>?_,λ_ t ht=>p _ _ μ (QM ht) (r.new ht) (.tup (.of Qk) ((hsx.append hsy).mono (QM ht)))⟩))
     ·rintro rfl;cases hsx;exact hx0 rfl
     ·subst e;cases hsy;rw[UY]at p;exact p _ H μ .refl r (.tup hx hsx)
   ·rw[Uf z]at p;exact p.elim
  |_=>exact p.elim
 |@ref n an hn=>
  cases qy with
  |@ref m am hm=>
   dsimp only at p;cases hg:g[n]? with
   |none=>rw[hg]at p;exact p.elim|some o=>
    cases hg2:g[m]? with
    |none=>rw[hg,hg2]at p;cases o<;>exact p.elim|some o2=>
     rw[hg,hg2]at p;obtain⟨a1,ha1,or1⟩:=r.addr hg;obtain⟨a2,ha2,or2⟩:=r.addr hg2;rw[hn]at ha1;cases ha1;rw[hm]at ha2;cases ha2;cases o with
     |lst xs=>
      cases o2 with
      |lst ys=>
       dsimp only at p;obtain⟨vs,hH,q⟩:=or1;obtain⟨ws,hH2,q2⟩:=or2;by_cases z:xs.length+ys.length<=SZ
       ·rw[Ue z]at p;refine .inl (.inr ⟨an,am,vs,ws,rfl,rfl,hH,hH2,by rw[q.length,q2.length];exact Uk z ZQ,λt ht=>p _ _ (μ++[t]) (Qx ht) (r.push ht ⟨_,Qk,(q.append q2).mono (Qx ht)⟩) (.ref ?_)⟩);rw[<-r.len];simp
       ·rw[Uf z]at p;exact p.elim
      |_=>exact p.elim
     |_=>cases o2<;>exact p.elim
  |_=>exact p.elim
 |_=>cases qy<;>exact p.elim
theorem Qap(ha:PE3 ca X a ma)(hb:PE3 ca X b mb):PE3 ca X (.BinOp a .Add b pos) (mOp2 pAdd ma mb):=QgU (λ_ _=>((op_add.or Qma).or QnY).or Qkf) Qkg ha hb
theorem Qik{K:Frag}{C:Int->Int->Prop}{h:Int->Int->V}{f:D->D->G->Res D}(hf:∀Φ σ i j g Q H μ,GRep K ca μ H g->Post K ca Φ σ Q H μ (f (.int i) (.int j) g)->C i j/\Q (h i j) H)(hn:∀Φ σ x y g Q H μ,Post K ca Φ σ Q H μ (f x y g)->∃i j,x=.int i/\y=.int j):YR K ca (rI C h) f:=by intro Φ σ H μ g x y dx dy Q r qx qy p;obtain⟨i,j,rfl,rfl⟩:=hn Φ σ dx dy g Q H μ p;cases qx;cases qy;obtain⟨c,q⟩:=hf Φ σ i j g Q H μ r p;exact⟨i,j,rfl,rfl,c,q⟩
theorem Qf7{K:Frag}{h:Int->Int->V}{f:D->D->G->Res D}(hf:∀Φ σ i j g Q H μ,GRep K ca μ H g->Post K ca Φ σ Q H μ (f (.int i) (.int j) g)->Q (h i j) H)(hn:∀Φ σ x y g Q H μ,Post K ca Φ σ Q H μ (f x y g)->∃i j,x=.int i/\y=.int j):YR K ca (rI0 h) f:=by intro Φ σ H μ g x y dx dy Q r qx qy p;obtain⟨i,j,rfl,rfl⟩:=hn Φ σ dx dy g Q H μ p;cases qx;cases qy;exact⟨i,j,rfl,rfl,hf Φ σ i j g Q H μ r p⟩
theorem Qbt{K:Frag}{f:D->D->G->Res D}(h:∀x y g,(∃i j,x=D.int i/\y=D.int j)\/f x y g=.stuck)(Φ:XS)(σ:L2.St)(x y:D)(g:G)(Q:VK)(H:Hp)(μ:List Addr)(p:Post K ca Φ σ Q H μ (f x y g)):∃i j,x=.int i/\y=.int j:=by
 rcases h x y g with z|z
 ·exact z
 ·rw[z]at p;exact p.elim
theorem Qil(ha:PE3 ca X a ma)(hb:PE3 ca X b mb):PE3 ca X (.BinOp a .Sub b pos) (mOp2 pSub ma mb):=QgU (λ_ _=>QnF) (Qf7 (λΦ σ i j g Q H μ r p=>p _ H μ .refl r (.int _)) (Qbt λx y g=>by cases x<;>cases y<;>first|exact .inl ⟨_,_,rfl,rfl⟩|exact .inr rfl)) ha hb
theorem Qaq(ha:PE3 ca X a ma)(hb:PE3 ca X b mb):PE3 ca X (.BinOp a .FloorDiv b pos) (mOp2 Ye ma mb):=
 QgU (λ_ _=>Ql0) (Qik (λΦ σ i j g Q H μ r p=>by
  unfold Ye at p;by_cases z:0<j/\j<1073741824
  ·dsimp only at p;rw[Ue z]at p;exact⟨z,p _ H μ .refl r (.int _)⟩
  ·dsimp only at p;rw[Uf z]at p;exact p.elim) (Qbt λx y g=>by cases x<;>cases y<;>first|exact .inl ⟨_,_,rfl,rfl⟩|exact .inr rfl)) ha hb
theorem Qar(ha:PE3 ca X a ma)(hb:PE3 ca X b mb):PE3 ca X (.BinOp a .Mod b pos) (mOp2 pMod ma mb):=
 QgU (λ_ _=>QnH) (Qik (λΦ σ i j g Q H μ r p=>by
  unfold pMod at p;by_cases z:0<j
  ·dsimp only at p;rw[Ue z]at p;exact⟨z,p _ H μ .refl r (.int _)⟩
  ·dsimp only at p;rw[Uf z]at p;exact p.elim) (Qbt λx y g=>by cases x<;>cases y<;>first|exact .inl ⟨_,_,rfl,rfl⟩|exact .inr rfl)) ha hb
theorem Qkh(ha:PE3 ca X a ma)(hb:PE3 ca X b mb):PE3 ca X (.BinOp a .Mult b pos) (mOp2 pMul ma mb):=
 QgU (λ_ _=>QnG) (λΦ σ H μ g x y dx dy Q r qx qy p=>by
  unfold pMul at p;cases qx with
  |int i=>
   cases qy with
   |int j=>
    dsimp only at p;by_cases z:cM i\/cM j
    ·rw[Ue z]at p;exact⟨i,j,rfl,rfl,z,p _ H μ .refl r (.int _)⟩
    ·rw[Uf z]at p;exact p.elim
   |_=>exact p.elim
  |_=>cases qy<;>exact p.elim) ha hb
theorem Qim(ha:PE3 ca X a ma):PE3 ca X (.UnaryOp .USub a pos) (mOp1 pNeg ma):=
 r_un (λ_ _=>QnI) (λΦ σ H μ g x dx Q r qx p=>by
  cases qx with
  |int i=>exact⟨i,rfl,p _ H μ .refl r (.int _)⟩|_=>exact p.elim) ha
theorem Qas{K:Frag}(r:Int->Int->Bool):YR K ca (rI0 λi j=>.bl (r i j)) (pCmp r):=Qf7 (λΦ σ i j g Q H μ r p=>p _ H μ .refl r (.bl _)) (Qbt λx y g=>by cases x<;>cases y<;>first|exact .inl ⟨_,_,rfl,rfl⟩|exact .inr rfl)
theorem Qms(ha:PE3 ca X a ma)(hb:PE3 ca X b mb):PT3 ca X (.Compare a [.Lt] [b] pos) (Qj (mOp2 pLt ma mb)):=Jl (λ_ _=>QnJ) (Qas _) ha hb (Qak b)
theorem QpJ(ha:PE3 ca X a ma)(hb:PE3 ca X b mb):PT3 ca X (.Compare a [.LtE] [b] pos) (Qj (mOp2 pLe ma mb)):=Jl (λ_ _=>QnK) (Qas _) ha hb (Qak b)
theorem Qin(ha:PE3 ca X a ma)(hb:PE3 ca X b mb):PT3 ca X (.Compare a [.Gt] [b] pos) (Qj (mOp2 pGt ma mb)):=Jl (λ_ _=>Qpr) (Qas _) ha hb (Qak b)
end
end L3
namespace L3
open PySem PySem.Spec PyProof.Rows L2
section
variable{X:Cx}{ca:Nat->Addr}{pins:LAO}{σ:L2.St}{H:Hp}{s:Shared}{μ:List Addr}{g:G}
theorem Qio:∀{ds:List D}{vs:List V}{its:List Value}{u:List Int},Dens X.K μ H vs ds->Vals vs its->rowI ds=some u->its.length=u.length/\∀(j:Nat)(h:j<its.length),∃t,its[j]=.int (u.getD j 0) t
 |[],_,_,_,.nil,.nil,h=>by cases h;exact⟨rfl,λj h=>by cases h⟩
 |.int i::r,_,_,u,.cons q qs,.cons rv rvs,h=>by
  have h:(rowI r).map (i :: ·)=some u:=h;obtain⟨js,h1,rfl⟩:=UW.mp h;cases q;obtain⟨t,rfl⟩:=rv;obtain⟨a,b⟩:=Qio qs rvs h1;refine⟨by rw[UH,UH,a],λj hj=>?_⟩;cases j with
  |zero=>exact⟨t,rfl⟩|succ j=>exact b j (by simpa using hj)
theorem Qmt(u v:List Int):((List.range (min u.length v.length)).all (λj=>u.getD j 0==v.getD j 0)&&u.length==v.length)=decide (u=v):=by
 by_cases e:u=v
 ·subst e;simp
 ·rw[UC e];refine Bool.eq_false_iff.mpr λz=>e ?_;rw[UN,U7]at z;have hl:=eq_of_beq z.2;refine List.ext_getElem hl λj h1 h2=>?_;have:=eq_of_beq (z.1 j (Wi.mpr (by omega)));simpa[h1,h2]using this
def rEqI(K:Frag):R2:=λx y H Q=>∃(μ:List Addr)(a c:Addr)(vs ws:List V)(ds es:List D)(u v:List Int),x=.ref a/\y=.ref c/\Dens K μ H vs ds/\Dens K μ H ws es/\SqT K H a vs/\SqT K H c ws/\rowI ds=some u/\rowI es=some v/\Q (.bl (decide (u=v))) H
theorem Qll(hu:X.A.units+16<cLine):OpR X (compareOp .Eq) (rEqI X.K):=by intro pins s σ H x y v u Q I rx ry h;obtain⟨μ,a,c,vs,ws,ds,es,u,v,rfl,rfl,q1,q2,h1,h2,r1,r2,q⟩:=h;cases rx;cases ry;obtain⟨us,v1,p1,_⟩:=I.tuple h1;obtain⟨ts,v2,p2,_⟩:=I.tuple h2;obtain⟨l1,a1⟩:=Qio q1 v1 r1;obtain⟨l2,a2⟩:=Qio q2 v2 r2;have z:=SeqAt.RcAt.tuples (A:=X.A) p1 p2 (by omega) (e:=λj=>u.getD j 0==v.getD j 0) (λj h1 h2=>by obtain⟨t,e1⟩:=a1 j (by simpa using h1);obtain⟨t',e2⟩:=a2 j (by simpa using h2);simp only[List.getElem_toArray,e1,e2];exact SeqAt.EqAt.int_int _ _ _ _);rw[Ux,Ux,l1,l2,Qmt]at z;exact z _ _ _ _ ⟨.bl _,H,I,rfl,q⟩
theorem Qip{K:Frag}:YR K ca (λx y H Q=>rEq x y H Q\/rEqI K x y H Q) pEq:=by
 intro Φ σ H μ g x y dx dy Q r qx qy p;unfold pEq eqT at p;cases qx with
 |int i=>
  cases qy with
  |int j=>exact .inl ⟨rfl,by rw[Qc3];exact p _ H μ .refl r (.bl _)⟩|_=>exact p.elim
 |str i=>
  cases qy with
  |str j=>exact .inl ⟨rfl,by rw[Qc4];exact p _ H μ .refl r (.bl _)⟩|_=>exact p.elim
 |tup h1 q1=>
  cases qy with
  |tup h2 q2=>
   rename_i a vs ds c ws es;dsimp only at p;cases e:rowI ds with
   |none=>rw[e]at p;exact p.elim|some u=>
    cases e2:rowI es with
    |none=>rw[e,e2]at p;exact p.elim|some v=>rw[e,e2]at p;exact .inr ⟨μ,a,c,vs,ws,ds,es,u,v,rfl,rfl,q1,q2,h1,h2,e,e2,p _ H μ .refl r (.bl _)⟩
  |_=>exact p.elim
 |_=>cases qy<;>exact p.elim
theorem Qmu{K:Frag}:YR K ca rNe pNe:=by
 intro Φ σ H μ g x y dx dy Q r qx qy p;unfold pNe neT at p;cases qx with
 |int i=>
  cases qy with
  |int j=>exact⟨rfl,by rw[Qc3];exact p _ H μ .refl r (.bl _)⟩|_=>exact p.elim
 |str i=>
  cases qy with
  |str j=>exact⟨rfl,by rw[Qc4];exact p _ H μ .refl r (.bl _)⟩|_=>exact p.elim
 |bl i=>
  cases qy with
  |bl j=>exact⟨rfl,by rw[QhA];exact p _ H μ .refl r (.bl _)⟩|_=>exact p.elim
 |_=>cases qy<;>exact p.elim
end
section
variable{X:Cx}{ca:Nat->Addr}{a b e:Expr}{ma mb me:ME}{pos p:Pos}{k:Nat}
theorem hu16(hr:Room k A):A.units+16<cLine:=by have:=hr.units;omega
theorem r_eq(hr:Room k X.A)(ha:PE3 ca X a ma)(hb:PE3 ca X b mb):PE3 ca X (.Compare a [.Eq] [b] pos) (mOp2 pEq ma mb):=Qj9 (λpn Φ=>op_eq.or (Qll (X:=xat X ca pn Φ) (hu16 hr))) Qip ha hb (Qak b)
theorem QbR(hr:Room k X.A)(ha:PE3 ca X a ma)(hb:PE3 ca X b mb):PT3 ca X (.Compare a [.Eq] [b] pos) (Qj (mOp2 pEq ma mb)):=Jl (λpn Φ=>op_eq.or (Qll (X:=xat X ca pn Φ) (hu16 hr))) Qip ha hb (Qak b)
theorem Qki(_:Room k X.A)(ha:PE3 ca X a ma)(hb:PE3 ca X b mb):PT3 ca X (.Compare a [.NotEq] [b] pos) (Qj (mOp2 pNe ma mb)):=Jl (λ_ _=>Qpq) Qmu ha hb (Qak b)
theorem Qf8{K:Frag}{μ:List Addr}{H:Hp}{x:V}{d:D}(q:Den K μ H x d):decide (x=.non)=isNon d:=by cases q<;>simp[isNon]
theorem Qiq{K:Frag}:YR K ca (λx y H Q=>y=.non/\Q (.bl (decide (x=.non))) H) pIs:=by
 intro Φ σ H μ g x y dx dy Q r qx qy p;cases qy with
 |non=>exact⟨rfl,p _ H μ .refl r (by rw[Qf8 qx];exact .bl _)⟩|_=>exact p.elim
theorem QgW{K:Frag}:YR K ca (λx y H Q=>y=.non/\Q (.bl (!decide (x=.non))) H) QfX:=by
 intro Φ σ H μ g x y dx dy Q r qx qy p;cases qy with
 |non=>exact⟨rfl,p _ H μ .refl r (by rw[Qf8 qx];exact .bl _)⟩|_=>exact p.elim
theorem r_is(ha:PE3 ca X a ma)(hb:PE3 ca X b mb):PE3 ca X (.Compare a [.Is] [b] pos) (mOp2 pIs ma mb):=Qj9 (λ_ _=>Qk1) Qiq ha hb (Qak b)
theorem QgX(ha:PE3 ca X a ma)(hb:PE3 ca X b mb):PT3 ca X (.Compare a [.Is] [b] pos) (Qj (mOp2 pIs ma mb)):=Jl (λ_ _=>Qk1) Qiq ha hb (Qak b)
theorem Qkj(ha:PE3 ca X a ma)(hb:PE3 ca X b mb):PT3 ca X (.Compare a [.IsNot] [b] pos) (Qj (mOp2 QfX ma mb)):=Jl (λ_ _=>Ql1) QgW ha hb (Qak b)
theorem Qdq{K:Frag}{μ:List Addr}{H:Hp}{vs:List V}{ds:List D}{i:Int}{d:D}(q:Dens K μ H vs ds)(h:atD ds i=some d):∃v,atI vs i=some v/\Den K μ H v d:=by
 unfold atD at h;cases hj:ixD ds.length i with
 |none=>rw[hj]at h;cases h|some j =>rw[hj]at h;obtain⟨v,h1,h2⟩:=q.get (show ds[j]?=some d from h);refine⟨v,?_,h2⟩;unfold atI;rw[q.length,show ixN ds.length i=some j from hj];exact h1
theorem Qmv{K:Frag}:YR K ca (rIx K) pIx:=by
 intro Φ σ H μ g x y dx dy Q r qx qy p;unfold pIx at p;cases qx with
 |tup ht hs=>
  cases qy with
  |int i=>
   dsimp only at p;rename_i a vs ds;cases h:atD ds i with
   |none=>rw[h]at p;exact p.elim|some d =>rw[h]at p;obtain⟨v,h1,h2⟩:=Qdq hs h;exact .inr (.inl ⟨a,vs,i,v,rfl,rfl,ht,h1,p v H μ .refl r h2⟩)
  |_=>exact p.elim
 |fl ht hs=>
  cases qy with
  |int i=>
   dsimp only at p;rename_i a vs ds;cases h:atD ds i with
   |none=>rw[h]at p;exact p.elim|some d =>rw[h]at p;obtain⟨v,h1,h2⟩:=Qdq hs h;exact .inl ⟨a,vs,i,v,rfl,rfl,ht.sq,h1,p v H μ .refl r h2⟩
  |_=>exact p.elim
 |@ref n a hn=>
  cases qy with
  |int i=>
   dsimp only at p;cases hg:g[n]? with
   |none=>rw[hg]at p;exact p.elim|some o=>
    rw[hg]at p;obtain⟨a',ha',ob⟩:=r.addr hg;rw[hn]at ha';cases ha';cases o with
    |lst ds=>
     obtain⟨vs,hH,hs⟩:=ob;dsimp only at p;cases h:atD ds i with
     |none=>rw[h]at p;exact p.elim|some d =>rw[h]at p;obtain⟨v,h1,h2⟩:=Qdq hs h;exact .inl ⟨a,vs,i,v,rfl,rfl,.of hH,h1,p v H μ .refl r h2⟩
    |_=>exact p.elim
  |_=>exact p.elim
 |str s=>
  cases qy with
  |int i=>
   dsimp only at p;by_cases z:s.length<=SZ
   ·rw[Ue z]at p;cases h:atD s.cps.toList i with
    |none=>rw[h]at p;exact p.elim|some c =>rw[h]at p;exact .inr (.inr ⟨s,i,c,rfl,rfl,Uk z ZQ,h,p _ H μ .refl r (.str _)⟩)
   ·rw[Uf z]at p;exact p.elim
  |_=>exact p.elim
 |_=>cases qy<;>exact p.elim
theorem Qt(ha:PE3 ca X a ma)(hb:PE3 ca X b mb)(hs:Qc6 b:=by exact λ_ _=>rfl):PE3 ca X (.Subscript a b pos) (mOp2 pIx ma mb):=r_ix (λ_ _=>QnT) Qmv ha hb hs
theorem Qir{x:Str}{id:String}{r:List V->Hp->VK->Prop}{f:D->G->Res D}(hc:∀pn Φ,CallR (xat X ca pn Φ) (.builtin id) r)(hm:X.mg x=none)(hv:bootBuiltins x=some (.builtin id))(hp:∀(Φ:XS) (σ:L2.St) (H:Hp) (μ:List Addr) (g:G) (y:V) (d:D) (Q:VK),GRep X.K ca μ H g->Den X.K μ H y d->Post X.K ca Φ σ Q H μ (f d g)->r [y] H Q)(he:PE3 ca X e me)(hg:Gl X x)(hn:x ≠"__name__")(hdb:(x==("__debug__" : Str))=false)(hs:starEach [e] X.env=[(false,eval e X.env)])(hpl:(backTo pos (starEach [] X.env)).any (·.1)=false):PE3 ca X (.Call (.Name x p) [e] [] pos) (mOp1 f me):=
 λpn Φ=>QS (JD (X:=xat X ca pn Φ) (hc pn Φ) hg hm hv (Jf he Qm hs pn Φ) hn hdb hs hpl) λσ H Q hQ=>by
  obtain⟨σ3,g,μ,R,q⟩:=hQ;refine⟨σ3,g,μ,R,?_⟩;unfold mOp1 at q;unfold Qa mNil;cases hm:me σ3 g with
  |raise _ _=>rw[hm]at q;exact q|stuck=>rw[hm]at q;exact q.elim|ok d g1=>
   rw[hm,Res.bind_ok]at q;rw[Res.bind_ok,Res.bind_ok];intro vs H1 μ1 e1 r1 q1;cases q1 with
   |cons h1 h2 =>cases h2;exact hp Φ σ H1 μ1 g1 _ d Q r1 h1 (q.go e1)
end
end L3
namespace L3
open PySem PySem.Spec PyProof.Rows L2
section
variable{X:Cx}{ca:Nat->Addr}{a b e o:Expr}{ma mb me mo:ME}{pos p apos:Pos}{k:Nat}
theorem r_ty{x:Str}{T:String}{r:List V->Hp->VK->Prop}{f:D->G->Res D}(hc:∀pn Φ,CallR (xat X ca pn Φ) (.type T) r)(hm:X.mg x=none)(hv:bootBuiltins x=some (.type T))(hp:∀(Φ:XS) (σ:L2.St) (H:Hp) (μ:List Addr) (g:G) (y:V) (d:D) (Q:VK),GRep X.K ca μ H g->Den X.K μ H y d->Post X.K ca Φ σ Q H μ (f d g)->r [y] H Q)(he:PE3 ca X e me)(hg:Gl X x)(hn:x ≠"__name__")(hdb:(x==("__debug__" : Str))=false)(hs:starEach [e] X.env=[(false,eval e X.env)])(hpl:(backTo pos (starEach [] X.env)).any (·.1)=false):PE3 ca X (.Call (.Name x p) [e] [] pos) (mOp1 f me):=
 λpn Φ=>QS (QhG (X:=xat X ca pn Φ) (hc pn Φ) hg hm hv (Jf he Qm hs pn Φ) hn hdb hs hpl) λσ H Q hQ=>by
  obtain⟨σ3,g,μ,R,q⟩:=hQ;refine⟨σ3,g,μ,R,?_⟩;unfold mOp1 at q;unfold Qa mNil;cases hm:me σ3 g with
  |raise _ _=>rw[hm]at q;exact q|stuck=>rw[hm]at q;exact q.elim|ok d g1=>
   rw[hm,Res.bind_ok]at q;rw[Res.bind_ok,Res.bind_ok];intro vs H1 μ1 e1 r1 q1;cases q1 with
   |cons h1 h2 =>cases h2;exact hp Φ σ H1 μ1 g1 _ d Q r1 h1 (q.go e1)
theorem YT(hm:X.mg "len"=none)(he:PE3 ca X e me)(hg:Gl X "len":=by rfl)(hs:starEach [e] X.env=[(false,eval e X.env)]:=by rfl)(hpl:(backTo pos (starEach [] X.env)).any (·.1)=false:=by rfl):
  PE3 ca X (.Call (.Name "len" p) [e] [] pos) (mOp1 pLen me):=
 Qir (r:=λxs H Q=>∃p ys,xs=[V.ref p]/\(SqL X.K H p ys\/SqT X.K H p ys)/\Q (V.int (ys.length:Int)) H) (λ_ _=>Qec) hm boot_len (λΦ σ H μ g y d Q r q pp=>by
  unfold pLen at pp;cases q with
  |@tup t vs ds ht hs=>exact⟨t,vs,rfl,.inr ht,pp _ H μ .refl r (by rw[hs.length];exact .int _)⟩|@fl t vs ds ht hs=>exact⟨t,vs,rfl,.inl ht.sq,pp _ H μ .refl r (by rw[hs.length];exact .int _)⟩|@ref n t hn=>
   dsimp only at pp;cases hgn:g[n]? with
   |none=>rw[hgn]at pp;exact pp.elim|some ob=>
    rw[hgn]at pp;obtain⟨t',ht',orp⟩:=r.addr hgn;rw[hn]at ht';cases ht';cases ob with
    |lst ds=>obtain⟨vs,hH,q⟩:=orp;exact⟨t,vs,rfl,.inl (.of hH),pp _ H μ .refl r (by rw[q.length];exact .int _)⟩|_=>exact pp.elim
  |_=>exact pp.elim) he hg (by decide) (by decide) hs hpl
theorem Qis(hm:X.mg "tuple"=none)(he:PE3 ca X e me)(hg:Gl X "tuple":=by rfl)(hs:starEach [e] X.env=[(false,eval e X.env)]:=by rfl)(hpl:(backTo pos (starEach [] X.env)).any (·.1)=false:=by rfl):
  PE3 ca X (.Call (.Name "tuple" p) [e] [] pos) (mOp1 Qan me):=
 r_ty (r:=λxs H Q=>∃p ys,xs=[V.ref p]/\((SqL X.K H p ys/\∀l,H l=none->Q (.ref l) (upd H l (.tup ys)))\/(SqT X.K H p ys/\Q (.ref p) H))) (λ_ _=>Qc9) hm boot_tuple (λΦ σ H μ g y d Q r q pp=>by
  unfold Qan at pp;cases q with
  |@tup t vs ds ht hs=>exact⟨t,vs,rfl,.inr ⟨ht,pp _ H μ .refl r (.tup ht hs)⟩⟩|@fl t vs ds ht hs=>exact⟨t,vs,rfl,.inl ⟨ht.sq,λl hl=>pp _ _ μ (QM hl) (r.new hl) (.tup (.of Qk) (hs.mono (QM hl)))⟩⟩|@ref n t hn=>
   dsimp only at pp;cases hgn:g[n]? with
   |none=>rw[hgn]at pp;exact pp.elim|some ob=>
    rw[hgn]at pp;obtain⟨t',ht',orp⟩:=r.addr hgn;rw[hn]at ht';cases ht';cases ob with
    |lst ds=>obtain⟨vs,hH,q⟩:=orp;exact⟨t,vs,rfl,.inl ⟨.of hH,λl hl=>pp _ _ μ (QM hl) (r.new hl) (.tup (.of Qk) (q.mono (QM hl)))⟩⟩|_=>exact pp.elim
  |_=>exact pp.elim) he hg (by decide) (by decide) hs hpl
theorem JI(ho:PE3 ca X o mo)(he:PE3 ca X e me)(hbase:attributeBase o "append" X.env (eval o X.env)=eval o X.env:=by rfl)(hfew:((backTo pos (starEach [e] X.env)).all (λx=>!x.1)&&(backToKw pos (keywordEach [] X.env)).all (λx=>x.1.isSome)&&decide ([e].length+([]:List Keyword).length+(if ([]:List Keyword).isEmpty then 0 else 1)<30))=true:=by rfl)(hline:(apos.endLine==pos.line)=true:=by rfl)(hs:starEach [e] X.env=(false,eval e X.env)::starEach [] X.env:=by rfl)(hplain:(backTo pos (starEach [] X.env)).any (·.1)=false:=by rfl):
  PE3 ca X (.Call (.Attribute o "append" apos) [e] [] pos) (Yo mo me):=
 λpn Φ=>QS (QnW (X:=xat X ca pn Φ) Wx PySem.F.slot_list_append PySem.F.type_list_append QhK (ho pn Φ) (Jf he Qm hs pn Φ) hbase hfew hline hs hplain) λσ H Q ⟨σ3,g,μ,R,q⟩=>QN (Y7 R q) λx H1 hQ=>by
  obtain⟨d,g1,μ1,e1,R1,q1,p1⟩:=hQ;cases q1 with
  |@ref n t hn=>
   dsimp only at p1;cases hgn:g1[n]? with
   |none=>rw[hgn]at p1;exact p1.elim|some ob=>
    rw[hgn]at p1;obtain⟨t',ht',orp⟩:=R1.g.addr hgn;rw[hn]at ht';cases ht';cases ob with
    |lst ds0=>
     obtain⟨vs0,hH0,_⟩:=orp;dsimp only at p1;refine⟨.inl ⟨rfl,_,.of hH0⟩,σ3,g1,μ1,R1,?_⟩;unfold Qa mNil;cases hm:me σ3 g1 with
     |raise _ _=>rw[hm]at p1;exact p1|stuck=>rw[hm]at p1;exact p1.elim|ok y g2=>
      rw[hm,Res.bind_ok]at p1;rw[Res.bind_ok,Res.bind_ok];intro vs H2 μ2 e2 r2 q2;cases q2 with
      |@cons vy _ _ _ h1 h2=>
       cases h2;cases hg2:g2[n]? with
       |none=>rw[hg2]at p1;exact p1.elim|some ob2=>
        rw[hg2]at p1;obtain⟨t',ht',orp⟩:=r2.addr hg2;rw[e2.at hn]at ht';cases ht';cases ob2 with
        |lst ds=>
         obtain⟨ws,hH,qs⟩:=orp;dsimp only at p1;by_cases z:ds.length<SZ
         ·rw[Ue z]at p1;have ex:Ext X.K μ2 H2 μ2 (upd H2 t (.lst (ws++[vy]))):=ZP hH (by intro _ z;cases z) (by intro _ _ z;cases z);refine⟨t,ws,_,rfl,rfl,hH,by rw[qs.length];exact UB z ZQ,p1 _ _ μ2 (e2.trans ex) ?_ .non⟩;exact r2.set (e2.at hn) hH (by intro _ z;cases z) (by intro _ _ z;cases z) ⟨_,Qk,(qs.mono ex).append (.cons (h1.mono ex) .nil)⟩
         ·rw[Uf z]at p1;exact p1.elim
        |_=>exact p1.elim
    |_=>exact p1.elim
  |_=>exact p1.elim
theorem Dens.dropLast{K:Frag}{μ:List Addr}{H:Hp}{vs:List V}{ds:List D}(h:Dens K μ H vs ds):Dens K μ H vs.dropLast ds.dropLast:=by rw[RZ,RZ,h.length];exact h.take _
theorem QpK(ho:PE3 ca X o mo)(hbase:attributeBase o "pop" X.env (eval o X.env)=eval o X.env:=by rfl)(hline:(apos.endLine==pos.line)=true:=by rfl):PE3 ca X (.Call (.Attribute o "pop" apos) [] [] pos) (mOp1 pPop mo):=
 λpn Φ=>QS (QnV (X:=xat X ca pn Φ) Wx PySem.F.slot_list_pop PySem.F.type_list_pop QnX (ho pn Φ) hbase hline) λσ H Q ⟨σ3,g,μ,R,q⟩=>QN (Y7 R q) λx H1 hQ=>by
  obtain⟨d,g1,μ1,e1,R1,q1,p1⟩:=hQ;unfold pPop at p1;cases q1 with
  |@ref n t hn=>
   dsimp only at p1;cases hgn:g1[n]? with
   |none=>rw[hgn]at p1;exact p1.elim|some ob=>
    rw[hgn]at p1;obtain⟨t',ht',orp⟩:=R1.g.addr hgn;rw[hn]at ht';cases ht';cases ob with
    |lst ds=>
     obtain⟨ws,hH,qs⟩:=orp;dsimp only at p1;cases hl:ds[ds.length-1]? with
     |none=>rw[hl]at p1;exact p1.elim|some y =>rw[hl]at p1;obtain⟨v,h1,h2⟩:=qs.get hl;have ex:Ext X.K μ1 H1 μ1 (upd H1 t (.lst ws.dropLast)):=ZP hH (by intro _ z;cases z) (by intro _ _ z;cases z);refine⟨.inl ⟨rfl,_,.of hH⟩,t,ws,v,rfl,rfl,hH,by rw[qs.length];exact h1,p1 v _ μ1 ex ?_ (h2.mono ex)⟩;exact R1.g.set hn hH (by intro _ z;cases z) (by intro _ _ z;cases z) ⟨_,Qk,(qs.mono ex).dropLast⟩
    |_=>exact p1.elim
  |_=>exact p1.elim
end
end L3
namespace L3
open PySem PySem.Spec PyProof.Rows L2
def IsIt(b:Bool)(h:Heap)(i l:Addr)(k:Nat):Prop:=if b=true then h.IsListIter i l k else h.IsTupleIter i l k
def IsSq(b:Bool)(h:Heap)(l:Addr)(xs:Array Value):Prop:=if b=true then h.IsList l xs else h.IsTuple l xs
theorem IsIt.at(x:IsIt b h i l k)(hk:∀o,h.get? i=some o->h'.get? i=some o):IsIt b h' i l k:=by
 cases b
 ·exact Heap.IsTupleIter.at (show h.IsTupleIter i l k from x) hk
 ·exact Heap.IsListIter.at (show h.IsListIter i l k from x) hk
theorem IsSq.at(x:IsSq b h l xs)(hk:∀o,h.get? l=some o->h'.get? l=some o):IsSq b h' l xs:=by
 cases b
 ·obtain⟨o,e,c⟩:=(show h.IsTuple l xs from x);exact⟨o,hk o e,c⟩
 ·obtain⟨o,e,c⟩:=(show h.IsList l xs from x);exact⟨o,hk o e,c⟩
theorem IsIt.lt(x:IsIt b h i l k):i<h.objs.size:=by
 cases b
 ·obtain⟨o,e,_⟩:=(show h.IsTupleIter i l k from x);exact Uw e
 ·obtain⟨o,e,_⟩:=(show h.IsListIter i l k from x);exact Uw e
theorem IsIt.rec(x:IsIt b h i l k):∃o,h.get? i=some o/\∀v,o.data≠.cell v:=by
 cases b
 ·obtain⟨o,e,c,d⟩:=(show h.IsTupleIter i l k from x);exact⟨o,e,λv z=>by rw[d]at z;cases z⟩
 ·obtain⟨o,e,c,d⟩:=(show h.IsListIter i l k from x);exact⟨o,e,λv z=>by rw[d]at z;cases z⟩
theorem IsSq.lt(x:IsSq b h l xs):l<h.objs.size:=by
 cases b
 ·obtain⟨o,e,_⟩:=(show h.IsTuple l xs from x);exact Uw e
 ·obtain⟨o,e,_⟩:=(show h.IsList l xs from x);exact Uw e
section
variable{prog:Program}{w:World}{A:Around}{E:VP}{s:Shared}
theorem QgY(hit:s.heap.IsTupleIter it t i)(ht:s.heap.IsTuple t items)(hx:items[i]?=some x)(hQ:∀h',h'.IsTupleIter it t (i+1)->Heap.SameBut it s.heap h'->Q x {s with heap:=h'}):
  wpAny (model prog w) A (Builtin.SmallTypes.nextOf (.ref it)) Q E s:=by
 obtain⟨o,ho,hc,hd⟩:=id hit;obtain⟨ol,hol,_,nl,hdl⟩:=ht;unfold Builtin.SmallTypes.nextOf;refine Ua (UT (name:=Str.ofString "__next__") hit.typeIs Rx (UQ Rx hit.typeIs Be ?_ (W3 _)));show wpAny _ _ (field (.ref it) 0 >>= _) _ _ s;refine Ua (U0 ho hd (x:=.ref t) rfl ?_);show wpAny _ _ (if (Value.ref t==Value.none)=true then _ else _) _ _ s;rw[Uf (show ¬((Value.ref t==Value.none)=true) from Ui)];show wpAny _ _ (field (.ref it) 1 >>= _) _ _ s;refine Ua (U0 ho hd (x:=.int i 0) rfl ?_);show wpAny _ _ (seqItems? (.ref t) >>= _) _ _ s;refine Ua (Rh hol hdl ?_);simp only[Wd,hx];refine Ua (RQ ho hd (by simp) (Ub ⟨x,rfl,Ub (hQ _ ⟨_,RD _ ho (WP (RA hd _)),(Bx ..).trans hc,by rw[RA hd];simp[rawInt]⟩ (TZ ..))⟩))
theorem Qdr{it t:Addr}{i:Nat}{items:Array Value}{Q:VP}(hh:A.handled=none)(hit:s.heap.IsTupleIter it t i)(ht:s.heap.IsTuple t items)(hx:items[i]?=none)(hE:∀h' e,Heap.ExtBut it s.heap h'->(∃o,h'.get? e=some o/\o.cls=.type "StopIteration")->E (.ref e) {s with heap:=h'}):wpAny (model prog w) A (Builtin.SmallTypes.nextOf (.ref it)) Q E s:=by obtain⟨o,ho,hc,hd⟩:=id hit;obtain⟨ol,hol,_,nl,hdl⟩:=ht;unfold Builtin.SmallTypes.nextOf;refine Ua (UT (name:=Str.ofString "__next__") hit.typeIs Rx (UQ Rx hit.typeIs Be ?_ (W3 _)));show wpAny _ _ (field (.ref it) 0 >>= _) _ _ s;refine Ua (U0 ho hd (x:=.ref t) rfl ?_);show wpAny _ _ (if (Value.ref t==Value.none)=true then _ else _) _ _ s;rw[Uf (show ¬((Value.ref t==Value.none)=true) from Ui)];show wpAny _ _ (field (.ref it) 1 >>= _) _ _ s;refine Ua (U0 ho hd (x:=.int i 0) rfl ?_);show wpAny _ _ (seqItems? (.ref t) >>= _) _ _ s;refine Ua (Rh hol hdl ?_);simp only[Wd,hx];refine Ua (TD (Ua (RQ ho hd (by simp) ?_)));show wpAny _ _ (newExc (.type "StopIteration") [] >>= _) _ _ _;refine Ua ?_;simp only[newExc,newTuple];refine Ua (UX ?_ (by size_fits));refine Ua (m:=firstArgMember _ _) (W2 (a:=Value.none) (by first|rfl|(simp only[firstArgMember];rfl)) ?_);refine UX ?_ (by size_fits);simp only[raiseNew];refine Ua (wpAny_handled ?_);(first|rw[show A.in1.handled=none from hh]|rw[hh]);refine Ua (Ub (wpAny_throw ?_));exact hE _ _ (((TZ ..).extBut.push _).push _) ⟨_,Uy _ rfl,rfl⟩
theorem Qit(hit:IsIt b s.heap it l i)(hl:IsSq b s.heap l xs)(hx:xs[i]?=some x)(hQ:∀h',IsIt b h' it l (i+1)->Heap.SameBut it s.heap h'->Q x {s with heap:=h'}):
  wpAny (model prog w) A (Builtin.SmallTypes.nextOf (.ref it)) Q E s:=by
 cases b
 ·exact QgY hit hl hx hQ
 ·exact wpAny_nextOf_list_item hit hl hx hQ
theorem Qiu{b:Bool}{it l:Addr}{i:Nat}{xs:Array Value}{Q:VP}(hh:A.handled=none)(hit:IsIt b s.heap it l i)(hl:IsSq b s.heap l xs)(hx:xs[i]?=none)(hE:∀h' e,Heap.ExtBut it s.heap h'->(∃o,h'.get? e=some o/\o.cls=.type "StopIteration")->E (.ref e) {s with heap:=h'}):wpAny (model prog w) A (Builtin.SmallTypes.nextOf (.ref it)) Q E s:=by
 cases b
 ·exact Qdr hh hit hl hx hE
 ·exact wpAny_nextOf_list_end hh hit hl hx hE
theorem Qmw{b1 b2:Bool}{z TI TO i1 i2 l1 l2:Addr}{k:Nat}{xs ys:Array Value}{x y a b:Value}{Q:VP}(D:ZipApart z TI TO i1 i2 l1 l2)(hz:IsZip s.heap z TI TO .none)(hTI:IsPair s.heap TI (.ref i1) (.ref i2))(hTO:IsPair s.heap TO a b)(h1:IsIt b1 s.heap i1 l1 k)(h2:IsIt b2 s.heap i2 l2 k)(hl1:IsSq b1 s.heap l1 xs)(hl2:IsSq b2 s.heap l2 ys)(hx:xs[k]?=some x)(hy:ys[k]?=some y)(hQ:∀h',IsZip h' z TI TO (rawInt s.heap.objs.size)->IsPair h' TO x y->IsIt b1 h' i1 l1 (k+1)->IsIt b2 h' i2 l2 (k+1)->IsPair h' s.heap.objs.size x y->h'.objs.size=s.heap.objs.size+1->(∀c o,c≠z->c≠TO->c≠i1->c≠i2->s.heap.get? c=some o->h'.get? c=some o)->Q (.ref s.heap.objs.size) {s with heap:=h'}):
  wpAny (model prog w) A (Builtin.«zip.__next__» ⟨[.ref z],[]⟩) (λfin s'=>∃v,fin=.done (.ret v)/\Q v s') E s:=by
 show wpAny _ _ (field (.ref z) 2 >>= _) _ _ _;refine Ua (U0 hz rfl (x:=.bool false) rfl ?_);show wpAny _ _ (field (.ref z) 3 >>= _) _ _ _;refine Ua (U0 hz rfl (x:=.ref TI) rfl ?_);refine Ua (Rh hTI rfl ?_);show wpAny _ _ (Builtin.SmallTypes.ownedTupleIsFree (.ref z) >>= _) _ _ _;refine Ua ?_;unfold Builtin.SmallTypes.ownedTupleIsFree;refine Ua (U0 hz rfl (x:=.none) rfl (Ub ?_));simp only[Wk];refine Ua (TD ?_);refine Ua (U0 hz rfl (x:=.ref TO) rfl ?_);refine Ua (RB hz (by simp) λg1 hz1 hs1=>?_);replace hz1:IsZip g1 z TI TO .ellipsis:=hz1;refine Ua ?_;simp only[WU,List.zipIdx_nil,RY,Wj];refine Ua (Ua (BD ?_));show wpAny _ _ (Builtin.SmallTypes.nextOf (.ref i1) >>= _) _ _ _;refine Ua (Qit (h1.at λo e=>hs1.extBut _ o D.i1z e) (hl1.at λo e=>hs1.extBut _ o D.l1z e) hx λg2 h12 hs2=>Ub ?_);have hTO2:IsPair g2 TO a b:=hs2.extBut _ _ D.TOi1 (hs1.extBut _ _ D.TOz hTO);refine Ua (Rh hTO2 rfl ?_);refine Ua (W0 hTO2 λg3 hTO3 hs3=>?_);replace hTO3:IsPair g3 TO x b:=hTO3;refine Ua (wpAny_letGo (Ub ?_));refine Ua (Ua (BD ?_));show wpAny _ _ (Builtin.SmallTypes.nextOf (.ref i2) >>= _) _ _ _;refine Ua (Qit (h2.at λo e=>hs3.extBut _ o D.TOi2.symm (hs2.extBut _ o D.i12.symm (hs1.extBut _ o D.i2z e))) (hl2.at λo e=>hs3.extBut _ o D.l2TO (hs2.extBut _ o D.l2i1 (hs1.extBut _ o D.l2z e))) hy λg4 h24 hs4=>Ub ?_);have hTO4:IsPair g4 TO x b:=hs4.extBut _ _ D.TOi2 hTO3;refine Ua (Rh hTO4 rfl ?_);refine Ua (W0 hTO4 λg5 hTO5 hs5=>?_);replace hTO5:IsPair g5 TO x y:=hTO5;refine Ua (wpAny_letGo (Ub (Ub ?_)));refine Ua (Rh hTO5 rfl ?_);refine Ua (wpAny_newTuple ?_);have hsz:g5.objs.size=s.heap.objs.size:=by rw[hs5.1,hs4.1,hs3.1,hs2.1,hs1.1]
 have hz5:IsZip g5 z TI TO .ellipsis:=hs5.extBut _ _ D.TOz.symm (hs4.extBut _ _ D.i2z.symm (hs3.extBut _ _ D.TOz.symm (hs2.extBut _ _ D.i1z.symm hz1)));have hk5:∀c o,c≠z->c≠TO->c≠i1->c≠i2->s.heap.get? c=some o->g5.get? c=some o:=λc o c1 c2 c3 c4 e=>hs5.extBut _ _ c2 (hs4.extBut _ _ c4 (hs3.extBut _ _ c2 (hs2.extBut _ _ c3 (hs1.extBut _ _ c1 e))));have h15:IsIt b1 g5 i1 l1 (k+1):=h12.at λo e=>hs5.extBut _ o D.TOi1.symm (hs4.extBut _ o D.i12 (hs3.extBut _ o D.TOi1.symm e));have h25:IsIt b2 g5 i2 l2 (k+1):=h24.at λo e=>hs5.extBut _ o D.TOi2.symm e;have hzlt:z<g5.objs.size:=Uw hz5;show wpAny _ _ (Builtin.SmallTypes.ownedTupleHandOut (.ref z) (.ref g5.objs.size) >>= _) _ _ _;refine Ua ?_;unfold Builtin.SmallTypes.ownedTupleHandOut;have hz6:IsZip (g5.push {cls:=.type "tuple",data:=.seq #[x,y]}) z TI TO .ellipsis:=Uc _ hz5;refine Ua (RB hz6 (by simp) λg7 hz7 hs7=>?_);replace hz7:IsZip g7 z TI TO (rawInt g5.objs.size):=hz7;refine RB hz7 (by simp) λg8 hz8 hs8=>?_;replace hz8:IsZip g8 z TI TO (rawInt g5.objs.size):=hz8;have upz:∀c o,c≠z->g5.get? c=some o->g8.get? c=some o:=λc o c1 e=>hs8.extBut _ _ c1 (hs7.extBut _ _ c1 (Uc _ e));have hT8:IsPair g8 g5.objs.size x y:=hs8.extBut _ _ (Bf hzlt) (hs7.extBut _ _ (Bf hzlt) (Uy _ rfl));have hsz8:g8.objs.size=g5.objs.size+1:=by rw[hs8.1,hs7.1,Rg]
 rw[hsz]at hz8 hT8 hsz8;refine Ub ⟨_,rfl,?_⟩;show Q (.ref g5.objs.size) _;rw[hsz];exact hQ g8 hz8 (upz _ _ D.TOz hTO5) (h15.at λo e=>upz _ o D.i1z e) (h25.at λo e=>upz _ o D.i2z e) hT8 hsz8 λc o c1 c2 c3 c4 e=>upz c o c1 (hk5 c o c1 c2 c3 c4 e)
theorem Qox{b1 b2:Bool}{z TI TO i1 i2 l1 l2:Addr}{k:Nat}{xs ys:Array Value}{a b:Value}{Q:Fin->Shared->Prop}(hh:A.handled=none)(D:ZipApart z TI TO i1 i2 l1 l2)(hz:IsZip s.heap z TI TO .none)(hTI:IsPair s.heap TI (.ref i1) (.ref i2))(hTO:IsPair s.heap TO a b)(h1:IsIt b1 s.heap i1 l1 k)(h2:IsIt b2 s.heap i2 l2 k)(hl1:IsSq b1 s.heap l1 xs)(hl2:IsSq b2 s.heap l2 ys)(hend:xs[k]?=none\/ys[k]?=none)(hE:∀h' e,(∀c o,c≠z->c≠TO->c≠i1->c≠i2->s.heap.get? c=some o->h'.get? c=some o)->(∃o,h'.get? e=some o/\o.cls=.type "StopIteration")->E (.ref e) {s with heap:=h'}):
  wpAny (model prog w) A (Builtin.«zip.__next__» ⟨[.ref z],[]⟩) Q E s:=by
 show wpAny _ _ (field (.ref z) 2 >>= _) _ _ _;refine Ua (U0 hz rfl (x:=.bool false) rfl ?_);show wpAny _ _ (field (.ref z) 3 >>= _) _ _ _;refine Ua (U0 hz rfl (x:=.ref TI) rfl ?_);refine Ua (Rh hTI rfl ?_);show wpAny _ _ (Builtin.SmallTypes.ownedTupleIsFree (.ref z) >>= _) _ _ _;refine Ua ?_;unfold Builtin.SmallTypes.ownedTupleIsFree;refine Ua (U0 hz rfl (x:=.none) rfl (Ub ?_));simp only[Wk];refine Ua (TD ?_);refine Ua (U0 hz rfl (x:=.ref TO) rfl ?_);refine Ua (RB hz (by simp) λg1 hz1 hs1=>?_);replace hz1:IsZip g1 z TI TO .ellipsis:=hz1;refine Ua ?_;simp only[WU,List.zipIdx_nil,RY,Wj];refine Ua (Ua (BD ?_));show wpAny _ _ (Builtin.SmallTypes.nextOf (.ref i1) >>= _) _ _ _;cases hx:xs[k]? with
 |none=>
  refine Ua (Qiu hh (h1.at λo e=>hs1.extBut _ o D.i1z e) (hl1.at λo e=>hs1.extBut _ o D.l1z e) hx λg2 e hs2 he=>?_);obtain⟨oe,hoe,hce⟩:=he;have hz2:IsZip g2 z TI TO .ellipsis:=hs2 _ _ D.i1z.symm hz1;have hez:e≠z:=λq=>by subst q;rw[hz2]at hoe;cases hoe;simp at hce
  refine RB hz2 (by simp) λg3 _ hs3=>hE g3 e (λc o c1 _ c3 _ q=>hs3.extBut _ _ c1 (hs2 _ _ c3 (hs1.extBut _ _ c1 q))) ⟨oe,hs3.extBut _ _ hez hoe,hce⟩
 |some x=>
  have hy:ys[k]?=none:=by rcases hend with q|q;(· rw[hx]at q;cases q);exact q
  refine Ua (Qit (h1.at λo e=>hs1.extBut _ o D.i1z e) (hl1.at λo e=>hs1.extBut _ o D.l1z e) hx λg2 h12 hs2=>Ub ?_);have hTO2:IsPair g2 TO a b:=hs2.extBut _ _ D.TOi1 (hs1.extBut _ _ D.TOz hTO);refine Ua (Rh hTO2 rfl ?_);refine Ua (W0 hTO2 λg3 hTO3 hs3=>?_);refine Ua (wpAny_letGo (Ub ?_));refine Ua (Ua (BD ?_));show wpAny _ _ (Builtin.SmallTypes.nextOf (.ref i2) >>= _) _ _ _;refine Ua (Qiu hh (h2.at λo e=>hs3.extBut _ o D.TOi2.symm (hs2.extBut _ o D.i12.symm (hs1.extBut _ o D.i2z e))) (hl2.at λo e=>hs3.extBut _ o D.l2TO (hs2.extBut _ o D.l2i1 (hs1.extBut _ o D.l2z e))) hy λg4 e hs4 he=>?_);obtain⟨oe,hoe,hce⟩:=he;have hz4:IsZip g4 z TI TO .ellipsis:=hs4 _ _ D.i2z.symm (hs3.extBut _ _ D.TOz.symm (hs2.extBut _ _ D.i1z.symm hz1));have hez:e≠z:=λq=>by subst q;rw[hz4]at hoe;cases hoe;simp at hce
  refine RB hz4 (by simp) λg5 _ hs5=>hE g5 e (λc o c1 c2 c3 c4 q=>hs5.extBut _ _ c1 (hs4 _ _ c4 (hs3.extBut _ _ c2 (hs2.extBut _ _ c3 (hs1.extBut _ _ c1 q))))) ⟨oe,hs5.extBut _ _ hez hoe,hce⟩
theorem QgZ{b1 b2:Bool}{z TI TO i1 i2 l1 l2:Addr}{k:Nat}{xs ys:Array Value}{x y a b:Value}{Q:Option Value->Shared->Prop}(D:ZipApart z TI TO i1 i2 l1 l2)(hz:IsZip s.heap z TI TO .none)(hTI:IsPair s.heap TI (.ref i1) (.ref i2))(hTO:IsPair s.heap TO a b)(h1:IsIt b1 s.heap i1 l1 k)(h2:IsIt b2 s.heap i2 l2 k)(hl1:IsSq b1 s.heap l1 xs)(hl2:IsSq b2 s.heap l2 ys)(hx:xs[k]?=some x)(hy:ys[k]?=some y)(hQ:∀h',IsZip h' z TI TO (rawInt s.heap.objs.size)->IsPair h' TO x y->IsIt b1 h' i1 l1 (k+1)->IsIt b2 h' i2 l2 (k+1)->IsPair h' s.heap.objs.size x y->h'.objs.size=s.heap.objs.size+1->(∀c o,c≠z->c≠TO->c≠i1->c≠i2->s.heap.get? c=some o->h'.get? c=some o)->Q (some (.ref s.heap.objs.size)) {s with heap:=h'}):wpAny (model prog w) A (pyNext (.ref z)) Q E s:=by
 have hT:s.TypeIs (.ref z) "zip":=⟨_,hz,rfl⟩;unfold pyNext;exact Ua (Ru (UT (name:=Str.ofString "__next__") hT W7 (UQ W7 hT F.entry_zip_next (Qmw D hz hTI hTO h1 h2 hl1 hl2 hx hy λh' a1 a2 a3 a4 a5 a6 a7=>Ub (hQ h' a1 a2 a3 a4 a5 a6 a7)) (F.args_zip_next_1 _))))
theorem Qds{b1 b2:Bool}{z TI TO i1 i2 l1 l2:Addr}{k:Nat}{xs ys:Array Value}{a b:Value}{Q:Option Value->Shared->Prop}(hh:A.handled=none)(D:ZipApart z TI TO i1 i2 l1 l2)(hz:IsZip s.heap z TI TO .none)(hTI:IsPair s.heap TI (.ref i1) (.ref i2))(hTO:IsPair s.heap TO a b)(h1:IsIt b1 s.heap i1 l1 k)(h2:IsIt b2 s.heap i2 l2 k)(hl1:IsSq b1 s.heap l1 xs)(hl2:IsSq b2 s.heap l2 ys)(hend:xs[k]?=none\/ys[k]?=none)(hQ:∀h',(∀c o,c≠z->c≠TO->c≠i1->c≠i2->s.heap.get? c=some o->h'.get? c=some o)->Q none {s with heap:=h'}):wpAny (model prog w) A (pyNext (.ref z)) Q E s:=by have hT:s.TypeIs (.ref z) "zip":=⟨_,hz,rfl⟩;unfold pyNext;refine Ua (Ru (UT (name:=Str.ofString "__next__") hT W7 (UQ W7 hT F.entry_zip_next (Qox hh D hz hTI hTO h1 h2 hl1 hl2 hend λh' e hk he=>?_) (F.args_zip_next_1 _))));obtain⟨o,ho,hc⟩:=he;refine Ua (Wo (T:="StopIteration") (b:=true) ⟨o,ho,hc⟩ isSubtype_stop ?_);exact Ub (hQ _ hk)
def Qoy(b:Bool):String:=if b=true then "list_iterator" else "tuple_iterator"
def Qdt(b:Bool)(l:Addr):Obj:={cls:=.type (Qoy b),data:=.fields #[.ref l,.int 0 0]}
theorem Qeq(hl:IsSq b s.heap l xs)(h:Q (.ref s.heap.objs.size) {s with heap:=s.heap.push (Qdt b l)}):wpAny (model prog w) A (pyIter (.ref l)) Q E s:=by
 cases b
 ·exact wpAny_pyIter_tuple hl h
 ·exact Bz hl h
theorem IsSq.push(x:IsSq b h l xs)(o:Obj):IsSq b (h.push o) l xs:=x.at λ_ e=>Uc _ e
abbrev zH1(b1:Bool)(h:Heap)(l1:Addr):Heap:=h.push (Qdt b1 l1)
abbrev zH2(b1 b2:Bool)(h:Heap)(l1 l2:Addr):Heap:=(zH1 b1 h l1).push (Qdt b2 l2)
abbrev zH3(b1 b2:Bool)(h:Heap)(l1 l2:Addr):Heap:=(zH2 b1 b2 h l1 l2).push {cls:=.type "tuple",data:=.seq #[.ref h.objs.size,.ref (zH1 b1 h l1).objs.size]}
abbrev zH4(b1 b2:Bool)(h:Heap)(l1 l2:Addr):Heap:=(zH3 b1 b2 h l1 l2).push {cls:=.type "tuple",data:=.seq #[.none,.none]}
abbrev zH5(b1 b2:Bool)(h:Heap)(l1 l2:Addr):Heap:=(zH4 b1 b2 h l1 l2).push {cls:=.type "zip",data:=.fields #[.none,.bool false,.bool false,.ref (zH2 b1 b2 h l1 l2).objs.size,.ref (zH3 b1 b2 h l1 l2).objs.size]}
theorem Qmx(b1 b2:Bool)(l1 l2:Addr)(xs ys:Array Value):Meets (Builtin.«zip.__new__» ⟨[.type "zip",.ref l1,.ref l2],[]⟩) (λ_ R s=>IsSq b1 s.heap l1 xs/\IsSq b2 s.heap l2 ys/\R (.ok (.ret (.ref (zH4 b1 b2 s.heap l1 l2).objs.size))) {s with heap:=zH5 b1 b2 s.heap l1 l2}):=
 .of_wp λprog w A R s h=>by
  obtain⟨hp,g,d,tk,os⟩:=s;obtain⟨hl1,hl2,h⟩:=h;have hsub:=sub_zip;have hL1:IsSq b1 (Shared.heap ⟨hp,g,d,tk,os⟩) l1 xs:=hl1;have hL2:IsSq b2 (Shared.heap ⟨hp.push (Qdt b1 l1),g,d,tk,os⟩) l2 ys:=hl2.push _
  wp_walk using Qeq hL1,Qeq hL2
  exact⟨_,rfl,h⟩
theorem itAt(b:Bool)(e:h.get? i=some (Qdt b l)):IsIt b h i l 0:=by
 cases b
 ·exact⟨_,e,rfl,rfl⟩
 ·exact⟨_,e,rfl,rfl⟩
theorem Qkk{b1 b2:Bool}{l1 l2:Addr}{xs ys:Array Value}{Q:VP}(hl1:IsSq b1 s.heap l1 xs)(hl2:IsSq b2 s.heap l2 ys)(h:∀h',IsZip h' (s.heap.objs.size+4) (s.heap.objs.size+2) (s.heap.objs.size+3) .none->IsPair h' (s.heap.objs.size+2) (.ref s.heap.objs.size) (.ref (s.heap.objs.size+1))->IsPair h' (s.heap.objs.size+3) .none .none->IsIt b1 h' s.heap.objs.size l1 0->IsIt b2 h' (s.heap.objs.size+1) l2 0->h'.objs.size=s.heap.objs.size+5->(∀c o,s.heap.get? c=some o->h'.get? c=some o)->Q (.ref (s.heap.objs.size+4)) {s with heap:=h'}):
  wpAny (model prog w) A (call (.type "zip") [.ref l1,.ref l2]) Q E s:=by
 refine callType_new F.called_zip (by decide) (F.typeCall_zip_2 _ _) (F.newCall_zip_2 _ _) (λobj=>F.args_object_init_3 obj _ _) F.entry_zip_new (Qmx b1 b2 l1 l2 xs ys) ⟨hl1,hl2,?_⟩;have z1:(zH1 b1 s.heap l1).objs.size=s.heap.objs.size+1:=Rg ..;have z2:(zH2 b1 b2 s.heap l1 l2).objs.size=s.heap.objs.size+2:=by rw[Rg,z1]
 have z3:(zH3 b1 b2 s.heap l1 l2).objs.size=s.heap.objs.size+3:=by rw[Rg,z2]
 have z4:(zH4 b1 b2 s.heap l1 l2).objs.size=s.heap.objs.size+4:=by rw[Rg,z3]
 have z5:(zH5 b1 b2 s.heap l1 l2).objs.size=s.heap.objs.size+5:=by rw[Rg,z4]
 have g5:(zH5 b1 b2 s.heap l1 l2).get? (zH4 b1 b2 s.heap l1 l2).objs.size=some _:=Uy _ rfl;have g4:(zH5 b1 b2 s.heap l1 l2).get? (zH3 b1 b2 s.heap l1 l2).objs.size=some _:=Uc _ (Uy _ rfl);have g3:(zH5 b1 b2 s.heap l1 l2).get? (zH2 b1 b2 s.heap l1 l2).objs.size=some _:=Uc _ (Uc _ (Uy _ rfl));have g2:(zH5 b1 b2 s.heap l1 l2).get? (zH1 b1 s.heap l1).objs.size=some (Qdt b2 l2):=Uc _ (Uc _ (Uc _ (Uy _ (by unfold Qdt;rfl))));have g1:(zH5 b1 b2 s.heap l1 l2).get? s.heap.objs.size=some (Qdt b1 l1):=Uc _ (Uc _ (Uc _ (Uc _ (Uy _ (by unfold Qdt;rfl)))));show _/\_;rw[z2,z3,z4]at g5;rw[z1,z2]at g3;rw[z3]at g4;rw[z1]at g2;rw[z4];exact⟨⟨_,g5,rfl⟩,h _ g5 g3 g4 (itAt b1 g1) (itAt b2 g2) z5 λc o q=>Uc _ (Uc _ (Uc _ (Uc _ (Uc _ q))))⟩
end
end L3
namespace L3
open PySem PySem.Spec PyProof.Rows L2
def Sq(b:Bool)(K:Frag)(H:Hp)(a:Addr)(xs:List V):Prop:=if b=true then SqL K H a xs else SqT K H a xs
theorem Sq.real{b:Bool}{X:Cx}{pins:LAO}{σ:L2.St}{H:Hp}{s:Shared}{a:Addr}{xs:List V}(I:Inv X pins σ H s)(h:Sq b X.K H a xs):∃its:List Value,Vals xs its/\IsSq b s.heap a its.toArray:=by
 cases b
 ·obtain⟨its,r,p,_⟩:=I.tuple (show SqT X.K H a xs from h);exact⟨its,r,p⟩
 ·obtain⟨its,r,p,_⟩:=I.list (show SqL X.K H a xs from h);exact⟨its,r,p.isList⟩
theorem Sq.inj{b:Bool}{X:Cx}{pins:LAO}{σ:L2.St}{H:Hp}{s:Shared}{a:Addr}{xs ys:List V}(I:Inv X pins σ H s)(h:Sq b X.K H a xs)(h':Sq b X.K H a ys):xs=ys:=by
 cases b
 ·exact I.tuple_inj h h'
 ·exact I.list_inj h h'
def Itz(K:Frag)(b1 b2:Bool)(a1 a2:Addr):It:=⟨λi H=>∃xs ys x y,Sq b1 K H a1 xs/\Sq b2 K H a2 ys/\xs[i]?=some x/\ys[i]?=some y,λi H v H'=>∃p x y,H p=none/\v=.ref p/\H'=upd H p (.tup [x,y])/\(∀xs,Sq b1 K H a1 xs->xs[i]?=some x)/\∀ys,Sq b2 K H a2 ys->ys[i]?=some y,λi H=>∃xs ys,Sq b1 K H a1 xs/\Sq b2 K H a2 ys/\(xs.length<=i\/ys.length<=i)⟩
def QpL(b1 b2:Bool)(z TI TO i1 i2 l1 l2:Addr)(i:Nat)(h:Heap):Prop:=IsZip h z TI TO .none/\IsPair h TI (.ref i1) (.ref i2)/\(∃a b,IsPair h TO a b)/\IsIt b1 h i1 l1 i/\IsIt b2 h i2 l2 i
theorem Qkl{P:Program}{w:World}{K:Frag}{elts:List Expr}{kk:Nat}{tp:Pos}(b1 b2:Bool)(z TI TO i1 i2 l1 l2:Addr)(D:ZipApart z TI TO i1 i2 l1 l2):
  Turn P w K (.Tuple elts kk tp) (Itz K b1 b2 l1 l2) [z,TI,TO,i1,i2] z (QpL b1 b2 z TI TO i1 i2 l1 l2) where
 mem:=by simp
 obj:=λi h st b hb=>by
  obtain⟨hz,hTI,⟨a,c,hTO⟩,h1,h2⟩:=st;have hb':b=z\/b=TI\/b=TO\/b=i1\/b=i2:=by simpa using hb
  rcases hb' with rfl|rfl|rfl|rfl|rfl
  ·exact⟨_,hz,λv q=>by cases q⟩
  ·exact⟨_,hTI,λv q=>by cases q⟩
  ·exact⟨_,hTO,λv q=>by cases q⟩
  ·exact h1.rec
  ·exact h2.rec
 keep:=λi h h' st k=>by obtain⟨hz,hTI,⟨a,c,hTO⟩,h1,h2⟩:=st;exact⟨k z (by simp) _ hz,k TI (by simp) _ hTI,⟨a,c,k TO (by simp) _ hTO⟩,h1.at λo e=>k i1 (by simp) o e,h2.at λo e=>k i2 (by simp) o e⟩
 item:=by
  intro X hP hw hK hc i pins s σ H E I hf st hg;subst hP hw hK;obtain⟨xs,ys,x,y,q1,q2,hx,hy⟩:=hg;obtain⟨us,r1,p1⟩:=q1.real I;obtain⟨ts,r2,p2⟩:=q2.real I;obtain⟨u,hu,ru⟩:=r1.get hx;obtain⟨t,ht,rt⟩:=r2.get hy;obtain⟨hz,hTI,⟨a,c,hTO⟩,h1,h2⟩:=st;have fz:=hf z (by simp);have fTI:=hf TI (by simp);have fTO:=hf TO (by simp);have f1:=hf i1 (by simp);have f2:=hf i2 (by simp);refine QgZ D hz hTI hTO h1 h2 p1 p2 (by simpa using hu) (by simpa using ht) λh' a1 a2 a3 a4 a5 a6 hk=>?_;have hp:H s.heap.objs.size=none:=I.hok.fresh (Ug _);have inC:∀b,b∈[z,TO,i1,i2]->FpOk X pins H b:=λb hb=>by
   have hb':b=z\/b=TO\/b=i1\/b=i2:=by simpa using hb
   rcases hb' with rfl|rfl|rfl|rfl
   ·exact fz
   ·exact fTO
   ·exact f1
   ·exact f2
  have hk':∀b o,b∉[z,TO,i1,i2]->s.heap.get? b=some o->h'.get? b=some o:=λb o hb e=>hk b o (λq=>hb (by simp[q])) (λq=>hb (by simp[q])) (λq=>hb (by simp[q])) (λq=>hb (by simp[q])) e;have nC:∀b v,H b=some v->b∉[z,TO,i1,i2]:=λb v e hb=>by rw[(inC b hb).1]at e;cases e
  have nP:∀b v,H b=some v->b≠s.heap.objs.size:=λb v e=>Qy e hp;have I1:Inv X pins σ (upd H s.heap.objs.size (.tup [x,y])) {s with heap:=h'}:=by
   refine I.step (g':=s.gens) (t':=s.toks) (d':=s.drawn) (ch:=[z,TO,i1,i2]) (λb hb=>⟨(inC b hb).2.2.2.1,(inC b hb).2.1,(inC b hb).2.2.2.2.1,(inC b hb).2.2.2.2.2⟩) (λb o _ _ hb e _=>hk' b o hb e) (λb o _ _ hb e _=>⟨o.slots,hk' b o hb e⟩)
    (λb o hb e n=>by rw[Qo (UR (Uw e))];exact n) (λb o hb e=>⟨o,hk' b o hb e⟩) (λb v e=>by rw[Qo (nP b _ e)];exact e) (λb o v e=>by rw[Qo (nP b _ e)];exact e) (λb ps e=>⟨#[],by rw[Qo (nP b _ e),e];simp⟩)
    (λm hm=>?_) (λb v e=>?_) I.bare
   ·obtain⟨o,es,ep,ho,rr⟩:=hm;exact⟨o,es,ep,hk' _ o (λhb=>(inC _ hb).2.1 rfl) ho,rr⟩
   ·by_cases hb:b=s.heap.objs.size
    ·subst hb;rw[Qk]at e;cases e;exact⟨by rw[TU];show 2<=16777216;decide,[u,t],.cons ru (.cons rt .nil),⟨_,a5,rfl,_,rfl⟩⟩
    ·rw[Qo hb]at e;refine(I.hok b v e).stay (λc' v' hc' q=>?_) (λc' q=>by rw[Qo (nP c' _ q)];exact q) λc' xs' q=>by rw[Qo (nP c' _ q)];exact q
     rcases hc' with rfl|hc'
     ·exact hk' _ _ (nC _ _ e) q
     ·exact hk' _ _ (nC _ _ hc') q
  refine⟨_,rfl,wpAny_letOwnedTupleGo_zip a1 λh'' hz'' hs''=>?_⟩;have hpz:s.heap.objs.size≠z:=Bf (Uw hz);have I2:Inv X pins σ (upd H s.heap.objs.size (.tup [x,y])) {s with heap:=h''}:=Inv.turned (s:={s with heap:=h'}) (t':=s.toks) I1 (λb o hb e=>hs''.extBut b o hb e) (by rw[Qo (Ne.symm hpz)];exact fz.1) fz.2.1 fz.2.2.2.1 fz.2.2.2.2.1 fz.2.2.2.2.2;refine⟨.ref s.heap.objs.size,_,I2,rfl,⟨_,x,y,hp,rfl,rfl,λxs' q=>by rw[q.inj I q1];exact hx,λys' q=>by rw[q.inj I q2];exact hy⟩,⟨hz'',hs''.extBut _ _ D.TIz (hk _ _ D.TIz D.TITO D.TIi1 D.TIi2 hTI),⟨_,_,hs''.extBut _ _ D.TOz a2⟩,a3.at λo e=>hs''.extBut _ o D.i1z e,a4.at λo e=>hs''.extBut _ o D.i2z e⟩,λb hb=>?_⟩
  have lt:b<s.heap.objs.size:=by
   have hb':b=z\/b=TI\/b=TO\/b=i1\/b=i2:=by simpa using hb
   rcases hb' with rfl|rfl|rfl|rfl|rfl
   ·exact Uw hz
   ·exact Uw hTI
   ·exact Uw hTO
   ·exact h1.lt
   ·exact h2.lt
  rw[Qo (UR lt)];exact(hf b hb).1
 done:=by
  intro X hP hw hK hc i pins s σ H E I hf st hg;subst hP hw hK;obtain⟨xs,ys,q1,q2,hl⟩:=hg;obtain⟨us,r1,p1⟩:=q1.real I;obtain⟨ts,r2,p2⟩:=q2.real I;have l1:=r1.length;have l2:=r2.length;obtain⟨hz,hTI,⟨a,c,hTO⟩,h1,h2⟩:=st;have inC:∀b,b∈[z,TO,i1,i2]->FpOk X pins H b:=λb hb=>hf b (by
   have hb':b=z\/b=TO\/b=i1\/b=i2:=by simpa using hb
   rcases hb' with rfl|rfl|rfl|rfl<;>simp)
  refine Qds (I.ok.hd hc) D hz hTI hTO h1 h2 p1 p2 (by
   rcases hl with z|z
   ·exact .inl (by simp;omega)
   ·exact .inr (by simp;omega)) λh' hk=>⟨rfl,?_⟩
  have hk':∀b o,b∉[z,TO,i1,i2]->s.heap.get? b=some o->h'.get? b=some o:=λb o hb e=>hk b o (λq=>hb (by simp[q])) (λq=>hb (by simp[q])) (λq=>hb (by simp[q])) (λq=>hb (by simp[q])) e;have nC:∀b v,H b=some v->b∉[z,TO,i1,i2]:=λb v e hb=>by rw[(inC b hb).1]at e;cases e
  refine I.step (g':=s.gens) (t':=s.toks) (d':=s.drawn) (ch:=[z,TO,i1,i2]) (λb hb=>⟨(inC b hb).2.2.2.1,(inC b hb).2.1,(inC b hb).2.2.2.2.1,(inC b hb).2.2.2.2.2⟩) (λb o _ _ hb e _=>hk' b o hb e) (λb o _ _ hb e _=>⟨o.slots,hk' b o hb e⟩)
   (λb o hb e n=>n) (λb o hb e=>⟨o,hk' b o hb e⟩) (λb v e=>e) (λb o v e=>e) (λb ps e=>⟨#[],by rw[e];simp⟩) (λm hm=>?_) (λb v e=>?_) I.bare
  ·obtain⟨o,es,ep,ho,rr⟩:=hm;exact⟨o,es,ep,hk' _ o (λhb=>(inC _ hb).2.1 rfl) ho,rr⟩
  ·refine(I.hok b v e).stay (λc' v' hc' q=>?_) (λc' q=>q) λc' xs' q=>q;rcases hc' with rfl|hc'
   ·exact hk' _ _ (nC _ _ e) q
   ·exact hk' _ _ (nC _ _ hc') q
 self:=λ_ _ _ _ _ st h=>wpAny_pyIter_zip st.1 h
section
variable{X:Cx}{ca:Nat->Addr}{e1 e2:Expr}{m1 m2:ME}{p pos tp:Pos}{elts:List Expr}{kk:Nat}
theorem Qoz{ta:TA}(hg:Gl X "zip")(hm:X.mg "zip"=none)(ha:PA X [e1,e2] ta)(hs:starEach [e1,e2] X.env=[(false,eval e1 X.env),(false,eval e2 X.env)])(hs2:starEach [e2] X.env=[(false,eval e2 X.env)]):
  PI X (.Tuple elts kk tp) (.Call (.Name "zip" p) [e1,e2] [] pos) (λσ H R=>ta σ H λvs H1=>∃b1 b2 a1 a2 xs ys,vs=[.ref a1,.ref a2]/\Sq b1 X.K H1 a1 xs/\Sq b2 X.K H1 a2 ys/\R (Itz X.K b1 b2 a1 a2) H1):=by
 intro pins s σ H R I h;refine Call_ (Qd5 I hg hm boot_zip (R0 (thn (ha pos pins s σ H _ I h) λus s1 ⟨vs,H1,I1,r1,q1⟩=>?_) (by rw[hs,hs2]) (by rw[hs2];rfl)));obtain⟨b1,b2,a1,a2,xs,ys,rfl,q1,q2,q⟩:=q1;cases r1 with
 |cons ru rr=>
  cases rr with
  |cons rt rr=>
   cases rr;cases ru;cases rt;obtain⟨its1,v1,p1⟩:=q1.real I1;obtain⟨its2,v2,p2⟩:=q2.real I1;refine Qkk p1 p2 λh' hz hTI hTO hi1 hi2 hsz hk=>wpAny_pyIter_zip hz ?_;have I2:Inv X pins σ H1 {s1 with heap:=h'}:=I1.kept (t':=s1.toks) hk;refine⟨s1.heap.objs.size+4,_,_,_,H1,rfl,I2,Qkl b1 b2 _ (s1.heap.objs.size+2) (s1.heap.objs.size+3) s1.heap.objs.size (s1.heap.objs.size+1) a1 a2 (PyProof.Rows.zipApart_new p1.lt p2.lt),⟨hz,hTI,⟨_,_,hTO⟩,hi1,hi2⟩,λb hb=>?_,q⟩;have hb':b=s1.heap.objs.size+4\/b=s1.heap.objs.size+2\/b=s1.heap.objs.size+3\/b=s1.heap.objs.size\/b=s1.heap.objs.size+1:=by simpa using hb
   have hle:s1.heap.objs.size<=b:=by rcases hb' with h|h|h|h|h<;>rw[h]<;>first|exact Ug _|exact U6 _ _
   exact I1.fpOk hle (I1.hok.fresh hle)
theorem Qat{K:Frag}{μ:List Addr}{H:Hp}{g:G}{v:V}{d:D}{b:Bool}{ds:List D}(r:GRep K ca μ H g)(q:Den K μ H v d)(h:QF g d=some (b,ds)):∃a vs,v=.ref a/\Sq b K H a vs/\Dens K μ H vs ds:=by
 cases q with
 |@tup a vs es ht hs=>cases h;exact⟨a,vs,rfl,ht,hs⟩|@fl a vs es ht hs=>cases h;exact⟨a,vs,rfl,ht.sq,hs⟩|@ref n a hn=>
  unfold QF at h;dsimp only at h;cases hg:g[n]? with
  |none=>rw[hg]at h;cases h|some o=>
   rw[hg]at h;obtain⟨a',ha',ob⟩:=r.addr hg;rw[hn]at ha';cases ha';cases o with
   |lst es=>cases h;obtain⟨vs,hH,q⟩:=ob;exact⟨a,vs,rfl,SqL.of hH,q⟩|_=>cases h
 |_=>cases h
theorem QcG{K:Frag}{μ:List Addr}{H:Hp}{g g':G}{μ':List Addr}{H':Hp}{d:D}{v:V}{b b':Bool}{ds ds':List D}(h:QF g d=some (b,ds))(h':QF g' d=some (b',ds')):b=b':=by
 unfold QF at h h';cases d with
 |tup es=>cases h;cases h';rfl|fl es=>cases h;cases h';rfl|ref n=>
  dsimp only at h h';have k1:b=true:=by
   cases hg:g[n]? with
   |none=>rw[hg]at h;cases h|some o=>rw[hg]at h;cases o<;>cases h<;>rfl
  have k2:b'=true:=by
   cases hg:g'[n]? with
   |none=>rw[hg]at h';cases h'|some o=>rw[hg]at h';cases o<;>cases h'<;>rfl
  rw[k1,k2]
 |_=>cases h
theorem Qmy{K:Frag}{μ:List Addr}{H:Hp}{g:G}{v1 v2:V}{d1 d2:D}{b1 b2:Bool}{xs ys:List D}{t:Nat}(q1:Den K μ H v1 d1)(q2:Den K μ H v2 d2)(h1:QF g d1=some (b1,xs))(h2:QF g d2=some (b2,ys)){a1 a2:Addr}(e1:v1=.ref a1)(e2:v2=.ref a2):
  Sim K ca μ H ⟨λg i=>(match QF g d1,QF g d2 with
  |some (_,xs),some (_,ys)=>(match xs[i]?,ys[i]? with
   |some x,some y=>some (some (.tup [x,y]))|_,_=>some none)
  |_,_=>none),t⟩ (Itz K b1 b2 a1 a2):=by
 intro i H1 μ1 g1 ex r;dsimp only;cases k1:QF g1 d1 with
 |none=>trivial|some p1=>
  obtain⟨c1,xs1⟩:=p1;cases k2:QF g1 d2 with
  |none=>trivial|some p2=>
   obtain⟨c2,ys1⟩:=p2;have f1:=QcG (K:=K) (μ:=μ) (H:=H) (μ':=μ) (H':=H) (v:=v1) h1 k1;have f2:=QcG (K:=K) (μ:=μ) (H:=H) (μ':=μ) (H':=H) (v:=v1) h2 k2;subst f1 f2;obtain⟨z1,vs,w1,s1,d1s⟩:=Qat r (q1.mono ex) k1;obtain⟨z2,ws,w2,s2,d2s⟩:=Qat r (q2.mono ex) k2;rw[e1]at w1;cases w1;rw[e2]at w2;cases w2;dsimp only;cases hx:xs1[i]? with
   |none =>refine⟨vs,ws,s1,s2,.inl ?_⟩;rw[d1s.length];exact Tc.mp hx|some x=>
    cases hy:ys1[i]? with
    |none =>refine⟨vs,ws,s1,s2,.inr ?_⟩;rw[d2s.length];exact Tc.mp hy|some y =>obtain⟨vx,hvx,qx⟩:=d1s.get hx;obtain⟨vy,hvy,qy⟩:=d2s.get hy;refine⟨⟨vs,ws,vx,vy,s1,s2,hvx,hvy⟩,λv H' yl=>?_⟩;obtain⟨pp,x',y',hp,rfl,rfl,u1,u2⟩:=yl;have:=u1 vs s1;rw[hvx]at this;cases this;have:=u2 ws s2;rw[hvy]at this;cases this;exact⟨QM hp,r.new hp,.tup (.of Qk) (.cons (qx.mono (QM hp)) (.cons (qy.mono (QM hp)) .nil))⟩
theorem QpM(hm:X.mg "zip"=none)(h1:PE3 ca X e1 m1)(h2:PE3 ca X e2 m2)(hg:Gl X "zip":=by rfl)(hs:starEach [e1,e2] X.env=[(false,eval e1 X.env),(false,eval e2 X.env)]:=by rfl)(hs2:starEach [e2] X.env=[(false,eval e2 X.env)]:=by rfl)(hs3:starEach [e1,e2] X.env=(false,eval e1 X.env)::starEach [e2] X.env:=by rfl):PI3 ca X (.Tuple elts kk tp) (.Call (.Name "zip" p) [e1,e2] [] pos) (Qel m1 m2):=
 λpn Φ=>QbO (Qoz (X:=xat X ca pn Φ) hg hm (Jf h1 (Jf h2 Qm hs2) hs3 pn Φ) hs hs2) λσ H R hQ=>by
  obtain⟨σ3,g,μ,Rp,q⟩:=hQ;refine⟨σ3,g,μ,Rp,?_⟩;unfold Qel at q;unfold Qa mNil;cases hm1:m1 σ3 g with
  |raise _ _=>rw[hm1]at q;exact q|stuck=>rw[hm1]at q;exact q.elim|ok d1 g1=>
   rw[hm1,Res.bind_ok]at q;rw[Res.bind_ok];cases hm2:m2 σ3 g1 with
   |raise _ _=>rw[hm2]at q;exact q|stuck=>rw[hm2]at q;exact q.elim|ok d2 g2=>
    rw[hm2,Res.bind_ok]at q;rw[Res.bind_ok,Res.bind_ok,Res.bind_ok];intro vs H1 μ1 ex r1 q1;cases q1 with
    |@cons v1 _ _ _ n1 q1=>
     cases q1 with
     |@cons v2 _ _ _ n2 q1=>
      cases q1;unfold QfW at q;cases k1:QF g2 d1 with
      |none=>rw[k1]at q;exact q.elim|some p1=>
       obtain⟨b1,xs⟩:=p1;cases k2:QF g2 d2 with
       |none=>rw[k1,k2]at q;exact q.elim|some p2 =>obtain⟨b2,ys⟩:=p2;rw[k1,k2]at q;obtain⟨a1,us,rfl,s1,_⟩:=Qat r1 n1 k1;obtain⟨a2,ts,rfl,s2,_⟩:=Qat r1 n2 k2;exact⟨b1,b2,a1,a2,us,ts,rfl,s1,s2,q _ H1 μ1 ex r1 (Qmy n1 n2 k1 k2 rfl rfl)⟩
end
end L3
namespace L3
open PySem PySem.Spec PyProof.Rows L2
theorem Jq(K:Frag)(t c:Ty):kitOne K (.type t.name) (.type c.name)=some (tyLe t c):=by cases t<;>cases c<;>kernel_rfl
section
variable{X:Cx}{ca:Nat->Addr}{a b c e:Expr}{ma mb mc me:ME}{pos p p2:Pos}{k:Nat}
theorem Qiv(c:Ty):CallR X (.builtin "isinstance") (λxs H Q=>∃x g μ d t,xs=[x,.ty c.name]/\GRep X.K ca μ H g/\Den X.K μ H x d/\tyOf g d=some t/\Q (.bl (tyLe t c)) H):=by
 intro pins s σ H xs us Q I rv h;obtain⟨x,g,μ,d,t,rfl,r,q,ht,qq⟩:=h;obtain⟨u,u2,rfl,ru,ru2⟩:=rv.two;cases ru2;have fin:∀tk,EP X pins σ Q (.bool (tyLe t c)) {s with toks:=tk}:=λtk=>⟨.bl _,H,I.tok tk,rfl,qq⟩;cases q with
 |non=>cases ht;exact Yk I ru .non (Jq X.K .non c) fin|bl y=>cases ht;exact Yk I ru (.bl y) (Jq X.K .bool c) fin|int y=>cases ht;exact Yk I ru (.int y) (Jq X.K .int c) fin|str y=>cases ht;exact Yk I ru (.str y) (Jq X.K .str c) fin|@tup a vs ds hq hs =>cases ht;cases ru;obtain⟨its,_,⟨o,h1,h2,_⟩,_⟩:=I.tuple hq;exact U8 kitx_tuple I.kIn ⟨o,h1,h2⟩ (Jq X.K .tuple c) (λz=>nomatch z) fin|@fl a vs ds hq hs =>cases ht;cases ru;obtain⟨its,_,p,_⟩:=I.list hq.sq;obtain⟨o,h1,h2,_⟩:=p.isList;exact U8 Bw I.kIn ⟨o,h1,h2⟩ (Jq X.K .list c) (λz=>nomatch z) fin|@ref n a hn=>
  unfold tyOf at ht;dsimp only at ht;cases hg:g[n]? with
  |none=>rw[hg]at ht;cases ht|some o=>
   rw[hg]at ht;obtain⟨a',ha',ob⟩:=r.addr hg;rw[hn]at ha';cases ha';cases o with
   |lst ds=>cases ht;obtain⟨vs,hH,_⟩:=ob;exact Yk I ru (.lst hH) (Jq X.K .list c) fin|dct ks=>cases ht;obtain⟨kv,hH,_⟩:=ob;exact Yk I ru (.dK hH) (Jq X.K .dict c) fin|ins _ _=>cases ht|exc _=>cases ht|dfz _=>cases ht|dcn _ _=>cases ht|dcf _ _=>cases ht
theorem Ys{x:Str}(c:Ty)(hi:X.mg "isinstance"=none)(hm:X.mg x=none)(hv:bootBuiltins x=some (.type c.name))(he:PE3 ca X e me)(hgi:Gl X "isinstance":=by rfl)(hg:Gl X x:=by rfl)(hnm:x ≠"__name__":=by decide)(hdb:(x==("__debug__" : Str))=false:=by decide)(hs:starEach [e,.Name x p2] X.env=(false,eval e X.env)::starEach [.Name x p2] X.env:=by rfl)(hs2:starEach [.Name x p2] X.env=(false,eval (.Name x p2) X.env)::starEach [] X.env:=by rfl)(hpl:(backTo pos (starEach [.Name x p2] X.env)).any (·.1)=false:=by rfl):
  PE3 ca X (.Call (.Name "isinstance" p) [e,.Name x p2] [] pos) (mOp1 (ZX c) me):=λpn Φ=>QS (JD (X:=xat X ca pn Φ) (Qiv (ca:=ca) c) hgi hi W8 (Yl (X:=xat X ca pn Φ) (he pn Φ) (Yl (X:=xat X ca pn Φ) (Qhu (X:=xat X ca pn Φ) (v:=.ty c.name) hg hm hv rfl hnm hdb) Qcw hs2) hs) (by decide) (by decide) hs hpl) λσ H Q ⟨σ3,g,μ,R,q⟩=>
  QN (Y7 R q) λy H1 hQ=>by
   obtain⟨d,g1,μ1,e1,R1,q1,p1⟩:=hQ;unfold ZX at p1;cases ht:tyOf g1 d with
   |none=>rw[ht]at p1;exact p1.elim|some t=>rw[ht]at p1;exact⟨y,g1,μ1,d,t,rfl,R1.g,q1,ht,p1 _ H1 μ1 .refl R1.g (.bl _)⟩
theorem Qf9{K:Frag}{μ:List Addr}{H:Hp}:∀{vs:List V}{ds:List D}{us:List Value}{b:Bool},Dens K μ H vs ds->Vals vs us->allB ds=some b->∃bs:List Bool,us=bs.map Value.bool/\bs.all id=b
 |_,_,_,b,.nil,.nil,h=>by cases h;exact⟨[],rfl,rfl⟩
 |_,_,_,b,@Dens.cons _ _ _ _ _ _ ds q qs,.cons r rs,h=>by
  cases q with
  |bl c=>
   unfold allB at h;cases hd:allB ds with
   |none=>rw[hd]at h;cases h|some d =>rw[hd]at h;cases h;obtain⟨bs,h1,h2⟩:=Qf9 qs rs hd;cases r;exact⟨c::bs,by rw[h1];rfl,by simp[h2]⟩
  |_=>cases h
theorem Qiw(bs:List Bool):((List.range bs.length).all λi=>(bs[i]?).getD true)=bs.all id:=by
 rw[RX,U7,U7];constructor
 ·intro h b hb;obtain⟨i,hi,rfl⟩:=RM hb;have:=h i (Wi.mpr hi);simpa[hi]using this
 ·intro h i hi;have hi':=Wi.mp hi;have:=h bs[i] (TN hi');simpa[hi']using this
theorem Qix(hc:X.calm=true):CallR X (.builtin "all") (λxs H Q=>∃p vs ds μ b,xs=[.ref p]/\SqL X.K H p vs/\Dens X.K μ H vs ds/\allB ds=some b/\Q (.bl b) H):=by
 intro pins s σ H xs us Q I rv h;obtain⟨l,vs,ds,μ,b,rfl,hq,q,hb,qq⟩:=h;obtain⟨u,rfl,ru⟩:=rv.one;cases ru;obtain⟨its,rs,pl,_⟩:=I.list hq;obtain⟨bs,rfl,e2⟩:=Qf9 q rs hb;have hl:=pl.isList;have hlt:l<s.heap.objs.size:=by obtain⟨_,e,_⟩:=hl;exact Uw e
 refine call_all_walk (Bz hl ⟨s.heap.objs.size,[s.heap.objs.size,l],[s.heap.objs.size],_,_,_,λi=>(bs[i]?).getD true,rfl,Walks.list (A:=X.A.in1) (show X.A.in1.handled=none from I.ok.hd hc) _ l (UR hlt) _,⟨⟨_,Uy _ rfl,rfl,rfl⟩,hl.push _⟩,λi v s' Q' E' hP hQ=>?_,λh' tk hk=>?_⟩)
 ·have hP:(bs.map Value.bool).toArray[i]?=some v:=hP;rw[List.getElem?_toArray,UJ]at hP;cases hi:bs[i]? with
  |none=>rw[hi]at hP;cases hP|some c =>rw[hi]at hP;cases hP;simp only[hi,Option.getD_some]at hQ;exact To hQ
 ·have kept:∀c o,s.heap.get? c=some o->h'.get? c=some o:=λc o e=>hk c o (λhm=>by rw[Uj.mp hm]at e;exact Rb _ (Uw e)) (Uc _ e);have ea:((List.range (bs.map Value.bool).toArray.size).all λi=>(bs[i]?).getD true)=b:=by rw[Ux,Ud,Qiw,e2]
  rw[ea];exact⟨.bl b,H,I.kept kept,rfl,qq⟩
theorem Qmz(hc:X.calm=true)(hm:X.mg "all"=none)(he:PE3 ca X e me)(hg:Gl X "all":=by rfl)(hs:starEach [e] X.env=[(false,eval e X.env)]:=by rfl)(hpl:(backTo pos (starEach [] X.env)).any (·.1)=false:=by rfl):
  PE3 ca X (.Call (.Name "all" p) [e] [] pos) (mOp1 pAll me):=
 Qir (r:=λxs H Q=>∃p vs ds μ b,xs=[V.ref p]/\SqL X.K H p vs/\Dens X.K μ H vs ds/\allB ds=some b/\Q (.bl b) H) (λpn Φ=>Qix (X:=xat X ca pn Φ) hc) hm boot_all (λΦ σ H μ g y d Q r q pp=>by
  unfold pAll at pp;cases q with
  |@ref n t hn=>
   dsimp only at pp;cases hgn:g[n]? with
   |none=>rw[hgn]at pp;exact pp.elim|some ob=>
    rw[hgn]at pp;obtain⟨t',ht',orp⟩:=r.addr hgn;rw[hn]at ht';cases ht';cases ob with
    |lst ds=>
     obtain⟨vs,hH,q⟩:=orp;dsimp only at pp;cases hb:allB ds with
     |none=>rw[hb]at pp;exact pp.elim|some b=>rw[hb]at pp;exact⟨t,vs,ds,μ,b,rfl,.of hH,q,hb,pp _ H μ .refl r (.bl _)⟩
    |_=>exact pp.elim
  |_=>exact pp.elim) he hg (by decide) (by decide) hs hpl
theorem Qkm{K:Frag}{Φ:XS}{r r':R2}{f f':D->D->G->Res D}(h1:YR K ca r f)(h2:YR K ca r' f')(σ:L2.St)(H:Hp)(Q:VK)(h:up K ca Φ (QcD f f' ma mb mc) σ H Q):Qk2 r r' (up K ca Φ ma) (up K ca Φ mb) (up K ca Φ mc) σ H Q:=by
 obtain⟨σ3,g,μ,R,p⟩:=h;refine QN (Y7 R p) λx H1 ⟨dx,g1,μ1,e1,R1,q1,p1⟩=>?_;refine QN (Y7 R1 p1) λy H2 ⟨dy,g2,μ2,e2,R2,q2,p2⟩=>?_;refine h1 Φ σ H2 μ2 g2 x y dx dy _ R2.g (q1.mono e2) q2 ?_;cases hf:f dx dy g2 with
 |raise _ _=>rw[hf]at p2;exact p2|stuck=>rw[hf]at p2;exact p2.elim|ok z g3=>
  rw[hf,Res.bind_ok]at p2;intro v H3 μ3 e3 r3 q3;cases q3 with
  |bl t=>
   refine⟨t,rfl,?_⟩;cases t with
   |true =>rw[Ue rfl];dsimp only at p2;refine QN (Y7 (R2.go e3 r3) (p2.go e3)) λw' H4 ⟨dw,g4,μ4,e4,R4,q4,p4⟩=>?_;exact h2 Φ σ H4 μ4 g4 y w' dy dw Q R4.g ((q2.mono e3).mono e4) q4 p4
   |false =>rw[Uf Ui];exact p2 _ H3 μ3 e3 r3 (.bl _)
  |_=>exact p2.elim
theorem QoA(ha:PE3 ca X a ma)(hb:PE3 ca X b mb)(hc:PE3 ca X c mc)(hm:lastMarks [.LtE,.Lt] [b,c]=false:=by with_unfolding_all rfl):PE3 ca X (.Compare a [.LtE,.Lt] [b,c] pos) (QcD pLe pLt ma mb mc):=λpn Φ=>QS (QjX (X:=xat X ca pn Φ) QnK QnJ (ha pn Φ) (hb pn Φ) (hc pn Φ) hm) (Qkm (Qas _) (Qas _))
theorem Qlm{K:Frag}{μ:List Addr}{H:Hp}{v:V}{d:D}(q:Den K μ H v d)(h:Qcp d=true):Qcn v=true:=by cases q<;>first|rfl|cases h
theorem Qiy{K:Frag}{μ:List Addr}{H:Hp}:∀{vs:List V}{ds:List D},Dens K μ H vs ds->ds.all Qcp=true->vs.all Qcn=true
 |_,_,.nil,_=>rfl|_,_,.cons q qs,h=>by rw[WY,UN]at h ⊢;exact⟨Qlm q h.1,Qiy qs h.2⟩
theorem QpN{K:Frag}{μ:List Addr}{H:Hp}{v w:V}{d e:D}(q:Den K μ H v d)(q':Den K μ H w e)(h:Qcp d=true)(h':Qcp e=true):eqV v w=eqF d e:=by cases q<;>cases q'<;>first|rfl|cases h|cases h'
theorem QoB{K:Frag}{μ:List Addr}{H:Hp}{w:V}{e:D}(q':Den K μ H w e)(h':Qcp e=true):∀{vs:List V}{ds:List D},Dens K μ H vs ds->ds.all Qcp=true->(vs.any λy=>eqV y w)=ds.any λd=>eqF d e
 |_,_,.nil,_=>rfl|_,_,.cons q qs,h=>by rw[WY,UN]at h;rw[TY,TY,QpN q q' h.1 h',QoB q' h' qs h.2]
theorem QmA{K:Frag}(neg:Bool):YR K ca (rIn K neg) (pIn neg):=by
 intro Φ σ H μ g x y dx dy Q r qx qy p;unfold pIn at p;cases hs:QF g dy with
 |none=>rw[hs]at p;exact p.elim|some pr=>
  obtain⟨bb,ds⟩:=pr;rw[hs]at p;dsimp only at p;by_cases z:Qcp dx=true/\ds.all Qcp=true
  ·rw[Ue z]at p;obtain⟨a,vs,rfl,sq,qs⟩:=Qat r qy hs;refine⟨a,vs,rfl,?_,Qlm qx z.1,Qiy qs z.2,p _ H μ .refl r ?_⟩
   ·cases bb
    ·exact .inr sq
    ·exact .inl sq
   ·unfold inV;rw[QoB qx z.1 qs z.2];cases neg<;>exact .bl _
  ·rw[Uf z]at p;exact p.elim
theorem r_in(ha:PE3 ca X a ma)(hb:PE3 ca X b mb)(hm:behindInMarks .In b=false:=by rfl):PE3 ca X (.Compare a [.In] [b] pos) (mOp2 (pIn false) ma mb):=Qj9 (λ_ _=>QhJ) (QmA false) ha hb hm
end
end L3
namespace L3
open PySem PySem.Spec PyProof.Rows L2
section
variable{prog:Program}{w:World}{A:Around}{E:VP}{s:Shared}
theorem QaQ{t sl:Addr}{items:Array Value}{vl vu:Value}{lo hi:Option Int}{Q:VP}(ht:IsTup s.heap t items)(hs:s.heap.IsSliceOf sl vl vu .none)(pl:IsPart vl lo)(pu:IsPart vu hi)(h1:HT.sIx items.size 0 lo=0)(h2:HT.sIx items.size items.size hi=items.size)(h:Q (.ref t) s):wpAny (model prog w) A (getItem (.ref t) (.ref sl)) Q E s:=by
 obtain⟨os,hos,hcs,hds⟩:=id hs;have hTs:s.TypeIs (.ref sl) "slice":=⟨os,hos,hcs⟩;unfold getItem;try with_reducible refine Tn ?_
 first|refine Ua (Ub ?_)|skip
 refine Ua (wpAny_sequenceKey ht.typeIs (by decide) ?_);refine Ua (UT (name:=Str.ofString "__getitem__") ht.typeIs U9 (UQ U9 ht.typeIs entry_tuple_getitem ?_ (args_tuple_getitem _ _)));show wpAny _ _ (Builtin.Tuple.tupleItemsOf (.ref t) >>= _) _ _ s;refine Ua (tupleItemsOf_ ht (Ua (WI hTs ?_)));rw[Ue (by decide)];refine Ua (HT.sliceApplied_gen hs pl pu ?_);rw[h1,h2];show wpAny _ _ (if (((0:Nat):Int)==0&&(1:Int)==1&&(items.size-0)==items.size)=true then _ else _) _ _ s;rw[Ue (by simp)];unfold Builtin.Tuple.tupleIsExact;refine Ua (Ua (WI ht.typeIs (Ub ?_)));rw[Ue (by decide)];exact Ua (TD (Ub ⟨_,rfl,Ub h⟩))
end
theorem Qkn(n d:Nat)(o:Option Int):HT.sIx n d o=sIxD n d o:=by cases o<;>rfl
theorem Dens.cut{K:Frag}{μ:List Addr}{H:Hp}{vs:List V}{ds:List D}(lo hi:Option Int)(h:Dens K μ H vs ds):Dens K μ H (cutV vs lo hi) (cutD ds lo hi):=by unfold cutV cutD;rw[Qkn,Qkn,h.length];exact(h.drop _).take _
section
variable{X:Cx}{ca:Nat->Addr}{e:Expr}{me:ME}{lo hi:Option Expr}{ml mh:MO}{pos p2:Pos}
theorem Qiz:SlR X (λx lo hi H Q=>∃a xs,x=.ref a/\SqT X.K H a xs/\(HT.sIx xs.length 0 lo=0/\HT.sIx xs.length xs.length hi=xs.length)/\Q (.ref a) H):=by
 intro pins s σ H x v vl vu lo hi sl Q I rx hs pl pu h;obtain⟨a,xs,rfl,hx,hw,q⟩:=h;cases rx;obtain⟨its,r,ht,hz⟩:=I.tuple hx;have hlen:its.toArray.size=xs.length:=by rw[Ux];exact r.length.symm
 refine⟨"tuple",_,U9.lookup,ht.typeIs,?_⟩;exact QaQ ht hs pl pu (by rw[hlen];exact hw.1) (by rw[hlen];exact hw.2) ⟨.ref a,H,I,rfl,q⟩
def upO(K:Frag)(ca:Nat->Addr)(Φ:XS)(m:MO):TO:=λσ H Q=>∃σ3 g μ,Rep K ca μ σ3 g σ H/\match m σ3 g with
 |.ok o g'=>∀H' μ',Ext K μ H μ' H'->GRep K ca μ' H' g'->Q o H'|.raise x g'=>RaP K ca Φ σ H μ x g'|.stuck=>False
def PO3(ca:Nat->Addr)(X:Cx)(e:Option Expr)(m:MO):Prop:=∀pn Φ,PO (xat X ca pn Φ) e (upO X.K ca Φ m)
theorem Zs:PO3 ca X none QD:=λpn Φ pins s σ H Q I ⟨_,_,μ,R,p⟩=>Ql8 (X:=xat X ca pn Φ) pins s σ H Q I (p H μ .refl R.g)
theorem Jh(he:PE3 ca X e me):PO3 ca X (some e) (ZM me):=λpn Φ pins s σ H Q I hQ=>by
 obtain⟨σ3,g,μ,R,p⟩:=hQ;refine Ql9 (X:=xat X ca pn Φ) (he pn Φ) pins s σ H Q I ⟨σ3,g,μ,R,?_⟩;unfold ZM at p;cases hm:me σ3 g with
 |raise _ _=>rw[hm]at p;exact p|stuck=>rw[hm]at p;exact p|ok d g1=>
  rw[hm,Res.bind_ok]at p;intro v H1 μ1 e1 r1 q1;cases q1 with
  |int i=>exact⟨i,rfl,p H1 μ1 e1 r1⟩|_=>exact p.elim
theorem QmB(xs:List α)(lo hi:Option Int)(h1:sIxD xs.length 0 lo=0)(h2:sIxD xs.length xs.length hi=xs.length):cutD xs lo hi=xs:=by unfold cutD;rw[h1,h2];simp
theorem Z3(he:PE3 ca X e me)(hl:PO3 ca X lo ml)(hh:PO3 ca X hi mh):PE3 ca X (.Subscript e (.Slice lo hi none p2) pos) (QW me ml mh):=λpn Φ=>
 QS (Qj1 (X:=xat X ca pn Φ) ((sl_tup.or Qiz).or Qmb) (he pn Φ) (hl pn Φ) (hh pn Φ)) λσ H Q ⟨σ3,g,μ,R,p⟩=>QN (Y7 R p) λx H1 hQ=>by
  obtain⟨d,g1,μ1,e1,R1,q1,p1⟩:=hQ;refine⟨σ3,g1,μ1,R1,?_⟩;cases hm:ml σ3 g1 with
  |raise _ _=>rw[hm]at p1;exact p1|stuck=>rw[hm]at p1;exact p1|ok l g2=>
   rw[hm,Res.bind_ok]at p1;intro H2 μ2 e2 r2;refine⟨σ3,g2,μ2,R1.go e2 r2,?_⟩;cases hm2:mh σ3 g2 with
   |raise _ _=>rw[hm2]at p1;exact RaP.go e2 p1|stuck=>rw[hm2]at p1;exact p1|ok u g3=>
    rw[hm2,Res.bind_ok]at p1;intro H3 μ3 e3 r3;have p3:=Post.go (e2.trans e3) p1;have q3:=(q1.mono e2).mono e3;unfold QbL at p3;cases q3 with
    |@tup a vs ds ht hs=>
     by_cases hw:HT.sIx vs.length 0 l=0/\HT.sIx vs.length vs.length u=vs.length
     ·refine .inl (.inr ⟨a,vs,rfl,ht,hw,p3 _ H3 μ3 .refl r3 ?_⟩);rw[QmB ds l u (by rw[<-Qkn,<-hs.length];exact hw.1) (by rw[<-Qkn,<-hs.length];exact hw.2)];exact .tup ht hs
     ·exact .inl (.inl ⟨a,vs,rfl,ht,hw,λt ht'=>p3 _ _ μ3 (QM ht') (r3.new ht') (.tup (.of Qk) ((hs.cut l u).mono (QM ht')))⟩)
    |@fl a vs ds ht hs =>refine .inr ⟨a,vs,rfl,ht.sq,λt ht'=>p3 _ _ (μ3++[t]) (Qx ht') (r3.push ht' ⟨_,Qk,(hs.cut l u).mono (Qx ht')⟩) (.ref ?_)⟩;rw[<-r3.len];simp|@ref n a hn=>
     dsimp only at p3;cases hg:g3[n]? with
     |none=>rw[hg]at p3;exact p3.elim|some o=>
      rw[hg]at p3;obtain⟨a',ha',ob⟩:=r3.addr hg;rw[hn]at ha';cases ha';cases o with
      |lst ds =>obtain⟨vs,hH,hs⟩:=ob;refine .inr ⟨a,vs,rfl,.of hH,λt ht'=>p3 _ _ (μ3++[t]) (Qx ht') (r3.push ht' ⟨_,Qk,(hs.cut l u).mono (Qx ht')⟩) (.ref ?_)⟩;rw[<-r3.len];simp|_=>exact p3.elim
    |_=>exact p3.elim
end
end L3
namespace L3
open PySem PySem.Spec PyProof.Rows L2
abbrev bmV:List Value:=[.type "ValueError",.type "Exception",.type "BaseException",.type "object"]
structure ExK(K:Frag)(C:Addr):Prop where
 ga:findIn K (.ref C) "__getattribute__"=some (some (.builtin "BaseException.__getattribute__"))
 gx:findIn K (.ref C) "__getattr__"=some none
 cl:findIn K (.ref C) "__class__"=some (some (.builtin "object.__class__"))
 gt:specialIn K (.builtin "object.__class__") "__get__"=some (some (.builtin "getset_descriptor.__get__"))
 tk:takesIn K (.builtin "object.__class__")=some true
 mr:mroIn K C (.type "object")=some true
 sb:subIn K (.ref C) (.type "BaseException")=some true
 ci:(clsIn K C).isSome=true
section
variable{prog:Program}{w:World}{A:Around}{E:VP}{s:Shared}{K:Frag}{C e:Addr}{oe:Obj}{vs:Array Value}
theorem Qga(hx:h.get? e=some oe)(hc:oe.cls=.ref C)(hd:oe.data=.fields vs)(hn:oe.dict=none):PySem.W.InstAt h e oe C none:=⟨hx,hc,by obtain⟨c,d,dt,sl⟩:=oe;obtain rfl:dt=_:=hd;rfl,by rw[hn];trivial⟩
theorem QmC(F:ExK K C):findObj K C none "__class__"=some (.bind (.builtin "getset_descriptor.__get__") (.builtin "object.__class__")):=by obtain⟨cd,hc⟩:=T8.mp F.ci;unfold findObj;rw[hc,Option.bind_some,F.cl,Option.bind_some];simp[F.gt,F.tk]
theorem Qko(X:K.In s.heap)(F:ExK K C)(I:PySem.W.InstAt s.heap e oe C none)(hq:Q () s):wpAny (model prog w) A (checkBuiltinCall "BaseException.__getattribute__" ⟨[.ref e,nm],[]⟩) Q E s:=by
 obtain⟨h,g,d,t,os⟩:=s;have hk:builtinKind "BaseException.__getattribute__"=some .slot:=by decide +kernel
 have hsplit:splitId "BaseException.__getattribute__"=some ("BaseException","__getattribute__"):=by decide +kernel
 have L0:=I.type (M:=model prog w);have L1:=Bb (M:=model prog w) X F.sb;have ha:=PySem.F.args_bexc_ga (.ref e) nm;simp only[checkBuiltinCall,hk,hsplit];unfold isInstance;refine Ua (Ua (L0.at (L1.at ?_)));repeat (first|exact hq|wp_step)
theorem QiA(X:K.In s.heap)(F:ExK K C)(I:PySem.W.InstAt s.heap e oe C none)(h:Q (some (.ref C)) {s with toks:=s.toks+1}):wpAny (model prog w) A (getAttr? (.ref e) "__class__") Q E s:=by obtain⟨hh,g,d,t,os⟩:=s;have L0:=I.type (M:=model prog w);have L1:=WX (M:=model prog w) X F.ga;have L2:=WX (M:=model prog w) X F.gx;have L3:=looks_find (M:=model prog w) X I (QmC F);have hb:=PySem.F.attr_ValueError.ga.bind (.ref e);unfold getAttr? getAttrBy? getAttrBy;refine Ua (wpAny_mkText (Ua (Ru (Tn (Ua (L0.at (Ua (L1.at ?_))))))));show wpAny _ _ (getAttrByItsOwn _ _ _ _ _ _) _ _ _;unfold getAttrByItsOwn hookBefore callGetattribute boundAndCalled;refine Ua (L2.at ?_);refine Ua (Ru (Tn ?_));show wpAny _ _ (bindSpecial (.builtin "BaseException.__getattribute__") (.ref e) >>= _) _ _ _;rw[hb];refine Ua (Ub ?_);refine wpAny_call (codeAny_call_builtin PySem.F.attr_ValueError.ga.plain PySem.F.entry_bexc_ga (Qko (s:=⟨hh,g,d,t+1,os⟩) X F I ?_));unfold Builtin.«object.__getattribute__»;refine Ua (W2 (a:=(Value.ref e,[Value.str "__class__" t])) rfl ?_);refine Ua (W2 (a:=Str.ofString "__class__") rfl ?_);refine Ua (L0.at (Ua (L3.at ?_)));show wpAny _ _ (Builtin.ObjectAttr.bindTo (.builtin "getset_descriptor.__get__") (.builtin "object.__class__") (.ref e) (.ref C)) _ _ _;refine Ua (Tn (wpAny_call (class_get (s:=⟨hh,g,d,t+1,os⟩) (od:=none) X I F.mr ?_)));refine Ub ?_;show wpAny (model prog w) A (handedOut (Value.ref C)) _ _ _;exact Ub (Ub h)
theorem Qgb(F:ExK K C):KitX K (.ref e) (.ref C) (λh=>∃o vs,h.get? e=some o/\(o.cls=.ref C/\o.dict=none)/\o.data=.fields vs) where
 ty:=λM h _ ⟨o,vs,h1,h2,h3⟩=>(Qga h1 h2.1 h3 h2.2).type
 it:=λ_ _ X _=>by
  obtain⟨cd,hc⟩:=T8.mp F.ci;unfold clsIn at hc;split at hc
  ·rename_i c' d' cd' sl' ho;intro A' Q' E' s' k q;unfold isType loadHead;exact Ua (wpAny_loadPart (k _ _ (X _ _ ho)) (Ub q))
  ·cases hc
 ne:=λh tp dd its n sl X htp=>by
  obtain⟨cd,hc⟩:=T8.mp F.ci;refine Bool.eq_false_iff.mpr λq=>?_;have z:C=tp:=Value.ref.inj (TB.mp q);subst z;unfold clsIn at hc;split at hc
  ·rename_i c' d' cd' sl' ho;cases (X _ _ ho).symm.trans htp
  ·cases hc
 ca:=λX ⟨o,vs,h1,h2,h3⟩ k=>QiA X F (Qga h1 h2.1 h3 h2.2) k
end
structure IsX(K:Frag)(ca:Nat->Addr)(T:Value)(all cs:List Nat):Prop where
 ex:∀c∈all,ExK K (ca c)
 an:∀c∈all,kitOne K (.ref (ca c)) T=some (decide (c∈cs))
 no:kitOne K (.type "NoneType") T=some false
section
variable{X:Cx}{ca:Nat->Addr}{e:Expr}{me:ME}{pos p p2:Pos}{all cs:List Nat}
theorem QcH(hu:∀v,L2.RelV u v->v=T)(h:IsX X.K ca T all cs):CallR X (.builtin "isinstance") (λxs H Q=>∃x g μ d b,xs=[x,u]/\GRep X.K ca μ H g/\Den X.K μ H x d/\ZN all cs d g=.ok (.bl b) g/\Q (.bl b) H):=by
 intro pins s σ H xs us Q I rv z;obtain⟨x,g,μ,d,b,rfl,r,q,ht,qq⟩:=z;obtain⟨v,v2,rfl,rx,r2⟩:=rv.two;have e2:v2=T:=hu v2 r2;subst e2;have fin:∀tk,EP X pins σ Q (.bool b) {s with toks:=tk}:=λtk=>⟨.bl _,H,I.tok tk,rfl,qq⟩;cases q with
 |non=>cases ht;exact Yk I rx .non h.no fin|@ref n a hn=>
  unfold ZN at ht;dsimp only at ht;cases hg:g[n]? with
  |none=>rw[hg]at ht;cases ht|some o=>
   rw[hg]at ht;obtain⟨a',ha',ob⟩:=r.addr hg;rw[hn]at ha';cases ha';cases o with
   |exc ex=>
    dsimp only at ht;by_cases hm:ex.1∈all
    ·rw[Ue hm]at ht;cases ht;cases rx;obtain⟨⟨o,vs,h1,h2,h3⟩,_⟩:=I.hok a _ ob;exact U8 (Qgb (h.ex _ hm)) I.kIn ⟨o,vs,h1,h2,h3⟩ (h.an _ hm) (λz=>nomatch z) fin
    ·rw[Uf hm]at ht;cases ht
   |_=>cases ht
 |_=>cases ht
theorem Qgc{K:Frag}{Φ:XS}{u:V}(σ:L2.St)(H:Hp)(Q:VK)(h:up K ca Φ (mOp1 (ZN all cs) me) σ H Q):up K ca Φ me σ H λy H1=>∃x g μ d b,[y,u]=[x,u]/\GRep K ca μ H1 g/\Den K μ H1 x d/\ZN all cs d g=.ok (.bl b) g/\Q (.bl b) H1:=by
 obtain⟨σ3,g,μ,R,q⟩:=h;refine QN (Y7 R q) λy H1 ⟨d,g1,μ1,e1,R1,q1,p1⟩=>?_;have:∃b,ZN all cs d g1=.ok (.bl b) g1:=by
  unfold ZN at p1 ⊢;cases d with
  |non=>exact⟨false,rfl⟩|ref n=>
   dsimp only at p1 ⊢;cases hg:g1[n]? with
   |none=>rw[hg]at p1;exact p1.elim|some o=>
    rw[hg]at p1;cases o with
    |exc ex=>
     dsimp only at p1 ⊢;by_cases hm:ex.1∈all
     ·rw[Ue hm];exact⟨_,rfl⟩
     ·rw[Uf hm]at p1;exact p1.elim
    |_=>exact p1.elim
  |_=>exact p1.elim
 obtain⟨b,hb⟩:=this;rw[hb]at p1;exact⟨y,g1,μ1,d,b,rfl,R1.g,q1,hb,p1 _ H1 μ1 .refl R1.g (.bl _)⟩
theorem QmD{x:Str}{C:Addr}(hi:X.mg "isinstance"=none)(hC:X.mg x=some (.ref C)/\IsX X.K ca (.ref C) all cs)(he:PE3 ca X e me)(hgi:Gl X "isinstance":=by rfl)(hg:Gl X x:=by rfl)(hdb:(x==("__debug__" : Str))=false:=by decide)(hs:starEach [e,.Name x p2] X.env=(false,eval e X.env)::starEach [.Name x p2] X.env:=by rfl)(hs2:starEach [.Name x p2] X.env=(false,eval (.Name x p2) X.env)::starEach [] X.env:=by rfl)(hpl:(backTo pos (starEach [.Name x p2] X.env)).any (·.1)=false:=by rfl):
  PE3 ca X (.Call (.Name "isinstance" p) [e,.Name x p2] [] pos) (mOp1 (ZN all cs) me):=λpn Φ=>
 QS (JD (X:=xat X ca pn Φ) (QcH (ca:=ca) (u:=.ref C) (λ_ h=>h) hC.2) hgi hi W8 (Yl (X:=xat X ca pn Φ) (he pn Φ) (Yl (X:=xat X ca pn Φ) (Qc2 (X:=xat X ca pn Φ) (v:=.ref C) hg hC.1 rfl hdb) Qcw hs2) hs) (by decide) (by decide) hs hpl) λσ H Q h=>Qgc σ H Q h
theorem QmE{x:Str}{T:String}(hi:X.mg "isinstance"=none)(hm:X.mg x=none)(hC:bootBuiltins x=some (.type T)/\IsX X.K ca (.type T) all cs)(he:PE3 ca X e me)(hgi:Gl X "isinstance":=by rfl)(hg:Gl X x:=by rfl)(hnm:x ≠"__name__":=by decide)(hdb:(x==("__debug__" : Str))=false:=by decide)(hs:starEach [e,.Name x p2] X.env=(false,eval e X.env)::starEach [.Name x p2] X.env:=by rfl)(hs2:starEach [.Name x p2] X.env=(false,eval (.Name x p2) X.env)::starEach [] X.env:=by rfl)(hpl:(backTo pos (starEach [.Name x p2] X.env)).any (·.1)=false:=by rfl):
  PE3 ca X (.Call (.Name "isinstance" p) [e,.Name x p2] [] pos) (mOp1 (ZN all cs) me):=λpn Φ=>
 QS (JD (X:=xat X ca pn Φ) (QcH (ca:=ca) (u:=.ty T) (λ_ h=>h) hC.2) hgi hi W8 (Yl (X:=xat X ca pn Φ) (he pn Φ) (Yl (X:=xat X ca pn Φ) (Qhu (X:=xat X ca pn Φ) (v:=.ty T) hg hm hC.1 rfl hnm hdb) Qcw hs2) hs) (by decide) (by decide) hs hpl) λσ H Q h=>Qgc σ H Q h
end
section
variable{K:Frag}{C:Addr}{x:Str}{mg:SOV}{h:Heap}
theorem QmF(X:K.In h)(e:mg x=some (.ref C))(q:excIn K C bmV "ValueError.__new__"=true):OwnCls x C bmV "ValueError.__new__" mg h:=by
 refine⟨e,?_⟩;unfold excIn at q;split at q
 ·rename_i dd cd sl ho;split at q
  ·rename_i C' bm k0 k1 k2 k3 n k5 hm hs;simp only[UN,TB,Bool.not_eq_true']at q;obtain⟨⟨⟨⟨⟨rfl,rfl⟩,hdel⟩,ht⟩,hok⟩,hni⟩:=q;obtain⟨nm,bs,mro,ns,qn,hd,sn,sub,ab,col,del⟩:=cd;dsimp only at hm hdel hok hni;subst hm hdel;have hsl:sl = #[k0,k1,k2,k3,some (.builtin "ValueError.__new__"),k5]:=by obtain⟨l⟩:=sl;simp only at hs;rw[hs]
   subst hsl;exact⟨bm,ns,nm,qn,bs,hd,sn,sub,ab,col,dd,k0,k1,k2,k3,k5,_,X _ _ ho,.of_isNs (isNs_of_in X hok),nsMap_none_of_in X hok hni,tail_of_in X ht⟩
  ·cases q
 ·cases q
end
theorem Inv.there'(I:Inv X pins σ H s)(h:H a=some o):∃u,s.heap.get? a=some u:=by
 have:=I.hok a o h;cases o with
 |lst xs=>obtain⟨_,_,_,_,e⟩:=this;exact⟨_,e⟩|tup xs=>obtain⟨_,_,_,u,e,_⟩:=this;exact⟨u,e⟩|dK kvs=>obtain⟨_,_,_,_,u,_,_,e,_⟩:=this;exact⟨u,e⟩|dT kvs=>obtain⟨_,_,_,_,u,_,_,e,_⟩:=this;exact⟨u,e⟩|set S n=>obtain⟨u,_,_,_,e,_⟩:=this;exact⟨u,e⟩|ins C dx fs=>obtain⟨_,_,_,e,_⟩:=this;exact⟨_,e⟩|own y=>exact this|xd fs=>obtain⟨_,⟨_,_,_,e,_⟩,_⟩:=this;exact⟨_,e⟩|met f x=>exact⟨_,this⟩|rng lo hi=>obtain⟨_,_,_,e⟩:=this;exact⟨_,e⟩|frz u v=>exact⟨_,this.1⟩|tbl ps=>exact⟨_,this⟩|ext φ=>exact this.2.1
structure RaH(K:Frag)(mg:SOV)(ca:Nat->Addr)(c:Nat)(x:Str):Prop where
 at':mg x=some (.ref (ca c))
 ex:excIn K (ca c) bmV "ValueError.__new__"=true
section
variable{X:Cx}{ca:Nat->Addr}{e:Expr}{es:List Expr}{mr:MA}{np cpos pos:Pos}{c:Nat}{x:Str}
theorem QmG(h:RaH X.K X.mg ca c x)(hh:X.A.handled=none)(ha:PA3 ca X (e::es) mr)(hg:Gl X x:=by rfl)(hdb:(x==("__debug__" : Str))=false:=by decide)(he:starEach (e::es) X.env=(false,eval e X.env)::starEach es X.env:=by rfl)(hpl:(backTo cpos (starEach es X.env)).any (·.1)=false:=by rfl):PS3 ca X (.Raise (some (.Call (.Name x np) (e::es) [] cpos)) none pos) (Qh2 c mr):=by
 intro pn Φ pins s σ H En I ⟨σ3,g,μ,R,p⟩;obtain⟨bm,N,nm,q,bs,hdct,sn,sub,ab,col,dd,k0,k1,k2,k3,k5,mN,hC,hN,hni,T⟩:=(QmF (h:=X.base) I.ok.mod.kin h.at' h.ex).obj;refine wpAny_Raise_call_subT (C:=ca c) (nm:=nm) (q:=q) (N:=N) (bs:=bs) (bm:=bm) (hdct:=hdct) (sn:=sn) (sub:=sub) (ab:=ab) (col:=col) (dd:=dd) (k0:=k0) (k1:=k1) (k2:=k2) (k3:=k3) (k5:=k5)
  Bj (mN:=mN) (T.hasType Bj.hasBase) hh ?_ hni (QaM I hg h.at' ⟨rfl,?_⟩ hdb)
 ·show(backTo cpos (starEach (e::es) X.env)).any (·.1)=false;rw[he];show(false||(backTo cpos (starEach es X.env)).any (·.1))=false;rw[hpl];rfl
 ·have z:upA X.K ca Φ mr σ H λvs H1=>vs.length<=sizeLine/\Φ (c,none) σ H1:=by
   refine⟨σ3,g,μ,R,?_⟩;unfold Qh2 at p;cases hm:mr σ3 g with
   |raise _ _=>rw[hm]at p;exact RaP.stmt R p|stuck=>rw[hm]at p;exact p|ok ds g1=>
    rw[hm]at p;dsimp only at p;intro vs H1 μ1 e1 r1 q1;by_cases hz:ds.length<=SZ
    ·rw[Ue hz]at p;exact⟨q1.sz hz,p σ H1 μ1 e1 (R.go e1 r1)⟩
    ·rw[Uf hz]at p;exact p.elim
  have az:=ha pn Φ cpos pins s σ H _ I z;have he':starEach (e::es) (xat X ca pn Φ).env=(false,eval e X.env)::starEach es X.env:=he;show wpAny _ _ (evalArgs (.ref (ca c)) true (backTo cpos (starEach (e::es) X.env)) []) _ _ s;rw[he']at az;rw[he];refine WZ (Tg az (λus s2 ⟨vs,H1,I1,r1,hz,hΦ⟩=>⟨rfl,by rw[<-r1.length];exact hz,I1.bk _ _ hC,hN.keeps I1.bk,T.keeps I1.bk,λh' ea hm=>?_⟩) λ_ _ y=>y);have I2:Inv (xon X pn) [] σ H1 s2:=(Qlh I1).pins_of λp hp=>absurd hp (by simp);have I3:Inv (xon X pn) [] σ H1 {s2 with heap:=h'}:=I2.kept (t':=s2.toks) hm.keeps;have hn:H1 ea=none:=by
   cases hq:H1 ea with
   |none=>rfl|some o =>obtain⟨o',ho'⟩:=Inv.there' I2 hq;rw[hm.new]at ho';cases ho'
  obtain⟨t,ht,_⟩:=hm.there;exact⟨ea,(c,none),σ,H1,rfl,I3,⟨Qf2 I2 hm.new hn,rfl,_,_,ht,⟨rfl,rfl⟩,rfl,by simp,.inl rfl⟩,hΦ⟩
end
end L3
namespace L3
open PySem PySem.Spec PyProof.Rows L2
structure CatX(K:Frag)(ca:Nat->Addr)(C:Addr)(cs no:List Nat):Prop where
 ci:(clsIn K C).isSome=true
 ty:typeIn K (.ref C)=some (.type "type")
 sb:subIn K (.ref C) (.type "BaseException")=some true
 yes:∀c∈cs,subIn K (.ref (ca c)) (.ref C)=some true
 no':∀c∈no,subIn K (.ref (ca c)) (.ref C)=some false
section
variable{prog:Program}{w:World}{A:Around}{E:VP}{s:Shared}{K:Frag}{ca:Nat->Addr}{C D e:Addr}{oe:Obj}{cs no:List Nat}{b:Bool}
theorem QiB(X:K.In s.heap)(F:CatX K ca C cs no)(hx:s.heap.get? e=some oe)(hc:oe.cls=.ref D)(hs:subIn K (.ref D) (.ref C)=some b)(h:Q b s):wpAny (model prog w) A (excMatches (.ref e) (.ref C)) Q E s:=by
 obtain⟨hh,g,d,t,os⟩:=s;have L0:=looks_typeIn (M:=model prog w) X F.ty;have L1:=Bb (M:=model prog w) X F.sb;have L2:=Bb (M:=model prog w) X hs;have L3:Looks (model prog w) hh (isType (.ref C)) true:=by
  obtain⟨cd,hc⟩:=T8.mp F.ci;unfold clsIn at hc;split at hc
  ·rename_i c' d' cd' sl' ho;intro A' Q' E' s' k q;unfold isType loadHead;exact Ua (wpAny_loadPart (k _ _ (X _ _ ho)) (Ub q))
  ·cases hc
 have f:=tc_notTuple;unfold excMatches isInstance;refine Ua (Ua (L0.at (W2 f ?_)));simp only[UL,TQ];refine Ua (Ub ?_);simp only[RY,Wj];unfold isExcClass;refine Ua (Ua (Ua (Ua (L3.at ?_))));rw[Ue rfl];refine L1.at ?_;simp only[Rv,UL,TQ];refine Ub (Ub ?_);have L4:Looks (model prog w) hh (typeOf (.ref e)) (.ref D):=hc ▸ (Looks.ld hx).andThen .now;refine Ua (L4.at (Ua (Ua (Ua (L2.at ?_)))));cases b with
 |true=>rw[Ue rfl];exact Ub (Ub (Ub h))|false=>rw[Uf Ui];exact Ub (Ub (Ub h))
end
abbrev xmk(X:Cx)(v:Value):Cx:={X with A:=X.A.mark (some v),calm:=false}
section
variable{X:Cx}{ca:Nat->Addr}{pins:LAO}{σ:L2.St}{H:Hp}{s:Shared}{a:Addr}{x:Xc}
theorem Qln(v:Value)(I:Inv X pins σ H s):Inv (xmk X v) pins σ H s:=⟨⟨I.ok.mod,I.ok.kind,I.ok.glob,I.ok.blt,I.ok.above,I.ok.inj,I.ok.has,I.ok.cab,(λz=>by cases z),I.ok.frames,I.ok.stk,I.ok.exf,I.ok.bs,I.ok.bsz,I.ok.noex,I.ok.exfs,I.ok.funs,I.ok.frf⟩,I.os,I.bare,I.base,I.loc,I.cell,I.free,I.freeC,I.pin,I.hok,I.len⟩
theorem Qgd(h:X.calm=true->X.A.handled=none)(I:Inv (xmk X v) pins σ H s):Inv X pins σ H s:=⟨⟨I.ok.mod,I.ok.kind,I.ok.glob,I.ok.blt,I.ok.above,I.ok.inj,I.ok.has,I.ok.cab,h,I.ok.frames,I.ok.stk,I.ok.exf,I.ok.bs,I.ok.bsz,I.ok.noex,I.ok.exfs,I.ok.funs,I.ok.frf⟩,I.os,I.bare,I.base,I.loc,I.cell,I.free,I.freeC,I.pin,I.hok,I.len⟩
theorem Qg0(I:Inv X pins σ H s)(ha:FpW X pins H a)(new:ObjOk X.prog X.w (upd H a o) s.heap a o):Inv X pins σ (upd H a o) s:=by
 have ne:∀b u,H b=some u->b≠a:=λb u e=>Qy e ha.1;refine Qen (h':=s.heap) (H':=upd H a o) (g':=s.gens) (t':=s.toks) (d':=s.drawn) (ch:=[a]) I (λb hb=>?_) (λb o _ _ _ e _=>e) (λb o _ _ _ e _=>⟨o.slots,e⟩) (λb o hb e n=>?_) (λb o _ e=>⟨o,e⟩)
  (λb xs e=>by rw[Qo (ne b _ e)];exact e) (λb o u e=>by rw[Qo (ne b _ e)];exact e) (λb ps e=>⟨#[],by rw[Qo (ne b _ e),e];simp⟩) (λ_ h=>h) (λb u e=>?_) I.bare
 ·rw[Uj.mp hb];exact⟨ha.2.2.2.1,ha.2.1,ha.2.2.2.2.1,ha.2.2.2.2.2⟩
 ·rw[Qo (λz=>hb (by simp[z]))];exact n
 ·by_cases hb:b=a
  ·subst hb;rw[Qk]at e;cases e;exact new
  ·rw[Qo hb]at e;exact(I.hok b u e).stay (λ_ _ _ q=>q) (λc q=>by rw[Qo (ne c _ q)];exact q) λc xs q=>by rw[Qo (ne c _ q)];exact q
theorem QiC{M:Model}{A:Around}{E:VP}{i:Nat}{n:Str}{pos:Pos}{Q:Unit->Shared->Prop}(I:Inv X pins σ H s)(hN:X.N.Nodup)(hi:X.N[i]?=some n)(hl:X.env.kindOf n=some .local)(h:∀s',Inv X pins (σ.set i none) H s'->Q () s'):wpAny M A (do bindName X.env n .none;unbindBehindTheSuite X.env n pos) Q E s:=by
 obtain⟨m,hn,hlk⟩:=id I.loc;have hcls:(X.env.scope.kind==.class||(X.env.scope.kind==.module&&X.env.locals != X.env.globals))=false:=by rw[I.ok.kind];rfl
 refine wpAny_nameGoes_keeps hl hn hcls λh' v hn' hs=>h _ ?_;have old:∀b o,b≠X.env.locals->s.heap.get? b=some o->h'.get? b=some o:=λb o hb e=>(hs.2 b hb).trans e;have neL:∀b o,X.s₀.heap.get? b=some o->b≠X.env.locals:=λb o e=>UR (UB (Uw e) I.ok.above);obtain⟨oL,_,_,hoL,_⟩:=id hn;refine⟨I.ok,I.os,I.bare,⟨λb o e n hb hx=>old b o (neL b o e) (I.base.keep b o e n hb hx),λb o e n hb hx=>?_,I.base.free,λb o e hx=>?_,I.base.tups,I.base.frzs,I.base.tbls⟩,⟨_,hn',λj y u e1 e2 e3=>?_⟩,λy c e=>?_,I.free,I.freeC,λp hp=>?_,λb o e=>?_,by simpa using I.len⟩
 ·obtain⟨sl,z⟩:=I.base.slot b o e n hb hx;exact⟨sl,old b _ (neL b o e) z⟩
 ·obtain⟨o',z⟩:=I.base.there b o e hx;exact⟨o',old b _ (neL b o e) z⟩
 ·have hj:j≠i:=λz=>by
   subst z;rw[List.getElem?_set]at e2;split at e2
   ·split at e2<;>simp at e2
   ·rename_i q;exact q rfl
  rw[Uh (Ne.symm hj)]at e2;obtain⟨u',r',q⟩:=hlk j y u e1 e2 e3;refine⟨u',r',?_⟩;rcases q with⟨k,e⟩|⟨k,c,e,z⟩
  ·refine .inl ⟨k,?_⟩;have:y≠n:=λe=>hj (Qc0 hN e1 (e ▸ hi));simp[this,e]
  ·exact .inr ⟨k,c,e,z.sameBut hs (I.cne y c e)⟩
 ·obtain⟨w',z⟩:=I.cell y c e;exact⟨w',z.sameBut hs (I.cne y c e)⟩
 ·obtain⟨e,n,ne,nf,d⟩:=I.pin p hp;exact⟨old p.1 _ ne e,n,ne,nf,d⟩
 ·refine(I.hok b o e).stay (λc w' hc q=>old c _ ?_ q) (λ_ q=>q) λ_ _ q=>q;rintro rfl;rcases hc with z|z
  ·rw[<-z,I.free]at e;cases e
  ·rw[I.free]at z;cases z
end
end L3
namespace L3
open PySem PySem.Spec PyProof.Rows L2
section
variable{X:Cx}{ca:Nat->Addr}{body suite:List Stmt}{b0:Stmt}{mb mc:MS}{np hpos pos:Pos}{C:Addr}{cs no:List Nat}{T n:Str}
theorem QoC{Y:Cx}{pn pins:LAO}{E E':VP}{σ:L2.St}{H:Hp}{s:Shared}(I:Inv {Y with pn:=pn,xe:=E} pins σ H s):Inv {Y with pn:=pn++pins,xe:=E'} [] σ H s:=⟨⟨I.ok.mod,I.ok.kind,I.ok.glob,I.ok.blt,I.ok.above,I.ok.inj,I.ok.has,I.ok.cab,I.ok.hd,I.ok.frames,I.ok.stk,I.ok.exf,I.ok.bs,I.ok.bsz,I.ok.noex,I.ok.exfs,I.ok.funs,I.ok.frf⟩,I.os,I.bare,I.base,I.loc,I.cell,I.free,I.freeC,λp hp=>I.pin p (by rw[UY]at hp;exact hp),I.hok,I.len⟩
theorem QbS{Y:Cx}{pn pins:LAO}{E E':VP}{σ:L2.St}{H:Hp}{s:Shared}(I:Inv {Y with pn:=pn++pins,xe:=E} [] σ H s):Inv {Y with pn:=pn,xe:=E'} pins σ H s:=⟨⟨I.ok.mod,I.ok.kind,I.ok.glob,I.ok.blt,I.ok.above,I.ok.inj,I.ok.has,I.ok.cab,I.ok.hd,I.ok.frames,I.ok.stk,I.ok.exf,I.ok.bs,I.ok.bsz,I.ok.noex,I.ok.exfs,I.ok.funs,I.ok.frf⟩,I.os,I.bare,I.base,I.loc,I.cell,I.free,I.freeC,λp hp=>I.pin p (by rw[UY];exact hp),I.hok,I.len⟩
theorem QiD{pn:LAO}{σ:L2.St}{H:Hp}{s:Shared}{a:Addr}{x:Xc}{oe:Obj}{R:Result->Shared->Prop}{b:Bool}(I:Inv (xon X pn) [] σ H s)(hT:X.mg T=some (.ref C))(F:CatX X.K ca C cs no)(he:s.heap.get? a=some oe)(ho:XOb ca x oe)(hs:subIn X.K (.ref (ca x.1)) (.ref C)=some b)(hg:Gl X T)(hdb:(T==("__debug__" : Str))=false)(h:R (.ok (if b then .brk else .next)) s):
  codeAny (model X.prog X.w) (X.A.mark (some (.ref a))) (.handlers (.ref a) [.ExceptHandler (some (.Name T np)) none [] hpos] X.env) R s:=codeAny_handlers_test (QaM (X:=xmk (xon X pn) (.ref a)) (Qln _ I) hg hT (QiB I.kIn F he ho.1 hs h) hdb)
theorem QmH{pn pins:LAO}{Φ:XS}{σ:L2.St}{H:Hp}{s:Shared}{a:Addr}{x:Xc}{Q:Flow->Shared->Prop}(hf:X.env.frame=some X.env.locals)(I:Inv (xon X (pn++pins)) [] σ H s)(fl:FlT (xon X (pn++pins)) ca a x H s.heap)(h:Φ x σ H):
  wpAny (model X.prog X.w) X.A (handleBy (.ref a) X.env []) Q (xat X ca pn Φ).xe s:=by
 refine wpAny_handleBy_nil ?_;unfold PySem.passOn;obtain⟨fp,ln,oe,vs,T,oT,ts,he,hc,hd,hv,hTa,fT,hT,hdT,hs3⟩:=id fl;refine Ua (U0 he hd hv ?_);rw[Uf (show ¬((Value.ref T==Value.none)=true) from by simp)];refine Ua (Jn (fo:=X.env.frame) I fl λh2 T oT ts oe vs I2 a1 a2 a3 a4 a5 a6 a7 a8 a9 a10=>wpAny_throw ?_);rw[hf]at a10;have dn:∀{b:Addr},FpW (xon X (pn++pins)) [] H b->FpW (xon X pn) [] H b:=λz=>⟨z.1,z.2.1,z.2.2.1,z.2.2.2.1,z.2.2.2.2.1,λp hp=>z.2.2.2.2.2 p (by rw[UY]at hp ⊢;exact RH _ hp)⟩;exact⟨a,x,σ,H,rfl,(QbS (Y:=X) I2).pins_of λp hp=>absurd hp (by simp),FlN.fl ⟨dn fp,ln,oe,vs,T,oT,ts,a1,a2,a3,a4,a5,dn a6,a7,a8,a10⟩,h⟩
theorem Qkp{hs:List MH}{h0:ExceptHandler}{hr:List ExceptHandler}(hb:PSs3 ca X body mb)(hk:X.stack=X.env::X.outer)(hf:X.env.frame=some X.env.locals)(hh:∀(pn pins:LAO) (Φ:XS) (En:Ends) (σ:L2.St) (H:Hp) (s:Shared) (a:Addr) (x:Xc) (σ3:S3) (g:G) (μ:List Addr),(X.calm=true->X.A.handled=none)->Inv (xon X (pn++pins)) [] σ H s->FlT (xon X (pn++pins)) ca a x H s.heap->Rep X.K ca μ σ3 g σ H->PostS X.K ca Φ En H μ (runH hs x σ3 g)->wpAny (model X.prog X.w) X.A (handleBy (.ref a) X.env (h0::hr)) (SP (xat X ca pn Φ) pins En) (xat X ca pn Φ).xe s):PS3 ca X (.Try body (h0::hr) [] [] pos) (mTry mb hs):=by
 intro pn Φ pins s σ H En I ⟨σ3,g,μ,R,p⟩;refine wpAny_Try_except ?_;have p1:PostS X.K ca (λx σ' H'=>∃σ4 g4 μ4,Rep X.K ca μ4 σ4 g4 σ' H'/\PostS X.K ca Φ En H' μ4 (runH hs x σ4 g4)) En H μ (mb σ3 g):=by
  unfold mTry at p;cases hm:mb σ3 g with
  |nx _ _=>rw[hm]at p;exact p|rt _ _=>rw[hm]at p;exact p|bk _ _=>rw[hm]at p;exact p|ct _ _=>rw[hm]at p;exact p|raise x σ' g'=>rw[hm]at p;exact λσ4 H' μ' e R'=>⟨σ',g',μ',R',PostS.go e p⟩
  |stuck=>rw[hm]at p;exact p
 refine Tg (hb (pn++pins) _ [] s σ H En (QoC (Y:=X) I) ⟨σ3,g,μ,R,p1⟩) (λf s1 h1=>?_) λv s1 h1=>?_
 ·cases f with
  |next=>obtain⟨σ',H',J,q⟩:=h1;exact Qhv (X:=xat X ca pn Φ) pins s1 σ' H' En (QbS (Y:=X) J) q|brk=>obtain⟨σ',H',J,q⟩:=h1;exact⟨σ',H',QbS (Y:=X) J,q⟩|cont=>obtain⟨σ',H',J,q⟩:=h1;exact⟨σ',H',QbS (Y:=X) J,q⟩|ret u=>obtain⟨v,σ',H',J,r,q⟩:=h1;exact⟨v,σ',H',QbS (Y:=X) J,r,q⟩
 ·obtain⟨a,x,σ',H',rfl,I1,fl,σ4,g4,μ4,R4,p4⟩:=h1;refine Qe9 (X:=xon X (pn++pins)) I1 hk hf fl λh2 I2 f2=>?_;refine Jn (X:=xon X (pn++pins)) (fo:=none) I2 f2.t λh3 T oT ts oe vs I3 a1 a2 a3 a4 a5 a6 a7 a8 a9 a10=>?_;exact hh pn pins Φ En σ' H' _ a x σ4 g4 μ4 I.ok.hd I3 ⟨f2.1,f2.2.1,oe,vs,T,oT,ts,a1,a2,a3,a4,a5,a6,a7,a8,a9⟩ R4 p4
theorem QmI(i:Nat)(hN:X.N.Nodup)(hT:X.mg T=some (.ref C)/\CatX X.K ca C cs no)(hb:PSs3 ca X body mb)(hc:∀a,PSs3 ca (xmk X (.ref a)) (b0::suite) mc)(hi:X.N[i]?=some n:=by rfl)(hl:X.env.kindOf n=some .local:=by rfl)(hg:Gl X T:=by rfl)(hdb:(T==("__debug__" : Str))=false:=by decide)(hk:X.stack=X.env::X.outer:=by rfl)(hf:X.env.frame=some X.env.locals:=by rfl):
  PS3 ca X (.Try body [.ExceptHandler (some (.Name T np)) (some n) (b0::suite) hpos] [] [] pos) (mTry mb [⟨cs,no,some i,mc⟩]):=by
 refine Qkp hb hk hf λpn pins Φ En σ H s a x σ3 g μ hcalm I fl R p=>?_;obtain⟨fp,ln,oe,vs,Tb,oT,ts,he,hox,hd,hv,hTa,fT,hTT,hdT,hs3⟩:=id fl;unfold runH at p;by_cases hx:x.1∈cs
 ·rw[Ue hx]at p;dsimp only at p;refine wpAny_handleBy_cons (QiD I hT.1 hT.2 he hox (hT.2.yes _ hx) hg hdb ?_) (by intro q;cases q);refine codeAny_handlers_suite_as ?_;refine Jn (fo:=none) I fl λh2 T2 oT2 ts2 oe2 vs2 I2 b1 b2 b3 b4 b5 b6 b7 b8 b9 b10=>?_;have I3:Inv (xon X (pn++pins)) [] σ (upd H a (XO ca a x)) {s with heap:=h2}:=Qg0 I2 fp ⟨⟨oe2,vs2,b1,b2,b3⟩,⟨oe2,b1⟩,λh3 h4 ⟨o,ws,c1,c2,c3⟩ k=>⟨o,ws,k o c1,c2,c3⟩⟩;have ex:Ext X.K μ H (μ++[a]) (upd H a (XO ca a x)):=Qx fp.1;have G3:GRep X.K ca (μ++[a]) (upd H a (XO ca a x)) (g++[.exc x]):=R.g.push fp.1 Qk;have ea:(μ++[a])[g.length]?=some a:=by rw[<-R.g.len];simp
  refine Qc1 (X:=xmk (xon X (pn++pins)) (.ref a)) (Qln _ I3) hN hi (.inl hl) (v:=.ref a) rfl (λs4 I4=>?_) (.inr hl);have R4:Rep X.K ca (μ++[a]) (σ3.set i (some (.ref g.length))) (g++[.exc x]) (σ.set i (some (.ref a))) (upd H a (XO ca a x)):=(R.go ex G3).set (.ref ea) i;have hcc:=hc a (pn++pins) F0 [] s4 (σ.set i (some (.ref a))) (upd H a (XO ca a x)) {nx:=λσ' H'=>En.nx (σ'.set i none) H',rt:=En.rt} (Inv.wish I4 _) ⟨_,_,_,R4,by
   cases hm:mc (σ3.set i (some (.ref g.length))) (g++[.exc x]) with
   |nx σ5 g5=>
    rw[hm]at p;intro σ' H' μ' e' R';refine p (σ'.set i none) H' μ' (ex.trans e') ⟨R'.g,by rw[UK,UK,R'.len],λj d hj=>?_⟩;have hji:j≠i:=λz=>by
     subst z;rw[List.getElem?_set]at hj;split at hj
     ·split at hj<;>simp at hj
     ·rename_i q;exact q rfl
    rw[Uh (Ne.symm hji)]at hj ⊢;exact R'.st j d hj
   |rt d g5=>rw[hm]at p;exact λv H' μ' e'=>p v H' μ' (ex.trans e')
   |bk _ _=>rw[hm]at p;exact p.elim|ct _ _=>rw[hm]at p;exact p.elim|raise _ _ _=>rw[hm]at p;exact p.elim|stuck=>rw[hm]at p;exact p.elim⟩
  refine Tg (noX hcc) (λf s5 h5=>?_) λ_ _ z=>z.elim;cases f with
  |next =>obtain⟨σ',H',J,q⟩:=h5;have J':Inv (xon X (pn++pins)) [] σ' H' s5:=Qgd (v:=.ref a) hcalm (Inv.wish J _);exact QiC (X:=xon X (pn++pins)) J' hN hi hl λs6 J6=>⟨_,H',QbS (Y:=X) J6,q⟩
  |ret u =>obtain⟨v,σ',H',J,r,q⟩:=h5;have J':Inv (xon X (pn++pins)) [] σ' H' s5:=Qgd (v:=.ref a) hcalm (Inv.wish J _);exact QiC (X:=xon X (pn++pins)) J' hN hi hl λs6 J6=>⟨v,_,H',QbS (Y:=X) J6,r,q⟩
  |brk=>obtain⟨_,_,_,q⟩:=h5;exact q.elim|cont=>obtain⟨_,_,_,q⟩:=h5;exact q.elim
 ·rw[Uf hx]at p;by_cases hn:x.1∈no
  ·rw[Ue hn]at p;refine wpAny_handleBy_cons (QiD I hT.1 hT.2 he hox (hT.2.no' _ hn) hg hdb ?_) (by intro q;cases q);exact QmH hf I fl (p σ H μ .refl R)
  ·rw[Uf hn]at p;exact p.elim
end
end L3
namespace L3
open PySem PySem.Spec PyProof.Rows L2
def bchk(sc scope:Scope)(N Nb:List Str)(no:Nat)(cap:List Nat):Bool:=decide (scope.kind=.function)&&scope.names.all (λy=>decide (y.2≠.cell))&&scope.names.all (λy=>decide (y.2≠.local)||decide (scope.names.lookup y.1=some .local)) &&
 scope.names.all (λy=>decide (y.2≠.free)||decide (sc.names.lookup y.1=some .cell)||decide (sc.names.lookup y.1=some .free))&&decide (Nb.length=no+cap.length) &&
 (List.range cap.length).all λj=>match cap[j]?,Nb[no+j]? with
  |some i,some x=>decide (N[i]?=some x)&&decide (scope.names.lookup x=some .free)&&(decide (sc.names.lookup x=some .cell)||decide (sc.names.lookup x=some .free))|_,_=>false
theorem YU(hsc:X.env.scope=sc)(hN:X.N=N)(h:bchk sc scope N Nb no cap=true):BScope X scope Nb no cap:=by
 subst hsc hN;unfold bchk at h;simp only[UN,We]at h;obtain⟨⟨⟨⟨⟨h1,h2⟩,h3⟩,h4⟩,h5⟩,h6⟩:=h;rw[U7]at h2 h3 h4 h6;refine⟨h1,λy hy=>UA (h2 y hy),λy hy e=>?_,λy hy e=>?_,h5,λj i hj=>?_⟩
 ·rcases Bc.mp (h3 y hy) with z|z
  ·exact absurd e (UA z)
  ·exact UA z
 ·rcases Bc.mp (h4 y hy) with z|z
  ·rcases Bc.mp z with z|z
   ·exact absurd e (UA z)
   ·exact .inl (UA z)
  ·exact .inr (UA z)
 ·have hl:j<cap.length:=(Um.mp hj).1;have z:=h6 j (Wi.mpr hl);rw[hj]at z;cases hx:Nb[no+j]? with
  |none=>rw[hx]at z;cases z|some x=>
   rw[hx]at z;simp only[UN,Bool.or_eq_true,We]at z;obtain⟨⟨z1,z2⟩,z3⟩:=z;refine⟨x,rfl,z1,z2,.inr z3,λq=>?_⟩;have q:X.env.scope.names.lookup x=some .local:=q;rcases z3 with z|z
   ·rw[z]at q;cases q
   ·rw[z]at q;cases q
def exkB(K:Frag)(C:Addr):Bool:=(findIn K (.ref C) "__getattribute__"==some (some (.builtin "BaseException.__getattribute__")))&&(findIn K (.ref C) "__getattr__"==some none)&&(findIn K (.ref C) "__class__"==some (some (.builtin "object.__class__"))) &&
 (specialIn K (.builtin "object.__class__") "__get__"==some (some (.builtin "getset_descriptor.__get__")))&&(takesIn K (.builtin "object.__class__")==some true)&&(mroIn K C (.type "object")==some true) &&
 (subIn K (.ref C) (.type "BaseException")==some true)&&(clsIn K C).isSome
theorem QoD{K:Frag}{C:Addr}(h:exkB K C=true):ExK K C:=by unfold exkB at h;simp only[UN,TB]at h;obtain⟨⟨⟨⟨⟨⟨⟨h1,h2⟩,h3⟩,h4⟩,h5⟩,h6⟩,h7⟩,h8⟩:=h;exact⟨h1,h2,h3,h4,h5,h6,h7,h8⟩
def isxB(K:Frag)(ca:Nat->Addr)(T:Value)(all cs:List Nat):Bool:=all.all (λc=>exkB K (ca c)&&(kitOne K (.ref (ca c)) T==some (decide (c∈cs))))&&(kitOne K (.type "NoneType") T==some false)
theorem QcI{K:Frag}{ca:Nat->Addr}{T:Value}{all cs:List Nat}(h:isxB K ca T all cs=true):IsX K ca T all cs:=by unfold isxB at h;rw[UN,U7]at h;exact⟨λc hc=>QoD (Wh.mp (h.1 c hc)).1,λc hc=>TB.mp (Wh.mp (h.1 c hc)).2,TB.mp h.2⟩
def catB(K:Frag)(ca:Nat->Addr)(C:Addr)(cs no:List Nat):Bool:=(clsIn K C).isSome&&(typeIn K (.ref C)==some (.type "type"))&&(subIn K (.ref C) (.type "BaseException")==some true) &&
 cs.all (λc=>subIn K (.ref (ca c)) (.ref C)==some true)&&no.all λc=>subIn K (.ref (ca c)) (.ref C)==some false
theorem QoE{K:Frag}{ca:Nat->Addr}{C:Addr}{cs no:List Nat}(h:catB K ca C cs no=true):CatX K ca C cs no:=by unfold catB at h;simp only[UN,TB,U7]at h;obtain⟨⟨⟨⟨h1,h2⟩,h3⟩,h4⟩,h5⟩:=h;exact⟨h1,h2,h3,h4,h5⟩
def clsB(K:Frag)(C:Addr):Bool:=plainGet K C Str.empty&&hasDictIn K C&&plainOver K C&&(findIn K (.ref C) "__setattr__"==some (some (.builtin "object.__setattr__")))
theorem Qlo{K:Frag}{C:Addr}(h:clsB K C=true):Cls K C:=by unfold clsB at h;simp only[UN,TB]at h;obtain⟨⟨⟨h1,h2⟩,h3⟩,h4⟩:=h;exact⟨h1,h2,h3,h4⟩
def fldB(K:Frag)(ca:Nat->Addr)(cs:List Nat)(f:Str):Bool:=cs.all λc=>clsB K (ca c)&&(findIn K (.ref (ca c)) f==some none)
theorem QbT{K:Frag}{ca:Nat->Addr}{cs:List Nat}{f:Str}(h:fldB K ca cs f=true):FldOk K ca cs f:=by unfold fldB at h;rw[U7]at h;exact⟨λc hc=>Qlo (Wh.mp (h c hc)).1,λc hc=>TB.mp (Wh.mp (h c hc)).2⟩
section
variable{X:Cx}{ca:Nat->Addr}{pos:Pos}{x:Str}
theorem Yt(h:∃k,X.mg x=some (.str t k))(hg:Gl X x:=by rfl)(hd:(x==("__debug__" : Str))=false:=by decide):PE3 ca X (.Name x pos) (mLit (.str t)):=by obtain⟨k,h⟩:=h;exact Qlg h (v:=.str t) ⟨k,rfl⟩ (λ_ _ _=>.str t) hg hd
theorem Qlp(h:∃k,X.mg x=some (.int i k))(hg:Gl X x:=by rfl)(hd:(x==("__debug__" : Str))=false:=by decide):PE3 ca X (.Name x pos) (mLit (.int i)):=by obtain⟨k,h⟩:=h;exact Qlg h (v:=.int i) ⟨k,rfl⟩ (λ_ _ _=>.int i) hg hd
end
theorem Qlq:bootBuiltins "int"=some (.type Ty.int.name):=boot_int
theorem QiE:bootBuiltins "bool"=some (.type Ty.bool.name):=by decide +kernel
theorem Qlr:bootBuiltins "str"=some (.type Ty.str.name):=by decide +kernel
theorem Qbu:bootBuiltins "tuple"=some (.type Ty.tuple.name):=boot_tuple
theorem Qfb:bootBuiltins "list"=some (.type Ty.list.name):=boot_list
theorem QiF:bootBuiltins "dict"=some (.type Ty.dict.name):=by decide +kernel
theorem Qdu:bootBuiltins "ValueError"=some (.type "ValueError"):=by decide +kernel
section
variable{P:Program}{w:World}{K:Frag}{mg:SOV}{base:Heap}{ca:Nat->Addr}
theorem QmJ(hn:ps.length=n):FnOk P w K mg base (CXW P w ca) k f fd ps (spM K ca n λ_ _=>.stuck):=by subst hn;exact⟨λvs H Q E q=>q.1,λA outer s H args us vs Q E _ _ _ _ h=>by obtain⟨_,_,_,_,_,_,z⟩:=h;exact z.elim⟩
theorem QoF{F:MF}{H:Hp}{a:Addr}{ns:List Int}(hO:Only H)(hS:SqL K H a (ns.map V.int))(h:∃g',F [.fl (ns.map D.int)] []=.ok (.bl true) g'):spM K ca 1 F [.ref a] H (λv _=>v=.bl true) λ_ _ _=>False:=by
 obtain⟨g',h⟩:=h;have hF:SqF K H a (ns.map V.int):=by
  rcases hS with(h|⟨o,h⟩)|h
  ·rcases hO a with z|⟨o,xs,z⟩
   ·rw[h]at z;cases z
   ·rw[h]at z;cases z
  ·exact .inl ⟨o,h⟩
  ·exact .inr (.inr h)
 refine⟨rfl,[.fl (ns.map D.int)],[],[],⟨rfl,.nil,λn a o h=>by simp at h⟩,.cons (.fl hF (Dens.ints ns)) .nil,?_⟩;rw[h];intro v H' μ' e r q;cases q;rfl
end
end L3
namespace L3
open PySem PySem.Spec
theorem len0(h:us.length=0):us=[]:=List.eq_nil_of_length_eq_zero h
theorem len1(h:us.length=1):∃a0,us=[a0]:=by
 cases us with
 |nil=>cases h|cons a r =>have e:=len0 (Nat.succ.inj h);subst e;exact⟨a,rfl⟩
theorem len2(h:us.length=2):∃a0 a1,us=[a0,a1]:=by
 cases us with
 |nil=>cases h|cons a r =>obtain⟨b0,rfl⟩:=len1 (Nat.succ.inj h);exact⟨a,b0,rfl⟩
theorem len3(h:us.length=3):∃a0 a1 a2,us=[a0,a1,a2]:=by
 cases us with
 |nil=>cases h|cons a r =>obtain⟨b0,b1,rfl⟩:=len2 (Nat.succ.inj h);exact⟨a,b0,b1,rfl⟩
theorem len4(h:us.length=4):∃a0 a1 a2 a3,us=[a0,a1,a2,a3]:=by
 cases us with
 |nil=>cases h|cons a r =>obtain⟨b0,b1,b2,rfl⟩:=len3 (Nat.succ.inj h);exact⟨a,b0,b1,b2,rfl⟩
def Qls:Expr->Bool
 |.Starred ..=>false|_=>true
theorem QiG(h:Qls e=true):starEach (e::es) env=(false,eval e env)::starEach es env:=by cases e<;>first|rfl|exact absurd h Ui
variable{P:Program}{w:World}{K:Frag}{mg:SOV}{base:Heap}{ca:Nat->Addr}{X:L2.Cx}
theorem Qd(ha:PE3 ca X e me)(hr:PA3 ca X es mr)(hs:Qls e=true:=by rfl):PA3 ca X (e::es) (Qa me mr):=Jf ha hr (QiG hs)
def Qlt:Expr->Bool
 |.ListComp ..=>false|.SetComp ..=>false|.DictComp ..=>false|_=>true
theorem QmK(h:Qlt e=true):swapsWith e t l env=pure false:=by cases e<;>first|rfl|exact absurd h Ui
theorem QU(i:Nat){x:Str}{pos pos':Pos}{e:Expr}{me:ME}(hN:X.N.Nodup)(he:PE3 ca X e me)(hi:X.N[i]?=some x:=by rfl)(hx:L2.Loc X.env.scope x:=by first|exact Or.inl rfl|exact Or.inr rfl)(hs:Qlt e=true:=by rfl)(hf:X.fn x=true\/X.env.scope.names.lookup x=some .local:=by first|exact .inl rfl|exact .inr rfl):
  PS3 ca X (.Assign [.Name x pos'] e pos) (mAsg (gSet i) me):=QpI i hN he hi hx (QmK hs) hf
end L3
namespace L3
open PySem
end L3
namespace L3
open PySem PySem.Spec PyProof.Rows L2
end L3
namespace PySem
open Sem (wp)
namespace F
end F
end PySem
namespace L3
open PySem
end L3
namespace L3
open PySem PySem.Spec PyProof.Rows L2
end L3
namespace L3
open PySem PySem.Spec PyProof.Rows L2
end L3
namespace L2
open PySem PySem.Spec PyProof.Rows
section
variable{κ:Type}[DecidableEq κ]
def valV(kvs:List (κ×V))(k:κ):Option V:=(kvs.find? λkv=>decide (kv.1=k)).map (·.2)
def putK(kvs:List (κ×V))(k:κ)(v:V):List (κ×V):=if (kvs.any λkv=>decide (kv.1=k))=true then kvs.map (λkv=>if kv.1=k then (kv.1,v) else kv) else kvs++[(k,v)]
def Qkq(kvs:List (κ×V))(k:κ):List (κ×V):=kvs.filter λkv=>decide (kv.1≠k)
theorem Qge{p:κ×V}{r:List (κ×V)}{k:κ}(e:p.1=k):valV (p::r) k=some p.2:=by simp[valV,TH,e]
theorem Qgf{p:κ×V}{r:List (κ×V)}{k:κ}(e:¬p.1=k):valV (p::r) k=valV r k:=by simp[valV,TH,e]
theorem Qfc(kvs:List (κ×V))(k:κ)(v:V):(putK kvs k v).length<=kvs.length+1:=by
 unfold putK;split
 ·rw[Ud];omega
 ·rw[Us,UH,B1];omega
theorem RelO.getD(r:RelO o u)(rd:RelV d d'):RelV (o.getD d) (u.getD d'):=by
 cases o with
 |none=>cases u with
  |none=>exact rd|some _=>exact(show False from r).elim
 |some _=>cases u with
  |none=>exact(show False from r).elim|some _=>exact r
theorem KV.val{kvs:List (κ×V)}{vs:List (κ×Value)}(r:KV kvs vs)(k:κ):RelO (valV kvs k) (valueAt vs k):=by
 unfold KV at r;induction r with
 |nil=>exact True.intro|@cons p q ps qs h t ih=>
  obtain⟨h1,h2⟩:=h;by_cases e:p.1=k
  ·have e':q.1=k:=h1.symm.trans e;have b:valueAt (q::qs) k=some q.2:=by simp[valueAt,TH,e']
   rw[Qge e,b];exact h2
  ·have e':¬q.1=k:=λz=>e (h1.trans z);have b:valueAt (q::qs) k=valueAt qs k:=by simp[valueAt,TH,e']
   rw[Qgf e,b];exact ih
theorem KV.any(r:KV kvs vs)(k:κ):(kvs.any λkv=>decide (kv.1=k))=vs.any λkv=>decide (kv.1=k):=by
 unfold KV at r;induction r with
 |nil=>rfl|cons h t ih=>rw[TY,TY,ih,h.1]
theorem KV.repl(r:KV kvs vs)(k:κ)(ry:RelV y u):
  KV (kvs.map λkv=>if kv.1=k then (kv.1,y) else kv) (vs.map λkv=>if kv.1=k then (kv.1,u) else kv):=by
 unfold KV at r ⊢;induction r with
 |nil=>exact .nil|@cons p q ps qs h t ih=>
  rw[UO,UO];refine .cons ?_ ih;obtain⟨h1,h2⟩:=h;by_cases e:p.1=k
  ·rw[Ue e,Ue (h1.symm.trans e)];exact⟨h1,ry⟩
  ·rw[Uf e,Uf (λz=>e (h1.trans z))];exact⟨h1,h2⟩
theorem KV.put(r:KV kvs vs)(k:κ)(ry:RelV y u):KV (putK kvs k y) (stored vs k u):=by
 unfold putK stored;rw[r.any k];by_cases e:(vs.any λkv=>decide (kv.1=k))=true
 ·rw[Ue e,Ue e];exact r.repl k ry
 ·rw[Uf e,Uf e];exact Paired.snoc r ⟨rfl,ry⟩
theorem KV.drop(r:KV kvs vs)(k:κ):KV (Qkq kvs k) (without vs k):=by
 unfold KV at r ⊢;unfold Qkq without;induction r with
 |nil=>exact .nil|@cons p q ps qs h t ih=>
  obtain⟨h1,h2⟩:=h;rw[T7,T7];by_cases e:p.1=k
  ·have a:¬decide (p.1≠k)=true:=by simp[e]
   have b:¬decide (q.1≠k)=true:=by simp[h1.symm.trans e]
   rw[Uf a,Uf b];exact ih
  ·have e':¬q.1=k:=λz=>e (h1.trans z);have a:decide (p.1≠k)=true:=by simp[e]
   have b:decide (q.1≠k)=true:=by simp[e']
   rw[Ue a,Ue b];exact .cons ⟨h1,h2⟩ ih
theorem KV.length(r:KV kvs vs):kvs.length=vs.length:=Paired.length r
end
theorem QoG(r:RelV (kV k) u):(Jk P w).is k u=true:=by
 cases k with
 |inl i=>obtain⟨t,e⟩:=(show ∃t,u=Value.int i t from r);subst e;exact QeW P w i t|inr x=>obtain⟨t,e⟩:=(show ∃t,u=Value.str x t from r);subst e;exact QeX P w x t
section
variable{P:Program}{w:World}{H:Hp}{h:Heap}{a:Addr}
theorem QpO(ok:HOk P w H h)(e:Rd H a u):ObjOk P w H h a u:=e.ok ok
theorem QpP(ok:HOk P w H h)(e:Rd H a (.dK kvs)):kvs.length<=sizeLine/\(a==sysModules)=false/\∃vs,KV kvs vs/\h.DictOf (Jk P w) a vs:=
 show ObjOk P w H h a (.dK kvs) from QpO ok e
theorem QoH(ok:HOk P w H h)(e:H a=some (.dK kvs)):kvs.length<=sizeLine/\(a==sysModules)=false/\∃vs,KV kvs vs/\h.DictOf (Jk P w) a vs:=QpP ok (.inl e)
end
section
variable{X:Cx}{pins:LAO}{σ:St}{H:Hp}{s:Shared}{a:Addr}{y v:V}{u r:Value}{o:Option V}{A:Around}{E:VP}
theorem Inv.big(I:Inv X pins σ H s):sysModules<s.heap.objs.size:=by have h:mainGlobals<s.heap.objs.size:=(I.mod.glob.keeps I.bk).lt;exact Nat.lt_trans (by decide) h
theorem Qdv(I:Inv X pins σ H s)(mu:Mut (H a))(hs:Heap.SameBut a s.heap h')(he:∃q,h'.get? a=some q)(new:ObjOk X.prog X.w (upd H a ob) h' a ob):
  Inv X pins σ (upd H a ob) {s with heap:=h',toks:=t'}:=I.write (x:=a) (e:=a) mu (.inl rfl) (λb q hb z=>(hs.2 b hb).trans z) he new
theorem QoI(z:kvs.length<=sizeLine)(hd:(a==sysModules)=false)(rel:KV kvs vs)(dd:h'.DictOf (Jk P w) a vs):
  ObjOk P w H' h' a (.dK kvs):=⟨z,hd,vs,rel,dd⟩
end
theorem Qdw(h:Heap)(hb:sysModules<h.objs.size):ObjOk P w H (h.push {cls:=.type "dict",data:=.dict #[]}) h.objs.size (.dK []):=⟨TC _,Th.mpr (Ne.symm (UR hb)),[],.nil,Heap.DictOf.new h⟩
end L2
namespace L3
open PySem
abbrev DK:=Sum Int Str
def dGet(ks:List (DK×D))(k:DK):Option D:=(ks.find? λp=>decide (p.1=k)).map (·.2)
def dPut(ks:List (DK×D))(k:DK)(v:D):List (DK×D):=if (ks.any λp=>decide (p.1=k))=true then ks.map λp=>if p.1=k then (p.1,v) else p else ks++[(k,v)]
def QoJ(ks:List (DK×D))(k:DK):List (DK×D):=ks.filter λp=>decide (p.1≠k)
end L3
namespace L3
open PySem PySem.Spec PyProof.Rows L2
section
variable{K:Frag}{μ:List Addr}{H:Hp}
theorem KRel.get(r:KRel K μ H kv ks)(k:Key):(valV kv k=none/\dGet ks k=none)\/∃v d,valV kv k=some v/\dGet ks k=some d/\Den K μ H v d:=by
 unfold KRel at r;induction r with
 |nil=>exact .inl ⟨rfl,rfl⟩|@cons p q ps qs h t ih=>
  obtain⟨h1,h2⟩:=h;by_cases e:p.1=k
  ·refine .inr ⟨p.2,q.2,Qge e,?_,h2⟩;unfold dGet;rw[TH,Uq (h1.symm.trans e)];rfl
  ·have e':dGet (q::qs) k=dGet qs k:=by unfold dGet;rw[TH,UC (λz=>e (h1.trans z))]
   rw[Qgf e,e'];exact ih
theorem KRel.put(r:KRel K μ H kv ks)(k:Key)(h:Den K μ H v d):KRel K μ H (putK kv k v) (dPut ks k d):=by
 have ha:(kv.any λp=>decide (p.1=k))=ks.any λp=>decide (p.1=k):=by
  unfold KRel at r;induction r with
  |nil=>rfl|cons h t ih=>rw[TY,TY,ih,h.1]
 unfold putK dPut;rw[ha];by_cases e:(ks.any λp=>decide (p.1=k))=true
 ·rw[Ue e,Ue e];clear ha e;unfold KRel at r ⊢;induction r with
  |nil=>exact .nil|@cons p q ps qs hp t ih=>
   rw[UO,UO];refine .cons ?_ ih;obtain⟨h1,h2⟩:=hp;by_cases e:p.1=k
   ·rw[Ue e,Ue (h1.symm.trans e)];exact⟨h1,h⟩
   ·rw[Uf e,Uf (λz=>e (h1.trans z))];exact⟨h1,h2⟩
 ·rw[Uf e,Uf e];exact Paired.snoc r ⟨rfl,h⟩
theorem KRel.drop(r:KRel K μ H kv ks)(k:Key):KRel K μ H (Qkq kv k) (QoJ ks k):=by
 unfold KRel at r ⊢;unfold Qkq QoJ;induction r with
 |nil=>exact .nil|@cons p q ps qs h t ih=>
  obtain⟨h1,h2⟩:=h;rw[T7,T7,<-h1];by_cases e:decide (p.1≠k)=true
  ·rw[Ue e,Ue e];exact .cons ⟨h1,h2⟩ ih
  ·rw[Uf e,Uf e];exact ih
end
end L3
namespace L3
open PySem
def QiH(x y:D)(g:G):Res D:=match x,y with
 |.int i,.int j=>.ok (.int (if j<i then j else i)) g|_,_=>.stuck
def Qdx(o e:ME):ME:=λσ g=>(o σ g).bind λx g1=>match x with
 |.ref n=>(match g1[n]? with
  |some (.lst _)=>(e σ g1).bind λy g2=>(match y with
   |.ref m=>(match g2[n]?,g2[m]? with
    |some (.lst ds),some (.lst es)=>if n≠m/\ds.length+es.length<=SZ then .ok .non (g2.set n (.lst (ds++es))) else .stuck
    |_,_=>.stuck)
   |_=>.stuck)
  |_=>.stuck)
 |_=>.stuck
end L3
namespace L3
open PySem PySem.Spec PyProof.Rows L2
section
variable{X:Cx}
theorem Qkr:IxR X (λx y H Q=>∃a kvs k v,x=.ref a/\y=kV k/\H a=some (.dK kvs)/\valV kvs k=some v/\Q v H):=by intro value slice pins s σ H x y v u Q I rx ry h hs;obtain⟨a,kvs,k,w,rfl,rfl,e,l,q⟩:=h;cases rx;obtain⟨z,hd,vs,rel,dd⟩:=QoH I.hok e;obtain⟨w',hw,rw'⟩:=RelO.some_of (v:=w) (o:=valueAt vs k) (by rw[<-l];exact rel.val k);exact tail_any dd.typeIs PySem.F.slot_dict_getitem.lookup (wpAny_getItem_of (QoG ry) dd.mapOf hw ⟨_,H,I.tok _,rw',q⟩) hs
end
section
variable{X:Cx}{ca:Nat->Addr}{a b e f o:Expr}{ma mb me mf mo:ME}{p pos apos:Pos}
theorem KRel.keys{K:Frag}{μ:List Addr}{H:Hp}{kv:List (Key×V)}{ks:List (Key×D)}(r:KRel K μ H kv ks):kv.map (·.1)=ks.map (·.1):=by
 unfold KRel at r;induction r with
 |nil=>rfl|cons h t ih=>rw[UO,UO,ih,h.1]
theorem QoK{x:Str}{id:String}{r:List V->Hp->VK->Prop}{h:D->D->G->Res D}(hc:∀pn Φ,CallR (xat X ca pn Φ) (.builtin id) r)(hm:X.mg x=none)(hv:bootBuiltins x=some (.builtin id))(hp:∀(Φ:XS) (σ:L2.St) (H:Hp) (μ:List Addr) (g:G) (y z:V) (d c:D) (Q:VK),GRep X.K ca μ H g->Den X.K μ H y d->Den X.K μ H z c->Post X.K ca Φ σ Q H μ (h d c g)->r [y,z] H Q)(he:PE3 ca X e me)(hf:PE3 ca X f mf)(hg:Gl X x)(hn:x ≠"__name__")(hdb:(x==("__debug__" : Str))=false)(hs:starEach [e,f] X.env=(false,eval e X.env)::starEach [f] X.env)(hs2:starEach [f] X.env=(false,eval f X.env)::starEach [] X.env)(hpl:(backTo pos (starEach [f] X.env)).any (·.1)=false):PE3 ca X (.Call (.Name x p) [e,f] [] pos) (mOp2 h me mf):=
 λpn Φ=>QS (JD (X:=xat X ca pn Φ) (hc pn Φ) hg hm hv (Jf he (Jf hf Qm hs2) hs pn Φ) hn hdb hs hpl) λσ H Q hQ=>by
  obtain⟨σ3,g,μ,R,q⟩:=hQ;refine⟨σ3,g,μ,R,?_⟩;unfold mOp2 at q;unfold Qa mNil;cases hm:me σ3 g with
  |raise _ _=>rw[hm]at q;exact q|stuck=>rw[hm]at q;exact q.elim|ok d g1=>
   rw[hm,Res.bind_ok]at q;rw[Res.bind_ok];cases hm2:mf σ3 g1 with
   |raise _ _=>rw[hm2]at q;exact q|stuck=>rw[hm2]at q;exact q.elim|ok c g2=>
    rw[hm2,Res.bind_ok]at q;rw[Res.bind_ok,Res.bind_ok,Res.bind_ok];intro vs H1 μ1 e1 r1 q1;cases q1 with
    |cons h1 h2=>cases h2 with
     |cons h2 h3 =>cases h3;exact hp Φ σ H1 μ1 g2 _ _ d c Q r1 h1 h2 (q.go e1)
theorem QoL(hc:X.calm=true)(hm:X.mg "min"=none)(he:PE3 ca X e me)(hf:PE3 ca X f mf)(hg:Gl X "min":=by rfl)(hs:starEach [e,f] X.env=(false,eval e X.env)::starEach [f] X.env:=by rfl)(hs2:starEach [f] X.env=(false,eval f X.env)::starEach [] X.env:=by rfl)(hpl:(backTo pos (starEach [f] X.env)).any (·.1)=false:=by rfl):
  PE3 ca X (.Call (.Name "min" p) [e,f] [] pos) (mOp2 QiH me mf):=
 QoK (λpn Φ=>QhC (X:=xat X ca pn Φ) hc) hm boot_min (λΦ σ H μ g y z d c Q r q1 q2 pp=>by
  unfold QiH at pp;cases q1 with
  |int i=>
   cases q2 with
   |int j=>exact⟨i,j,rfl,pp _ H μ .refl r (.int _)⟩|_=>exact pp.elim
  |_=>cases q2<;>exact pp.elim) he hf hg (by decide) (by decide) hs hs2 hpl
theorem Qks(ho:PE3 ca X o mo)(he:PE3 ca X e me)(hbase:attributeBase o "extend" X.env (eval o X.env)=eval o X.env:=by rfl)(hfew:((backTo pos (starEach [e] X.env)).all (λx=>!x.1)&&(backToKw pos (keywordEach [] X.env)).all (λx=>x.1.isSome)&&decide ([e].length+([]:List Keyword).length+(if ([]:List Keyword).isEmpty then 0 else 1)<30))=true:=by rfl)(hline:(apos.endLine==pos.line)=true:=by rfl)(hs:starEach [e] X.env=(false,eval e X.env)::starEach [] X.env:=by rfl)(hplain:(backTo pos (starEach [] X.env)).any (·.1)=false:=by rfl):
  PE3 ca X (.Call (.Attribute o "extend" apos) [e] [] pos) (Qdx mo me):=
 λpn Φ=>QS (QnW (X:=xat X ca pn Φ) Wx PySem.F.slot_list_extend PySem.F.type_list_extend QhL (ho pn Φ) (Jf he Qm hs pn Φ) hbase hfew hline hs hplain) λσ H Q ⟨σ3,g,μ,R,q⟩=>QN (Y7 R q) λx H1 hQ=>by
  obtain⟨d,g1,μ1,e1,R1,q1,p1⟩:=hQ;cases q1 with
  |@ref n t hn=>
   dsimp only at p1;cases hgn:g1[n]? with
   |none=>rw[hgn]at p1;exact p1.elim|some ob=>
    rw[hgn]at p1;obtain⟨t',ht',orp⟩:=R1.g.addr hgn;rw[hn]at ht';cases ht';cases ob with
    |lst ds0=>
     obtain⟨vs0,hH0,_⟩:=orp;dsimp only at p1;refine⟨.inl ⟨rfl,_,.of hH0⟩,σ3,g1,μ1,R1,?_⟩;unfold Qa mNil;cases hm:me σ3 g1 with
     |raise _ _=>rw[hm]at p1;exact p1|stuck=>rw[hm]at p1;exact p1.elim|ok y g2=>
      rw[hm,Res.bind_ok]at p1;rw[Res.bind_ok,Res.bind_ok];intro vs H2 μ2 e2 r2 q2;cases q2 with
      |cons h1 h2=>
       cases h2;cases h1 with
       |@ref m c hmm=>
        dsimp only at p1;cases hg2:g2[n]? with
        |none=>rw[hg2]at p1;exact p1.elim|some ob2=>
         cases hg3:g2[m]? with
         |none=>rw[hg2,hg3]at p1;cases ob2<;>exact p1.elim|some ob3=>
          rw[hg2,hg3]at p1;obtain⟨t',ht',orp⟩:=r2.addr hg2;rw[e2.at hn]at ht';cases ht';obtain⟨c',hc',orp3⟩:=r2.addr hg3;rw[hmm]at hc';cases hc';cases ob2 with
          |lst ds=>
           cases ob3 with
           |lst es=>
            obtain⟨ws,hH,qs⟩:=orp;obtain⟨zs,hH3,qz⟩:=orp3;dsimp only at p1;by_cases z:n≠m/\ds.length+es.length<=SZ
            ·rw[Ue z]at p1;have ex:Ext X.K μ2 H2 μ2 (upd H2 t (.lst (ws++zs))):=ZP hH (by intro _ z;cases z) (by intro _ _ z;cases z);refine⟨t,c,ws,zs,rfl,rfl,hH,hH3,by rw[qs.length,qz.length];exact Uk z.2 ZQ,p1 _ _ μ2 (e2.trans ex) ?_ .non⟩;exact r2.set (e2.at hn) hH (by intro _ z;cases z) (by intro _ _ z;cases z) ⟨_,Qk,(qs.mono ex).append (qz.mono ex)⟩
            ·rw[Uf z]at p1;exact p1.elim
           |_=>exact p1.elim
          |_=>cases ob3<;>exact p1.elim
       |_=>exact p1.elim
    |_=>exact p1.elim
  |_=>exact p1.elim
end
end L3
namespace L3
open PySem
abbrev SKd:=Sum (List Int) (List Int×Int×Int×List Int)
def nGet(ks:List (SKd×D))(k:SKd):Option D:=(ks.find? λp=>decide (p.1=k)).map (·.2)
def nPut(ks:List (SKd×D))(k:SKd)(v:D):List (SKd×D):=if (nGet ks k).isSome then ks.map λp=>if p.1=k then (p.1,v) else p else ks++[(k,v)]
def Jr(τ:Bool):ME:=λ_ g=>.ok (.ref g.length) (g++[.dcn τ []])
def nAt(x y:D)(g:G)(f:List (SKd×D)->SKd->Res D):Res D:=match y with
 |.ref n=>(match g[n]? with
  |some (.dcn τ ks)=>(match skOf τ x with
   |some k=>f ks k|none=>.stuck)
  |_=>.stuck)
 |_=>.stuck
def QbU(x y:D)(g:G):Res D:=nAt x y g λks k=>.ok (.bl (!(nGet ks k).isSome)) g
def JZ(o k v:ME):MS:=λσ g=>match v σ g with
 |.ok y g1=>(match o σ g1 with
  |.ok (.ref n) g2=>(match k σ g2 with
   |.ok d g3=>(match g3[n]? with
    |some (.dcn τ ks)=>(match skOf τ d with
     |some k=>if ks.length<SZ then .nx σ (g3.set n (.dcn τ (nPut ks k y))) else .stuck
     |none=>.stuck)
    |_=>.stuck)
   |.raise e g'=>.raise e σ g'|_=>.stuck)
  |.raise e g'=>.raise e σ g'|_=>.stuck)
 |.raise e g'=>.raise e σ g'|.stuck=>.stuck
end L3
namespace L3
open PySem PySem.Spec PyProof.Rows L2
section
variable{X:Cx}{pins:LAO}{σ:L2.St}{H:Hp}{s:Shared}{μ:List Addr}
theorem QmL(I:Inv X pins σ H s)(h:SqT X.K H a vs):∃its,Vals vs its/\NK.Tp s.heap a its:=by obtain⟨its,rv,⟨o,ho,hc,n,hd⟩,_⟩:=I.tuple h;exact⟨its,rv,o,_,n,ho,hc,hd,by simp⟩
theorem QiI:∀{ds:List D}{vs:List V}{its:List Value}{ks:List Int},Dens X.K μ H vs ds->Vals vs its->rowI ds=some ks->NK.Al ((NK.intV X.prog X.w).is s.heap) ks its
 |[],_,_,_,.nil,.nil,h=>by cases h;exact .nil
 |.int i::r,_,_,ks,.cons q qs,.cons rv rvs,h=>by have h:(rowI r).map (i :: ·)=some ks:=h;obtain⟨js,h1,rfl⟩:=UW.mp h;cases q;obtain⟨t,rfl⟩:=rv;exact .cons (show Value.isInt i (.int i t)=true by simp[Value.isInt]) (QiI qs rvs h1)
theorem Qfd(I:Inv X pins σ H s)(q:Den X.K μ H v (.tup ds))(rv:RelV v u)(h:rowI ds=some ks):(NK.lstV (NK.intV X.prog X.w)).is s.heap ks u:=by
 cases q with
 |tup ht hs =>cases rv;obtain⟨its,r1,r2⟩:=QmL I ht;exact⟨_,its,rfl,r2,QiI hs r1 h⟩
theorem Yu(I:Inv X pins σ H s)(q:Den X.K μ H v d)(rv:RelV v u)(h:skOf τ d=some k):(NK.tagV X.prog X.w τ).is s.heap k u:=by
 unfold skOf at h;split at h
 ·obtain⟨g,h1,rfl⟩:=UW.mp h;exact⟨rfl,Qfd I q rv h1⟩
 ·rename_i a p' q' b;cases h1:rowI a with
  |none=>rw[h1]at h;cases h|some x=>
   cases h2:rowI b with
   |none=>rw[h1,h2]at h;cases h|some y=>
    rw[h1,h2]at h;cases h;cases q with
    |tup ht hs=>
     cases rv;obtain⟨its,r1,r2⟩:=QmL I ht;cases hs with
     |cons q1 hs=>cases hs with
      |cons q2 hs=>cases hs with
       |cons q3 hs=>cases hs with
        |cons q4 hs=>
         cases hs;cases q2;cases q3;cases r1 with
         |cons v1 r1=>cases r1 with
          |cons v2 r1=>cases r1 with
           |cons v3 r1=>cases r1 with
            |cons v4 r1 =>cases r1;obtain⟨t2,rfl⟩:=v2;obtain⟨t3,rfl⟩:=v3;exact⟨rfl,_,_,_,_,_,rfl,r2,Qfd I q1 v1 h1,(show Value.isInt p' (.int p' t2)=true by simp[Value.isInt]),(show Value.isInt q' (.int q' t3)=true by simp[Value.isInt]),Qfd I q4 v4 h2⟩
 ·cases h
theorem NRel.mem{K:Frag}{τ:Bool}{xs:List (NK.SK×Addr×Value)}{ks:List (NK.SK×D)}(h:NRel K τ μ H xs ks):∀x∈xs,∃d,skOf τ d=some x.1/\Den K μ H (.ref x.2.1) d:=by
 unfold NRel at h;induction h with
 |nil=>intro x hx;cases hx|cons a _ ih=>intro x hx;rcases UG.mp hx with rfl|z;exact a.2.1;exact ih x z
theorem NRel.get{K:Frag}{τ:Bool}{xs:List (NK.SK×Addr×Value)}{ks:List (NK.SK×D)}(h:NRel K τ μ H xs ks)(k:NK.SK):(atKey xs k=none/\nGet ks k=none)\/∃p d v,atKey xs k=some p/\nGet ks k=some d/\RelV v p.2/\Den K μ H v d:=by
 unfold NRel at h;induction h with
 |nil=>exact .inl ⟨rfl,rfl⟩|@cons x q l1 l2 a _ ih=>
  unfold atKey nGet at ih ⊢;rw[TH,TH];obtain⟨e,_,v,r1,r2⟩:=a;by_cases hk:x.1=k
  ·rw[Uq hk,Uq (e ▸ hk)];exact .inr ⟨_,_,v,rfl,rfl,r1,r2⟩
  ·rw[UC hk,UC (λz=>hk (e.trans z))];exact ih
theorem NRel.isSome{K:Frag}{τ:Bool}{xs:List (NK.SK×Addr×Value)}{ks:List (NK.SK×D)}(h:NRel K τ μ H xs ks)(k:NK.SK):(atKey xs k).isSome=(nGet ks k).isSome:=by rcases h.get k with⟨a,b⟩|⟨p,d,v,a,b,_⟩<;>rw[a,b]<;>rfl
theorem NRel.put{K:Frag}{τ:Bool}{xs:List (NK.SK×Addr×Value)}{ks:List (NK.SK×D)}{k:NK.SK}{a:Addr}{u:Value}{v:V}{dk dv:D}(h:NRel K τ μ H xs ks)(hk:skOf τ dk=some k)(hd:Den K μ H (.ref a) dk)(rv:RelV v u)(hv:Den K μ H v dv):NRel K τ μ H (storedH xs k a u) (nPut ks k dv):=by
 have mp:NRel K τ μ H (xs.map (putAt k u)) (ks.map λp=>if p.1=k then (p.1,dv) else p):=by
  unfold NRel at h ⊢;induction h with
  |nil=>exact .nil|@cons x q l1 l2 b _ ih=>
   refine .cons ?_ ih;obtain⟨e,b2,b3⟩:=b;unfold putAt;dsimp only;by_cases z:x.1=k
   ·rw[Ue z,Ue (e ▸ z)];exact⟨e,b2,v,rv,hv⟩
   ·rw[Uf z,Uf (λw=>z (e.trans w))];exact⟨e,b2,b3⟩
 unfold storedH nPut;rw[h.isSome k];split
 ·exact mp
 ·exact Paired.snoc h ⟨rfl,⟨dk,hk,hd⟩,v,rv,hv⟩
theorem QbV{τ:Bool}{t:Addr}{xs:List (NK.SK×Addr×Value)}{ks:List (NK.SK×D)}(I:Inv X pins σ H s)(e:H t=some (ND t xs))(r:NRel X.K τ μ H xs ks)(hn:(xs.map (·.1)).Nodup):s.heap.DictOfH (NK.tagK X.prog X.w τ) t xs:=by obtain⟨⟨o,es,ep,ho,hc,hd,he⟩,_⟩:=(show ObjOk X.prog X.w H s.heap t (.ext (NK.DObj t xs)) from I.hok t _ e);refine⟨o,es,ep,ho,hc,hd,by rw[he];exact NK.ents_eq _ _ _ _,λx hx=>?_,hn⟩;obtain⟨d,h1,h2⟩:=r.mem x hx;exact Yu I h2 rfl h1
theorem Qau{A:Around}{τ:Bool}(hu:A.units+16<cLine):(NK.tagK X.prog X.w τ).room A.in1:=show A.units+1+2<cLine by omega
def rN(K:Frag)(ca:Nat->Addr)(x y:V)(H:Hp)(Q:Bool->G->List Addr->Addr->List (NK.SK×D)->NK.SK->Prop):Prop:=∃(g:G)(μ:List Addr)(dx:D)(n:Nat)(t:Addr)(τ:Bool)(ks:List (NK.SK×D))(k:NK.SK),GRep K ca μ H g/\Den K μ H x dx/\skOf τ dx=some k/\y=.ref t/\μ[n]?=some t/\g[n]?=some (.dcn τ ks)/\Q τ g μ t ks k
theorem QaR{K:Frag}{τ:Bool}{x:V}{d:D}{k:NK.SK}(q:Den K μ H x d)(h:skOf τ d=some k):∃a,x=.ref a:=by
 unfold skOf at h;split at h
 ·cases q;exact⟨_,rfl⟩
 ·cases q;exact⟨_,rfl⟩
 ·cases h
end
section
variable{X:Cx}{ca:Nat->Addr}
theorem QiJ(hu:X.A.units+16<cLine):OpR X (compareOp .NotIn) (λx y H Q=>rN X.K ca x y H λ_ _ _ _ ks k=>Q (.bl (!(nGet ks k).isSome)) H):=by intro pins s σ H x y v u Q I rx ry h;obtain⟨g,μ,dx,n,t,τ,ks,k,r,q,hk,rfl,hn,hg,hQ⟩:=h;obtain⟨a,rfl⟩:=QaR q hk;cases rx;cases ry;obtain⟨t',ht',xs,hH,nr,nd,hs⟩:=r.addr hg;rw[hn]at ht';cases ht';refine wpAny_notIn_heap (knd:=NK.tagK X.prog X.w τ) (Qau hu) (Yu I q rfl hk) hs (QbV I hH nr nd) ?_;rw[nr.isSome k];exact⟨.bl _,H,I.tok _,rfl,hQ⟩
theorem Qg1(x:NK.DObj a xs h):ObjOk P w H' h a (ND a xs):=by refine show NK.DObj a xs h/\_ from ⟨x,let ⟨o,_,_,ho,_⟩:=x;⟨o,ho⟩,λh1 h2 y k=>?_⟩;obtain⟨o,es,ep,ho,r⟩:=y;exact⟨o,es,ep,k o ho,r⟩
theorem QpQ(hu:X.A.units+16<cLine):PSet X (λo i v H Q=>rN X.K ca i o H λτ _ μ t ks k=>∃dv,Den X.K μ H v dv/\ks.length<SZ/\∀xs',NRel X.K τ μ (upd H t (ND t xs')) xs' (nPut ks k dv)->(xs'.map (·.1)).Nodup->(t==sysModules)=false->Q (upd H t (ND t xs'))):=by intro pins s σ H o i v ov iv u Q I ro ri rv h;obtain⟨g,μ,dx,n,t,τ,ks,k,r,q,hk,rfl,hn,hg,dv,hv,hz,hQ⟩:=h;obtain⟨a,rfl⟩:=QaR q hk;cases ro;cases ri;obtain⟨t',ht',xs,hH,nr,nd,hs⟩:=r.addr hg;rw[hn]at ht';cases ht';have dd:=QbV I hH nr nd;have hl:xs.length=ks.length:=Paired.length nr;refine wpAny_setItem_heap (hsz:=by rw[hl];exact Rf (UB hz ZQ)) (knd:=NK.tagK X.prog X.w τ) (Qau hu) (Yu I q rfl hk) dd λh' dd' hs'=>?_;obtain⟨o,es,ep,ho,hc,hd,he,_,nd'⟩:=dd';have ex:Ext X.K μ H μ (upd H t (ND t (storedH xs k a u))):=ZP hH (λ_ z=>by unfold ND at z;cases z) (λ_ _ z=>by unfold ND at z;cases z);refine⟨_,Qdv I (by rw[hH];exact True.intro) hs' ⟨o,ho⟩ (Qg1 ⟨o,es,ep,ho,hc,hd,by rw[he];exact(NK.ents_eq _ _ _ _).symm⟩),hQ _ ?_ nd' hs⟩;exact(nr.mono ex).put hk (q.mono ex) rv (hv.mono ex)
theorem Qkt:PE X (.Dict [] [] pos) (λ_ H Q=>∀p,H p=none->(p==sysModules)=false->Q (.ref p) (upd H p (ND p []))):=λpins s σ H Q I h=>by obtain⟨_,hd,vs,rel,o,es,ep,ho,hc,hdat,_,hp,_⟩:=(show ObjOk X.prog X.w H _ _ (.dK []) from Qdw s.heap I.big);cases rel;have he:es.toList=[]:=Wy.mp hp.length;exact wpAny_Dict_empty ⟨.ref s.heap.objs.size,_,I.laid (a:=s.heap.objs.size) (o:=ND s.heap.objs.size []) (t':=s.toks) (λ_ _ q=>Uc _ q) (Ug _) (Qg1 ⟨o,es,ep,ho,hc,hdat,he⟩),rfl,h _ (I.hok.fresh (Ug _)) hd⟩
end
section
variable{X:Cx}{ca:Nat->Addr}{a b o e:Expr}{ma mb mo me:ME}{pos:Pos}{k:Nat}
theorem Qdy(τ:Bool):PE3 ca X (.Dict [] [] pos) (Jr τ):=λpn Φ=>QS (Qkt (X:=xat X ca pn Φ)) λσ H Q ⟨σ3,g,μ,R,q⟩=>λt ht hs=>q _ _ (μ++[t]) (Qx ht) (R.g.push ht ⟨[],Qk,.nil,.nil,hs⟩) (.ref (by rw[<-R.g.len];simp))
theorem QoM{K:Frag}{Φ:XS}{σ:L2.St}{H:Hp}{μ:List Addr}{g:G}{x y:V}{dx dy:D}{Q:VK}{f:List (NK.SK×D)->NK.SK->Res D}(r:GRep K ca μ H g)(qx:Den K μ H x dx)(qy:Den K μ H y dy)(p:Post K ca Φ σ Q H μ (nAt dx dy g f)):rN K ca x y H λ_ g' μ' _ ks k=>g'=g/\μ'=μ/\Post K ca Φ σ Q H μ (f ks k):=by
 unfold nAt at p;cases qy with
 |@ref n t hn=>
  dsimp only at p;cases hg:g[n]? with
  |none=>rw[hg]at p;exact p.elim|some ob=>
   rw[hg]at p;cases ob with
   |dcn τ ks=>
    dsimp only at p;cases hk:skOf τ dx with
    |none=>rw[hk]at p;exact p.elim|some k=>rw[hk]at p;exact⟨g,μ,dx,n,t,τ,ks,k,r,qx,hk,rfl,hn,hg,rfl,rfl,p⟩
   |_=>exact p.elim
 |_=>exact p.elim
theorem rN.imp{K:Frag}{x y:V}{H:Hp}{P Q:Bool->G->List Addr->Addr->List (NK.SK×D)->NK.SK->Prop}(h:rN K ca x y H P)(i:∀τ g μ t ks k,GRep K ca μ H g->P τ g μ t ks k->Q τ g μ t ks k):rN K ca x y H Q:=by obtain⟨g,μ,dx,n,t,τ,ks,k,r,q1,q2,q3,q4,q5,q6⟩:=h;exact⟨g,μ,dx,n,t,τ,ks,k,r,q1,q2,q3,q4,q5,i _ _ _ _ _ _ r q6⟩
theorem Qfe{K:Frag}:YR K ca (λx y H Q=>rN K ca x y H λ_ _ _ _ ks k=>Q (.bl (!(nGet ks k).isSome)) H) QbU:=by intro Φ σ H μ g x y dx dy Q r qx qy p;exact(QoM r qx qy p).imp λτ g' μ' t ks k r' ⟨e1,e2,p⟩=>by subst e1 e2;exact p _ H μ' .refl r' (.bl _)
theorem QiK(hr:Room k X.A)(ha:PE3 ca X a ma)(hb:PE3 ca X b mb)(hm:behindInMarks .NotIn b=false:=by rfl):PT3 ca X (.Compare a [.NotIn] [b] pos) (Qj (mOp2 QbU ma mb)):=Jl (λpn Φ=>QiJ (X:=xat X ca pn Φ) (by have:=hr.units;show X.A.units+16<cLine;omega)) Qfe ha hb hm
theorem Qff{i:Expr}{mi:ME}{pos':Pos}(hr:Room k X.A)(ho:PE3 ca X o mo)(hi:PE3 ca X i mi)(he:PE3 ca X e me)(hs:swapsWithSole [.Subscript o i pos'] e pos.line X.env=pure false:=by rfl)(hw:swappedStores [.Subscript o i pos'] e X.env=pure none:=by rfl)(h1:(assignEach [.Subscript o i pos'] X.env).map (·.2)=[assign (.Subscript o i pos') X.env]:=by rfl)(ha:∀v,assign (.Subscript o i pos') X.env v=(do
   let ov <-holding [v] (eval o X.env)
   let iv <-holding [v,ov] (eval i X.env)
   standAt pos'
   holding [v,ov,iv] (setItem ov iv v)
   release [v,ov,iv] []):=by intro _;rfl):PS3 ca X (.Assign [.Subscript o i pos'] e pos) (JZ mo mi me):=
 λpn Φ=>Z2 (Qhw (X:=xat X ca pn Φ) (he pn Φ) (Qk0 (X:=xat X ca pn Φ) (ho pn Φ) (hi pn Φ) (QpQ (ca:=ca) (by have:=hr.units;show X.A.units+16<cLine;omega)) ha) hs hw h1) λE σ H ⟨σ3,g,μ,R,p⟩=>⟨σ3,g,μ,R,by
  unfold JZ at p;cases hm:me σ3 g with
  |ok y g1=>
   rw[hm]at p;dsimp only at p;intro vy H1 μ1 e1 r1 q1;refine⟨σ3,g1,μ1,R.go e1 r1,?_⟩;cases hm2:mo σ3 g1 with
   |ok d g2=>
    rw[hm2]at p;intro vx H2 μ2 e2 r2 q2;cases q2 with
    |@ref n a hn=>
     dsimp only at p;refine⟨σ3,g2,μ2,R.go (e1.trans e2) r2,?_⟩;cases hm3:mi σ3 g2 with
     |ok di g3=>
      rw[hm3]at p;intro vi H3 μ3 e3 r3 q3;dsimp only at p;cases hg:g3[n]? with
      |none=>rw[hg]at p;exact p.elim|some ob=>
       rw[hg]at p;cases ob with
       |dcn τ ks=>
        dsimp only at p;cases hk:skOf τ di with
        |none=>rw[hk]at p;exact p.elim|some k=>
         rw[hk]at p;dsimp only at p;by_cases z:ks.length<SZ
         ·rw[Ue z]at p;refine⟨g3,μ3,di,n,a,τ,ks,k,r3,q3,hk,rfl,e3.at hn,hg,y,(q1.mono e2).mono e3,z,λxs' nr nd hsm=>?_⟩;obtain⟨a',ha',xs,hH,_⟩:=r3.addr hg;rw[e3.at hn]at ha';cases ha';have ex:Ext X.K μ3 H3 μ3 (upd H3 a (ND a xs')):=ZP hH (λ_ z=>by unfold ND at z;cases z) (λ_ _ z=>by unfold ND at z;cases z);refine p σ _ μ3 (((e1.trans e2).trans e3).trans ex) ((R.go ((e1.trans e2).trans e3) r3).go ex ?_);exact r3.set (e3.at hn) hH (λ_ z=>by unfold ND at z;cases z) (λ_ _ z=>by unfold ND at z;cases z) ⟨xs',Qk,nr,nd,hsm⟩
         ·rw[Uf z]at p;exact p.elim
       |_=>exact p.elim
     |raise _ _=>rw[hm3]at p;exact(RaP.stmt R p).go (e1.trans e2)|stuck=>rw[hm3]at p;exact p
    |_=>exact p.elim
   |raise _ _=>rw[hm2]at p;exact(RaP.stmt R p).go e1|stuck=>rw[hm2]at p;exact p
  |raise _ _=>rw[hm]at p;exact RaP.stmt R p|stuck=>rw[hm]at p;exact p⟩
end
end L3
namespace L3
open PySem
def QiL(o k x:ME)(f:Nat->Bool->List (SKd×D)->SKd->D->G->Res D):ME:=λσ g=>(o σ g).bind λa g1=>match a with
 |.ref n=>(match g1[n]? with
  |some (.dcn _ _)=>(k σ g1).bind λy g2=>(x σ g2).bind λz g3=>(match g3[n]? with
   |some (.dcn τ ks)=>(match skOf τ y with
    |some k=>f n τ ks k z g3|none=>.stuck)
   |_=>.stuck)
  |_=>.stuck)
 |_=>.stuck
def Qgg(o k x:ME):ME:=QiL o k x λ_ _ ks k z g=>.ok ((nGet ks k).getD z) g
def JJ(o k x:ME):ME:=QiL o k x λn τ ks k z g=>if ks.length<SZ then (match nGet ks k with
 |some v=>.ok v g|none=>.ok z (g.set n (.dcn τ (ks++[(k,z)])))) else .stuck
end L3
namespace L3
open PySem PySem.Spec PyProof.Rows L2
section
variable{X:Cx}{ca:Nat->Addr}{o e:Expr}{es:List Expr}{to:TE}{t:TA}{name:Str}{apos cpos:Pos}{id:String}{r:V->List V->Hp->VK->Prop}
theorem QoN(slot:Slot "dict" name id)(hty:typeOf (.builtin id)=pure (.type "method_descriptor"))(hm:MtR X id r)(ho:PE X o to)(ha:PA X (e::es) t)(hbase:attributeBase o name X.env (eval o X.env)=eval o X.env)(hfew:((backTo cpos (starEach (e::es) X.env)).all (λx=>!x.1)&&(backToKw cpos (keywordEach [] X.env)).all (λx=>x.1.isSome)
   && decide ((e::es).length+([]:List Keyword).length+(if ([]:List Keyword).isEmpty then 0 else 1)<30))=true)(hline:(apos.endLine==cpos.line)=true)(hs:starEach (e::es) X.env=(false,eval e X.env)::starEach es X.env)(hplain:(backTo cpos (starEach es X.env)).any (·.1)=false):
  PE X (.Call (.Attribute o name apos) (e::es) [] cpos) (λσ H Q=>to σ H λx H1=>(∃p xs,x=.ref p/\H1 p=some (ND p xs))/\t σ H1 λvs H2=>r x vs H2 Q):=by
 intro pins s σ H Q I h;refine wpAny_Call_method_late hbase hfew hline rfl (thn (ho pins s σ H _ I h) λv s1 ⟨x,H1,I1,r1,ty,q1⟩=>?_);obtain⟨p,xs,rfl,hp⟩:=ty;have r1':=r1;cases r1;obtain⟨⟨ob,ens,ep,hob,hc,hd,he⟩,_⟩:=(show ObjOk X.prog X.w H1 s1.heap p (.ext (NK.DObj p xs)) from I1.hok p _ hp);refine⟨"dict",id,BI,slot,hty,⟨ob,hob,hc.1⟩,λa e=>by cases e;exact⟨ob,hob,hc.2.1⟩,?_⟩;have hA:=ha cpos pins s1 σ H1 _ I1 q1;rw[hs]at hA ⊢;refine RS (by show(false||(backTo cpos (starEach es X.env)).any (·.1))=false;rw[hplain]<;>rfl) (WZ ?_);exact thn hA λus s2 ⟨vs,H2,I2,r2,q2⟩=>hm pins s2 σ H2 _ vs _ us Q I2 r1' r2 q2
abbrev QoO(K:Frag)(ca:Nat->Addr):V->List V->Hp->VK->Prop:=λx vs H Q=>∃kv dv,vs=[kv,dv]/\rN K ca kv x H λ_ _ μ _ ks k=>(∀d v,nGet ks k=some d->Den K μ H v d->Q v H)/\(nGet ks k=none->Q dv H)
abbrev QoP(K:Frag)(ca:Nat->Addr):V->List V->Hp->VK->Prop:=λx vs H Q=>∃kv dv,vs=[kv,dv]/\rN K ca kv x H λτ _ μ t ks k=>ks.length<SZ/\(∀d v,nGet ks k=some d->Den K μ H v d->Q v H)/\(nGet ks k=none->∃dd,Den K μ H dv dd/\∀xs',NRel K τ μ (upd H t (ND t xs')) xs' (ks++[(k,dd)])->(xs'.map (·.1)).Nodup->(t==sysModules)=false->Q dv (upd H t (ND t xs')))
theorem QmM(hu:X.A.units+16<cLine):MtR X "dict.get" (QoO X.K ca):=by
 intro pins s σ H x vs v us Q I rx rv h;obtain⟨kv,dv,rfl,g,μ,dx,n,t,τ,ks,k,r,q,hk,rfl,hn,hg,hQ,hQ2⟩:=h;obtain⟨a,rfl⟩:=QaR q hk;cases rx;obtain⟨u1,u2,rfl,ru1,ru2⟩:=rv.two;cases ru1;obtain⟨t',ht',xs,hH,nr,nd,hs⟩:=r.addr hg;rw[hn]at ht';cases ht';have dd:=QbV I hH nr nd;refine Bg PySem.F.slot_dict_get dd.typeIs PySem.F.entry_dict_get (PySem.F.args_dict_get_3 _ _ _) (meetsH_dict_get_default (NK.tagK X.prog X.w τ) t a hs u2) ⟨Qau hu,k,xs,Yu I q rfl hk,dd,?_⟩;rcases nr.get k with⟨a1,b1⟩|⟨p,d',v,a1,b1,rv',dv'⟩
 ·rw[a1];exact⟨dv,H,I.tok _,ru2,hQ2 b1⟩
 ·rw[a1];exact⟨v,H,I.tok _,rv',hQ d' v b1 dv'⟩
theorem QiM(hu:X.A.units+16<cLine):MtR X "dict.setdefault" (QoP X.K ca):=by
 intro pins s σ H x vs v us Q I rx rv h;obtain⟨kv,dv,rfl,g,μ,dx,n,t,τ,ks,k,r,q,hk,rfl,hn,hg,hz0,hQ,hQ2⟩:=h;obtain⟨a,rfl⟩:=QaR q hk;cases rx;obtain⟨u1,u2,rfl,ru1,ru2⟩:=rv.two;cases ru1;obtain⟨t',ht',xs,hH,nr,nd,hs⟩:=r.addr hg;rw[hn]at ht';cases ht';have dd:=QbV I hH nr nd;have hl:xs.length=ks.length:=Paired.length nr;have hz:xs.length<=sizeLine:=by rw[hl];exact Rf (UB hz0 ZQ)
 rcases nr.get k with⟨a1,b1⟩|⟨p,d',v,a1,b1,rv',dv'⟩
 ·obtain⟨de,hde,hQ2⟩:=hQ2 b1;refine Bg RW dd.typeIs WW (WS _ _ _) (NK.meetsSetDef (knd:=NK.tagK X.prog X.w τ) (d:=t) (a:=a) hs u2) ⟨Qau hu,k,xs,Yu I q rfl hk,dd,hz,(λp hp=>by rw[a1]at hp;cases hp),λ_ h' dd' hs'=>?_⟩;obtain⟨ob,ens,ep,ho,hc,hd,he,_,nd'⟩:=dd';have ex:Ext X.K μ H μ (upd H t (ND t (xs++[(k,a,u2)]))):=ZP hH (λ_ z=>by unfold ND at z;cases z) (λ_ _ z=>by unfold ND at z;cases z);refine⟨dv,_,Qdv I (by rw[hH];exact True.intro) hs' ⟨ob,ho⟩ (Qg1 ⟨ob,ens,ep,ho,hc,hd,by rw[he];exact(NK.ents_eq _ _ _ _).symm⟩),ru2,hQ2 _ ?_ nd' hs⟩;exact Paired.snoc (nr.mono ex) ⟨rfl,⟨dx,hk,q.mono ex⟩,dv,ru2,hde.mono ex⟩
 ·refine Bg RW dd.typeIs WW (WS _ _ _) (NK.meetsSetDef (knd:=NK.tagK X.prog X.w τ) (d:=t) (a:=a) hs u2) ⟨Qau hu,k,xs,Yu I q rfl hk,dd,hz,(λp' hp=>?_),(λhp=>by rw[a1]at hp;cases hp)⟩;rw[a1]at hp;cases hp;exact⟨v,H,I.tok _,rv',hQ d' v b1 dv'⟩
end
section
variable{X:Cx}{ca:Nat->Addr}{e f o:Expr}{me mf mo:ME}{pos apos:Pos}{k:Nat}
theorem Qgh{id:String}{name:Str}{r:V->List V->Hp->VK->Prop}{F:Nat->Bool->List (NK.SK×D)->NK.SK->D->G->Res D}(slot:Slot "dict" name id)(hty:typeOf (.builtin id)=pure (.type "method_descriptor"))(hm:∀pn Φ,MtR (xat X ca pn Φ) id r)(hF:∀(Φ:XS) (σ:L2.St) (H:Hp) (μ:List Addr) (g:G) (kv dv:V) (y z:D) (n:Nat) (t:Addr) (τ:Bool) (ks:List (NK.SK×D)) (k:NK.SK) (Q:VK),GRep X.K ca μ H g->Den X.K μ H kv y->Den X.K μ H dv z->skOf τ y=some k->μ[n]?=some t->g[n]?=some (.dcn τ ks)->Post X.K ca Φ σ Q H μ (F n τ ks k z g)->r (.ref t) [kv,dv] H Q)(ho:PE3 ca X o mo)(he:PE3 ca X e me)(hf:PE3 ca X f mf)(hbase:attributeBase o name X.env (eval o X.env)=eval o X.env)(hfew:((backTo pos (starEach [e,f] X.env)).all (λx=>!x.1)&&(backToKw pos (keywordEach [] X.env)).all (λx=>x.1.isSome)&&decide ([e,f].length+([]:List Keyword).length+(if ([]:List Keyword).isEmpty then 0 else 1)<30))=true)(hline:(apos.endLine==pos.line)=true)(hs:starEach [e,f] X.env=(false,eval e X.env)::starEach [f] X.env)(hs2:starEach [f] X.env=(false,eval f X.env)::starEach [] X.env)(hplain:(backTo pos (starEach [f] X.env)).any (·.1)=false):
  PE3 ca X (.Call (.Attribute o name apos) [e,f] [] pos) (QiL mo me mf F):=
 λpn Φ=>QS (QoN (X:=xat X ca pn Φ) slot hty (hm pn Φ) (ho pn Φ) (Jf he (Jf hf Qm hs2) hs pn Φ) hbase hfew hline hs hplain) λσ H Q ⟨σ3,g,μ,R,q⟩=>QN (Y7 R q) λx H1 hQ=>by
  obtain⟨d,g1,μ1,e1,R1,q1,p1⟩:=hQ;cases q1 with
  |@ref n t hn=>
   dsimp only at p1;cases hgn:g1[n]? with
   |none=>rw[hgn]at p1;exact p1.elim|some ob=>
    rw[hgn]at p1;obtain⟨t',ht',orp⟩:=R1.g.addr hgn;rw[hn]at ht';cases ht';cases ob with
    |dcn τ0 ks0=>
     obtain⟨xs0,hH0,_⟩:=orp;dsimp only at p1;refine⟨⟨t,xs0,rfl,hH0⟩,σ3,g1,μ1,R1,?_⟩;unfold Qa mNil;cases hm:me σ3 g1 with
     |raise _ _=>rw[hm]at p1;exact p1|stuck=>rw[hm]at p1;exact p1.elim|ok y g2=>
      rw[hm,Res.bind_ok]at p1;rw[Res.bind_ok];cases hm2:mf σ3 g2 with
      |raise _ _=>rw[hm2]at p1;exact p1|stuck=>rw[hm2]at p1;exact p1.elim|ok z g3=>
       rw[hm2,Res.bind_ok]at p1;rw[Res.bind_ok,Res.bind_ok,Res.bind_ok];intro vs H2 μ2 e2 r2 q2;cases q2 with
       |cons h1 h2=>cases h2 with
        |cons h2 h3=>
         cases h3;cases hg2:g3[n]? with
         |none=>rw[hg2]at p1;exact p1.elim|some ob2=>
          rw[hg2]at p1;cases ob2 with
          |dcn τ ks=>
           dsimp only at p1;cases hk:skOf τ y with
           |none=>rw[hk]at p1;exact p1.elim|some k =>rw[hk]at p1;exact hF Φ σ H2 μ2 g3 _ _ y z n t τ ks k Q r2 h1 h2 hk (e2.at hn) hg2 (p1.go e2)
          |_=>exact p1.elim
    |_=>exact p1.elim
  |_=>exact p1.elim
theorem QiN(hr:Room k X.A)(ho:PE3 ca X o mo)(he:PE3 ca X e me)(hf:PE3 ca X f mf)(hbase:attributeBase o "get" X.env (eval o X.env)=eval o X.env:=by rfl)(hfew:((backTo pos (starEach [e,f] X.env)).all (λx=>!x.1)&&(backToKw pos (keywordEach [] X.env)).all (λx=>x.1.isSome)&&decide ([e,f].length+([]:List Keyword).length+(if ([]:List Keyword).isEmpty then 0 else 1)<30))=true:=by rfl)(hline:(apos.endLine==pos.line)=true:=by rfl)(hs:starEach [e,f] X.env=(false,eval e X.env)::starEach [f] X.env:=by rfl)(hs2:starEach [f] X.env=(false,eval f X.env)::starEach [] X.env:=by rfl)(hplain:(backTo pos (starEach [f] X.env)).any (·.1)=false:=by rfl):
  PE3 ca X (.Call (.Attribute o "get" apos) [e,f] [] pos) (Qgg mo me mf):=
 Qgh (r:=QoO X.K ca) PySem.F.slot_dict_get PySem.F.type_dict_get (λpn Φ=>QmM (ca:=ca) (X:=xat X ca pn Φ) (by have:=hr.units;show X.A.units+16<cLine;omega)) (λΦ σ H μ g kv dv y z n t τ ks k Q r q1 q2 hk hn hg p=>by
  refine⟨kv,dv,rfl,g,μ,y,n,t,τ,ks,k,r,q1,hk,rfl,hn,hg,λd v h1 h2=>?_,λh1=>?_⟩
  ·rw[h1]at p;exact p v H μ .refl r h2
  ·rw[h1]at p;exact p dv H μ .refl r q2) ho he hf hbase hfew hline hs hs2 hplain
theorem Qgi(hr:Room k X.A)(ho:PE3 ca X o mo)(he:PE3 ca X e me)(hf:PE3 ca X f mf)(hbase:attributeBase o "setdefault" X.env (eval o X.env)=eval o X.env:=by rfl)(hfew:((backTo pos (starEach [e,f] X.env)).all (λx=>!x.1)&&(backToKw pos (keywordEach [] X.env)).all (λx=>x.1.isSome)&&decide ([e,f].length+([]:List Keyword).length+(if ([]:List Keyword).isEmpty then 0 else 1)<30))=true:=by rfl)(hline:(apos.endLine==pos.line)=true:=by rfl)(hs:starEach [e,f] X.env=(false,eval e X.env)::starEach [f] X.env:=by rfl)(hs2:starEach [f] X.env=(false,eval f X.env)::starEach [] X.env:=by rfl)(hplain:(backTo pos (starEach [f] X.env)).any (·.1)=false:=by rfl):
  PE3 ca X (.Call (.Attribute o "setdefault" apos) [e,f] [] pos) (JJ mo me mf):=
 Qgh (r:=QoP X.K ca) RW PySem.F.type_dict_setdefault (λpn Φ=>QiM (ca:=ca) (X:=xat X ca pn Φ) (by have:=hr.units;show X.A.units+16<cLine;omega)) (λΦ σ H μ g kv dv y z n t τ ks k Q r q1 q2 hk hn hg p=>by
  by_cases hz:ks.length<SZ
  ·rw[Ue hz]at p;refine⟨kv,dv,rfl,g,μ,y,n,t,τ,ks,k,r,q1,hk,rfl,hn,hg,hz,λd v h1 h2=>?_,λh1=>⟨z,q2,λxs' nr nd hsm=>?_⟩⟩
   ·rw[h1]at p;exact p v H μ .refl r h2
   ·rw[h1]at p;obtain⟨t',ht',xs,hH,_⟩:=r.addr hg;rw[hn]at ht';cases ht';have ex:Ext X.K μ H μ (upd H t (ND t xs')):=ZP hH (λ_ z=>by unfold ND at z;cases z) (λ_ _ z=>by unfold ND at z;cases z);exact p dv _ μ ex (r.set hn hH (λ_ z=>by unfold ND at z;cases z) (λ_ _ z=>by unfold ND at z;cases z) ⟨xs',Qk,nr,nd,hsm⟩) (q2.mono ex)
  ·rw[Uf hz]at p;exact p.elim) ho he hf hbase hfew hline hs hs2 hplain
end
end L3
namespace L3
open PySem
def dAt(x:D)(g:G)(F:List (SKd×D)->Res D):Res D:=match x with
 |.ref n=>(match g[n]? with
  |some (.dcn _ ks)=>if ks.length<=SZ then F ks else .stuck
  |_=>.stuck)
 |_=>.stuck
def Zn(x:D)(g:G):Res D:=dAt x g λks=>.ok (.int ks.length) g
def Ya(x:D)(g:G):Res D:=dAt x g λks=>.ok (.ref g.length) (g++[.lst (ks.map λp=>kD p.1)])
theorem Qdz:∀{ds:List D}{g:List Int},rowI ds=some g->ds=g.map .int
 |[],_,h=>by cases h;rfl
 |.int i::r,g,h=>by have h:(rowI r).map (i :: ·)=some g:=h;obtain⟨js,h1,h2⟩:=UW.mp h;subst h2;rw[Qdz h1];rfl
theorem Qfg(h:skOf τ d=some k):d=kD k:=by
 unfold skOf at h;split at h
 ·obtain⟨g,h1,rfl⟩:=UW.mp h;rw[Qdz h1];rfl
 ·rename_i a p q b;cases h1:rowI a with
  |none=>rw[h1]at h;cases h|some x=>
   cases h2:rowI b with
   |none=>rw[h1,h2]at h;cases h|some y =>rw[h1,h2]at h;cases h;rw[Qdz h1,Qdz h2];rfl
 ·cases h
end L3
namespace NK
open PySem PyProof.Rows
theorem lenD{prog:Program}{w:World}{A:Around}{E:VP}{s:Shared}{d:Addr}{es:Array DictEntry}{ep:Nat}{Q:VP}(hs:(d==sysModules)=false)(hm:DE s.heap d es ep)(hfit:(es.size:Int)<2^63)(h:Q (.int es.size (s.toks+1)) {s with toks:=s.toks+1+1}):wpAny (model prog w) A (call (.builtin "len") [.ref d]) Q E s:=by
 have hT:=hm.typeIs;obtain⟨o,ho,_,hd⟩:=hm;have me:MeetsIn prog w (Builtin.«dict.__len__» ⟨[.ref d],[]⟩) (λ_ R s'=>s'=s/\R (.ok (.ret (.int es.size s.toks))) {s with toks:=s.toks+1}):=.of_wp λA R s' ⟨e,h⟩=>by subst e;show wpAny _ _ (dictSize d >>= _) _ _ s';unfold dictSize;refine Ua (Ua (RK ho hd (Ub ?_)));show wpAny _ _ (Builtin.Dict.pendingCount d >>= _) _ _ s';exact Ua (wpAny_pendingCount_other hs (wpAny_ret_mkInt (by rw[Nat.add_zero];exact h)))
 refine Calls.call_function_entry kind_len plain_len entry_len (args_len1 _) ?_;unfold Builtin.«len»;refine Ua (m:=oneArg "len" _) (Ub ?_);refine Ua (m:=callSpecial? (.ref d) (Str.ofString "__len__")) (UT (name:=Str.ofString "__len__") hT F.slot_dict_len (Bg F.slot_dict_len hT F.entry_dict_len (F.args_dict_len_1 _) me ⟨rfl,?_⟩));show wpAny _ _ _ _ _ {s with toks:=s.toks+1};refine Ua (Tn (Ub (Ua (wpAny_letGo ?_))));show wpAny _ _ (if ((es.size:Nat):Int)<0 then _ else _) _ _ _;rw[Uf (by omega)];show wpAny _ _ (if ((es.size:Nat):Int)>=2^63 then _ else _) _ _ _;rw[Uf (by omega)];exact Ua (wpAny_mkInt (Ub ⟨_,rfl,h⟩))
end NK
namespace L3
open PySem PySem.Spec PyProof.Rows L2
section
variable{X:Cx}{ca:Nat->Addr}
abbrev rD(K:Frag)(ca:Nat->Addr)(x:V)(H:Hp)(Q:G->List Addr->Addr->List (NK.SK×D)->Prop):Prop:=∃(g:G)(μ:List Addr)(n:Nat)(t:Addr)(τ:Bool)(ks:List (NK.SK×D)),GRep K ca μ H g/\x=.ref t/\μ[n]?=some t/\g[n]?=some (.dcn τ ks)/\ks.length<=SZ/\Q g μ t ks
theorem QiO(I:Inv X pins σ H s)(e:H t=some (ND t xs)):∃es ep,NK.DE s.heap t es ep/\es.toList=NK.ents xs:=by obtain⟨⟨o,es,ep,ho,hc,hd,he⟩,_⟩:=(show ObjOk X.prog X.w H s.heap t (.ext (NK.DObj t xs)) from I.hok t _ e);exact⟨es,ep,⟨o,ho,hc,hd⟩,he⟩
theorem JK{es:Array DictEntry}{xs:List (NK.SK×Addr×Value)}(h:es.toList=NK.ents xs):es.size=xs.length:=by rw[<-Ur,h];unfold NK.ents;rw[Ud]
theorem QiP:CallR X (.builtin "len") (λvs H Q=>∃x,vs=[x]/\rD X.K ca x H λ_ _ _ ks=>Q (.int ks.length) H):=by intro pins s σ H vs us Q I rv h;obtain⟨x,rfl,g,μ,n,t,τ,ks,r,rfl,hn,hg,hz,hQ⟩:=h;obtain⟨u,rfl,ru⟩:=rv.one;cases ru;obtain⟨t',ht',xs,hH,nr,nd,hs⟩:=r.addr hg;rw[hn]at ht';cases ht';obtain⟨es,ep,de,he⟩:=QiO I hH;have hl:es.size=ks.length:=(JK he).trans (Paired.length nr);have h1:=Qcu;have h2:=ZQ;have h3:sizeLine=16777216:=TU;exact NK.lenD hs de (by omega) ⟨.int ks.length,H,I.tok _,⟨s.toks+1,by rw[hl]⟩,hQ⟩
theorem QiQ{K:Frag}{τ:Bool}{μ:List Addr}{H:Hp}{xs:List (NK.SK×Addr×Value)}{ks:List (NK.SK×D)}(h:NRel K τ μ H xs ks):Dens K μ H (xs.map λx=>V.ref x.2.1) (ks.map λp=>kD p.1):=by
 unfold NRel at h;induction h with
 |nil=>exact .nil|cons a _ ih =>obtain⟨e,⟨d,h1,h2⟩,_⟩:=a;refine .cons ?_ ih;dsimp only;rw[<-e,<-Qfg h1];exact h2
theorem Qg2(hc:X.calm=true):CallR X (.type "list") (λvs H Q=>∃x,vs=[x]/\rD X.K ca x H λ_ μ _ ks=>∀l ws,H l=none->Dens X.K μ H ws (ks.map λp=>kD p.1)->Q (.ref l) (upd H l (.lst ws))):=by
 intro pins s σ H vs us Q I rv h;obtain⟨x,rfl,g,μ,n,t,τ,ks,r,rfl,hn,hg,hz,hQ⟩:=h;obtain⟨u,rfl,ru⟩:=rv.one;cases ru;obtain⟨t',ht',xs,hH,nr,nd,hs⟩:=r.addr hg;rw[hn]at ht';cases ht';obtain⟨es,ep,de,he⟩:=QiO I hH;have hl:es.size=ks.length:=(JK he).trans (Paired.length nr);have hxl:xs.length=ks.length:=Paired.length nr;have h2:=ZQ;refine kdl_call (NK.srcK (es:=es) (ep:=ep) hs) (I.ok.hd hc) de (by omega) λh' tk acc' c' kp hD hacc=>?_;refine⟨.ref s.heap.objs.size,_,I.laid (a:=s.heap.objs.size) (o:=.lst (xs.map λx=>V.ref x.2.1)) (t':=tk) kp (Ug _) (show ObjOk X.prog X.w _ _ _ (.lst (xs.map λx=>V.ref x.2.1)) from ⟨by rw[Ud];omega,acc'.toList,c',?_,hD⟩),rfl,hQ _ _ (I.hok.fresh (Ug _)) (QiQ nr)⟩;have key:∀(ws:List Value)(js:List (NK.SK×Addr×Value)),ws.length=js.length->(∀(j:Nat)(v:Value)(y:NK.SK×Addr×Value),ws[j]?=some v->js[j]?=some y->v=.ref y.2.1)->Vals (js.map λx=>V.ref x.2.1) ws:=by
  intro ws;induction ws with
  |nil=>intro js h1 _;cases js with
   |nil=>exact .nil|cons _ _=>cases h1
  |cons w ws ih=>
   intro js h1 h2;cases js with
   |nil=>cases h1|cons y js =>refine .cons ?_ (ih js (by simpa using h1) λj v z a b=>h2 (j+1) v z a b);rw[h2 0 w y rfl rfl];rfl
 refine key _ _ (by rw[Ur,hacc.1,hl,hxl]) λj v y hv hy=>?_;obtain⟨hj,rfl⟩:=hacc.2 j v (by rw[<-Tj];exact hv);have e1:es.toList[j]?=some es[j]:=by simp[hj]
 rw[he]at e1;unfold NK.ents at e1;rw[UJ,hy]at e1;injection e1 with e1;rw[<-e1]
end
section
variable{X:Cx}{ca:Nat->Addr}{e:Expr}{me:ME}{p pos:Pos}
theorem QmN{K:Frag}{Φ:XS}{σ:L2.St}{H:Hp}{μ:List Addr}{g:G}{y:V}{d:D}{Q:VK}{F:List (NK.SK×D)->Res D}(r:GRep K ca μ H g)(q:Den K μ H y d)(pp:Post K ca Φ σ Q H μ (dAt d g F)):rD K ca y H λg' μ' _ ks=>g'=g/\μ'=μ/\Post K ca Φ σ Q H μ (F ks):=by
 unfold dAt at pp;cases q with
 |@ref n t hn=>
  dsimp only at pp;cases hg:g[n]? with
  |none=>rw[hg]at pp;exact pp.elim|some ob=>
   rw[hg]at pp;cases ob with
   |dcn τ ks=>
    dsimp only at pp;by_cases z:ks.length<=SZ
    ·rw[Ue z]at pp;exact⟨g,μ,n,t,τ,ks,r,rfl,hn,hg,z,rfl,rfl,pp⟩
    ·rw[Uf z]at pp;exact pp.elim
   |_=>exact pp.elim
 |_=>exact pp.elim
theorem Qav(hm:X.mg "len"=none)(he:PE3 ca X e me)(hg:Gl X "len":=by rfl)(hs:starEach [e] X.env=[(false,eval e X.env)]:=by rfl)(hpl:(backTo pos (starEach [] X.env)).any (·.1)=false:=by rfl):
  PE3 ca X (.Call (.Name "len" p) [e] [] pos) (mOp1 Zn me):=Qir (r:=λvs H Q=>∃x,vs=[x]/\rD X.K ca x H λ_ _ _ ks=>Q (.int ks.length) H) (λpn Φ=>QiP (X:=xat X ca pn Φ)) hm boot_len (λΦ σ H μ g y d Q r q pp=>by obtain⟨g',μ',n,t,τ,ks,r',a1,a2,a3,a4,e1,e2,p'⟩:=QmN (F:=λks=>.ok (.int ks.length) g) r q pp;subst e1 e2;exact⟨y,rfl,g',μ',n,t,τ,ks,r',a1,a2,a3,a4,p' _ H μ' .refl r' (.int _)⟩) he hg (by decide) (by decide) hs hpl
theorem QdA(hc:X.calm=true)(hm:X.mg "list"=none)(he:PE3 ca X e me)(hg:Gl X "list":=by rfl)(hs:starEach [e] X.env=[(false,eval e X.env)]:=by rfl)(hpl:(backTo pos (starEach [] X.env)).any (·.1)=false:=by rfl):
  PE3 ca X (.Call (.Name "list" p) [e] [] pos) (mOp1 Ya me):=r_ty (r:=λvs H Q=>∃x,vs=[x]/\rD X.K ca x H λ_ μ _ ks=>∀l ws,H l=none->Dens X.K μ H ws (ks.map λp=>kD p.1)->Q (.ref l) (upd H l (.lst ws))) (λpn Φ=>Qg2 (X:=xat X ca pn Φ) hc) hm boot_list (λΦ σ H μ g y d Q r q pp=>by obtain⟨g',μ',n,t,τ,ks,r',a1,a2,a3,a4,e1,e2,p'⟩:=QmN (F:=λks=>.ok (.ref g.length) (g++[.lst (ks.map λp=>kD p.1)])) r q pp;subst e1 e2;exact⟨y,rfl,g',μ',n,t,τ,ks,r',a1,a2,a3,a4,λl ws hl hw=>p' _ _ (μ'++[l]) (Qx hl) (r'.push hl ⟨_,Qk,hw.mono (Qx hl)⟩) (.ref (by rw[<-r'.len];simp))⟩) he hg (by decide) (by decide) hs hpl
end
end L3
namespace L3
open PySem
def lexZ:List Int->List Int->Bool
 |[],[]=>false|[],_::_=>true|_::_,[]=>false|a::x,b::y=>if a=b then lexZ x y else decide (a<b)
def ltK:SKd->SKd->Bool
 |.inl a,.inl b=>lexZ a b|.inr x,.inr y=>if x.1=y.1 then (if x.2.1=y.2.1 then (if x.2.2.1=y.2.2.1 then (if x.2.2.2=y.2.2.2 then false else lexZ x.2.2.2 y.2.2.2) else decide (x.2.2.1<y.2.2.1)) else decide (x.2.1<y.2.1)) else lexZ x.1 y.1
 |.inl _,.inr _=>true|.inr _,.inl _=>false
def insK(k:SKd):List SKd->List SKd
 |[]=>[k]|x::r=>if ltK x k then x::insK k r else k::x::r
def sortK:List SKd->List SKd
 |[]=>[]|k::r=>insK k (sortK r)
def okK:SKd->Bool
 |.inl []=>false|_=>true
def YC(τ:Bool):List D->Option (List SKd)
 |[]=>some []|d::r=>(match skOf τ d,YC τ r with
  |some k,some ks=>some (k::ks)|_,_=>none)
def srtK(ks:List SKd)(g:G):Res D:=if ks.length<1000/\ks.Nodup/\ks.all okK=true then .ok (.ref g.length) (g++[.lst ((sortK ks).map kD)]) else .stuck
def Qbv(x:D)(g:G):Res D:=dAt x g λks=>srtK (ks.map (·.1)) g
def Q5(x:D)(g:G):Res D:=match x with
 |.ref n=>(match g[n]? with
  |some (.lst ds)=>(match YC false ds with
   |some ks=>srtK ks g|none=>(match YC true ds with
    |some ks=>srtK ks g|none=>.stuck))
  |_=>.stuck)
 |_=>.stuck
theorem QbW(k:SKd):∀l,(insK k l).Perm (k::l)
 |[]=>.refl _|x::r=>by
  unfold insK;split
  ·exact((QbW k r).cons x).trans (.swap ..)
  ·exact .refl _
theorem sortK_perm:∀l,(sortK l).Perm l
 |[]=>.refl _|k::r=>(QbW k _).trans ((sortK_perm r).cons k)
theorem QiR(ht:∀x y z,ltK x y=true->ltK y z=true->ltK x z=true)(tot:∀x y:SKd,x≠y->ltK x y=true\/ltK y x=true):∀{l:List SKd},l.Pairwise (λx y=>ltK x y=true)->k∉l->(insK k l).Pairwise (λx y=>ltK x y=true)
 |[],_,_=>by simp[insK]
 |x::r,h,hk=>by
  have h':=RV.mp h;have hne:x≠k:=λz=>hk (by rw[z];exact UD ..);unfold insK;split
  ·next hx=>
   refine RV.mpr ⟨λy hy=>?_,QiR ht tot h'.2 λz=>hk (Uz _ z)⟩;rcases UG.mp ((QbW k r).mem_iff.mp hy) with rfl|hy
   ·exact hx
   ·exact h'.1 y hy
  ·next hx=>
   have hkx:ltK k x=true:=(tot x k hne).resolve_left hx;refine RV.mpr ⟨λy hy=>?_,h⟩;rcases UG.mp hy with rfl|hy
   ·exact hkx
   ·exact ht _ _ _ hkx (h'.1 y hy)
theorem sortK_up(ht:∀x y z,ltK x y=true->ltK y z=true->ltK x z=true)(tot:∀x y:SKd,x≠y->ltK x y=true\/ltK y x=true):∀{l:List SKd},l.Nodup->(sortK l).Pairwise (λx y=>ltK x y=true)
 |[],_=>.nil|k::r,h=>by have h':=T0.mp h;exact QiR ht tot (sortK_up ht tot h'.2) λz=>h'.1 ((sortK_perm r).mem_iff.mp z)
theorem up_uniq(hi:∀x,ltK x x=false)(ht:∀x y z,ltK x y=true->ltK y z=true->ltK x z=true):∀{a b:List SKd},a.Perm b->a.Pairwise (λx y=>ltK x y=true)->b.Pairwise (λx y=>ltK x y=true)->a=b
 |[],b,p,_,_=>by rw[List.nil_perm.mp p]
 |x::a,[],p,_,_=>absurd p.symm (by simp)|x::a,y::b,p,h1,h2=>by
  have q1:=RV.mp h1;have q2:=RV.mp h2;have e:x=y:=by
   rcases UG.mp (p.mem_iff.mp (UD ..)) with e|m1
   ·exact e
   ·rcases UG.mp (p.mem_iff.mpr (UD ..)) with e|m2
    ·exact e.symm
    ·have:=ht _ _ _ (q2.1 x m1) (q1.1 y m2);rw[hi]at this;cases this
  subst e;rw[up_uniq hi ht (List.perm_cons x |>.mp p) q1.2 q2.2]
end L3
namespace NK
open PySem PyProof.Rows
theorem QdB:∀x y:List Int,L3.lexZ x y=lexL (λa b=>decide (a<b)) x y
 |[],[]=>rfl|[],_::_=>rfl|_::_,[]=>rfl|a::x,b::y=>by unfold L3.lexZ lexL;rw[QdB x y]
section
variable{prog:Program}{w:World}
abbrev grO:OV (grV prog w):=lstO intO
abbrev ctO:OV (ctV prog w):=QpG grO intO intO grO
theorem QcJ(x y:List Int):L3.ltK (.inl x) (.inl y)=(grO (prog:=prog) (w:=w)).lt x y:=QdB x y
theorem QcK(x y:List Int×Int×Int×List Int):L3.ltK (.inr x) (.inr y)=(ctO (prog:=prog) (w:=w)).lt x y:=by show L3.ltK (.inr x) (.inr y)=lexO false (Qdj _ _ _ _ x y);unfold Qdj L3.ltK;simp only[Qbp];rw[QdB,QdB];rfl
def tagO(τ:Bool):OV (tagV prog w τ) where
 lt:=L3.ltK
 rich:=λ{A E s x y u u' Q} hu hx hy hne h=>by
  cases x with
  |inl x=>cases y with
   |inl y=>exact(grO (prog:=prog) (w:=w)).rich (show A.units+1<cLine by have:A.units+2<cLine:=hu;omega) hx.2 hy.2 (λz=>hne (by rw[z])) (by rw[<-QcJ];exact h)|inr y=>have:=hx.1;have:=hy.1;simp_all
  |inr x=>cases y with
   |inl y=>have:=hx.1;have:=hy.1;simp_all|inr y=>exact(ctO (prog:=prog) (w:=w)).rich hu hx.2 hy.2 (λz=>hne (by rw[z])) (by rw[<-QcK];exact h)
 irr:=λx=>by
  cases x with
  |inl x=>rw[QcJ (prog:=prog) (w:=w)];exact grO.irr x|inr x=>rw[QcK (prog:=prog) (w:=w)];exact ctO.irr x
 tr:=λx y z h1 h2=>by
  cases x with
  |inl x=>cases y with
   |inl y=>cases z with
    |inl z=>rw[QcJ (prog:=prog) (w:=w)]at h1 h2 ⊢;exact grO.tr x y z h1 h2|inr z=>rfl
   |inr y=>cases z with
    |inl z=>cases h2|inr z=>rfl
  |inr x=>cases y with
   |inl y=>cases h1|inr y=>cases z with
    |inl z=>cases h2|inr z=>rw[QcK (prog:=prog) (w:=w)]at h1 h2 ⊢;exact ctO.tr x y z h1 h2
 tot:=λx y h=>by
  cases x with
  |inl x=>cases y with
   |inl y=>rw[QcJ (prog:=prog) (w:=w),QcJ (prog:=prog) (w:=w)];exact grO.tot x y λz=>h (by rw[z])
   |inr y=>exact .inl rfl
  |inr x=>cases y with
   |inl y=>exact .inr rfl|inr y=>rw[QcK (prog:=prog) (w:=w),QcK (prog:=prog) (w:=w)];exact ctO.tot x y λz=>h (by rw[z])
theorem QoQ(hu:A.units+4<cLine)(hx:(tagV prog w τ).is s.heap x u)(hy:(tagV prog w τ).is s.heap y u')(h:Q (L3.ltK x y) s):wpAny (model prog w) A (keyLt' (PyProof.Rows.tuples' (!τ)) u u') Q E s:=by
 cases x with
 |inl x=>cases y with
  |inl y =>obtain⟨rfl,hx⟩:=hx;exact Qj8 hu hx hy.2 (by rw[<-QcJ];exact h)|inr y=>have:=hx.1;have:=hy.1;simp_all
 |inr x=>cases y with
  |inl y=>have:=hx.1;have:=hy.1;simp_all|inr y =>obtain⟨rfl,hx⟩:=hx;obtain⟨r,x1,x2,x3,x4,rfl,t1,i1,i2,i3,i4⟩:=hx;obtain⟨r',y1,y2,y3,y4,rfl,t2,j1,j2,j3,j4⟩:=hy.2;refine Qej (dep:=1) (os:=Qdj (prog:=prog) (w:=w) grO intO intO grO x y) (by omega) t1 t2 (.cons (grO.at' (Ug _) i1 j1) (.cons (intO.at' (TC _) i2 j2) (.cons (intO.at' (TC _) i3 j3) (.cons (grO.at' (Ug _) i4 j4) .nil)))) (λz=>by cases z) ?_;have:lexO (decide ([x1,x2,x3,x4].length<[y1,y2,y3,y4].length)) (Qdj (prog:=prog) (w:=w) grO intO intO grO x y)=L3.ltK (.inr x) (.inr y):=(QcK (prog:=prog) (w:=w) x y).symm;rw[this];exact h
end
end NK
namespace NK
open PySem PyProof.Rows
section
variable{prog:Program}{w:World}{A:Around}{E:VP}{s:Shared}
open Classical in
def QmO(h:Heap)(v:Value):Value:=if e:∃u a us,v=.ref a/\Tp h a us/\us.head?=some u then e.choose else v
theorem Qlu(ht:Tp h a us)(hu:us.head?=some u):QmO h (.ref a)=u:=by have e:∃u b us,Value.ref a=.ref b/\Tp h b us/\us.head?=some u:=⟨u,a,us,rfl,ht,hu⟩;unfold QmO;rw[dif_pos e];obtain⟨b,vs,e1,e2,e3⟩:=e.choose_spec;injection e1 with e1;subst e1;rw[ht.inj e2,e3]at hu;injection hu
theorem QiS(ho:L3.okK k=true)(h:(tagV prog w τ).is s.heap k u):∃a us v,u=.ref a/\Tp s.heap a us/\us.head?=some v/\s.TypeIs v (if τ=true then "tuple" else "int"):=by
 cases k with
 |inl g=>
  obtain⟨rfl,a,us,rfl,t,al⟩:=h;cases al with
  |nil=>cases ho|cons x _ =>obtain⟨t',rfl⟩:=RJ x;exact⟨a,_,_,rfl,t,rfl,typeIs_int s _ _⟩
 |inr c =>obtain⟨rfl,r,x,y,z,q,rfl,t,⟨b,us,rfl,t2,_⟩,_⟩:=h;exact⟨r,_,_,rfl,t,rfl,t2.typeIs⟩
theorem QdC(x:(tagV prog w τ).is h k u)(kp:∀b o,h.get? b=some o->h'.get? b=some o):(tagV prog w τ).is h' k u:=(tagV prog w τ).keeps x λb o _ _ e _=>kp b o e
theorem sorted_keys{τ:Bool}{r:Value}{us:List Value}{ks:List SK}{Q:VP}(hu:A.units+16<cLine)(al:Al ((tagV prog w τ).is s.heap) ks us)(hn:ks.Nodup)(ho:ks.all L3.okK=true)(h64:ks.length<1000)(hc:∀{R:List Value->Shared->Prop},(∀h' tk,(∀b o,s.heap.get? b=some o->h'.get? b=some o)->R us {s with heap:=h',toks:=tk})->wpAny (model prog w) A.in1 (collect r) R E s)(h:∀(h1 h':Heap) (tk:Nat) (out:Array Value) (e:Nat),(∀b o,s.heap.get? b=some o->h1.get? b=some o)->(∀b o,h1.get? b=some o->h'.get? b=some o)->h'.get? h1.objs.size=some (seqObj "list" out e)->Al ((tagV prog w τ).is s.heap) (L3.sortK ks) out.toList->(∀u∈out.toList,u∈us)->Q (.ref h1.objs.size) {s with heap:=h',toks:=tk}):
  wpAny (model prog w) A (call (.builtin "sorted") [r]) Q E s:=by
 have hall:∀k∈ks,L3.okK k=true:=λk hk=>U7.mp ho k hk;refine QgR (kd:=PyProof.Rows.tuples' (!τ)) (rk:=(tagO (prog:=prog) (w:=w) τ).rk s.heap ks) (vs:=us) (by rw[<-al.len];exact h64) hc (λh' tk kp=>?_) (λh2 h' tk kp Q hq=>?_) λh1 h' tk out e k1 k2 hg hp hup=>?_
 ·exact Qoj (tagO τ) al hn λx y u u' _ _ hx hy {E Q} hQ=>QoQ (s:={s with heap:=h',toks:=tk}) (show A.units+1+1+4<cLine by omega) (QdC hx kp) (QdC hy kp) hQ
 ·have fk:∀v∈us,∃a vs x,v=.ref a/\Tp h' a vs/\vs.head?=some x/\Shared.TypeIs {s with heap:=h',toks:=tk} x (if τ=true then "tuple" else "int"):=λv hv=>by obtain⟨k,m,hk⟩:=al.has v hv;exact QiS (s:={s with heap:=h',toks:=tk}) (hall k m) (QdC hk kp)
  refine NZ.kind_tup (fst:=QmO h') (T:=if τ=true then "tuple" else "int") (λz=>by rw[z]at h2;exact absurd h2 (by decide)) (λv hv=>?_) (λv hv=>?_) ?_
  ·obtain⟨a,vs,x,rfl,t,hx,_⟩:=fk v hv;exact⟨a,vs,rfl,t,by rw[Qlu t hx];exact hx⟩
  ·obtain⟨a,vs,x,rfl,t,hx,ty⟩:=fk v hv;rw[Qlu t hx];exact ty
  ·cases τ
   ·exact hq
   ·exact hq
 ·obtain⟨ls,l1,l2,l3⟩:=Qok (tagO τ) al hp hup hn;have e1:ls=L3.sortK ks:=L3.up_uniq (tagO (prog:=prog) (w:=w) τ).irr (tagO (prog:=prog) (w:=w) τ).tr (l1.trans (L3.sortK_perm ks).symm) l3 (L3.sortK_up (tagO (prog:=prog) (w:=w) τ).tr (tagO (prog:=prog) (w:=w) τ).tot hn);subst e1;refine h h1 h' tk _ e k1 k2 hg l2 λu hm=>?_;rw[Array.toList_map]at hm;obtain⟨p,hp1,rfl⟩:=US.mp hm;have:=(TV.mp hp).mem_iff.mp hp1;rw[Bs]at this;obtain⟨q1,q2⟩:=mem_zip_self this;rw[<-q1];exact q2
end
end NK
namespace L3
open PySem PySem.Spec PyProof.Rows L2
section
variable{X:Cx}{ca:Nat->Addr}{pins:LAO}{σ:L2.St}{H:Hp}{s:Shared}{μ:List Addr}
theorem Qer{τ:Bool}{us:List Value}(hb:∀u∈us,∃a k,u=.ref a/\(NK.tagV X.prog X.w τ).is s.heap k u/\Den X.K μ H (.ref a) (kD k)):∀{ls:List NK.SK}{outs:List Value},NK.Al ((NK.tagV X.prog X.w τ).is s.heap) ls outs->(∀u∈outs,u∈us)->∃ws,Vals ws outs/\Dens X.K μ H ws (ls.map kD)
 |_,_,.nil,_=>⟨[],.nil,.nil⟩|l::ls,u::outs,.cons a b,hm=>by obtain⟨p,k,rfl,h1,h2⟩:=hb u (hm u (UD ..));have e:k=l:=(NK.tagV X.prog X.w τ).inj h1 a;subst e;obtain⟨ws,w1,w2⟩:=Qer hb b λv hv=>hm v (Uz _ hv);exact⟨.ref p::ws,.cons rfl w1,.cons h2 w2⟩
theorem QbX{τ:Bool}{r:Value}{us:List Value}{ks:List NK.SK}{Q:VK}(I:Inv X pins σ H s)(hu:X.A.units+16<cLine)(al:NK.Al ((NK.tagV X.prog X.w τ).is s.heap) ks us)(hn:ks.Nodup)(ho:ks.all okK=true)(h64:ks.length<1000)(hb:∀u∈us,∃a k,u=.ref a/\(NK.tagV X.prog X.w τ).is s.heap k u/\Den X.K μ H (.ref a) (kD k))(hc:∀{R:List Value->Shared->Prop},(∀h' tk,(∀b o,s.heap.get? b=some o->h'.get? b=some o)->R us {s with heap:=h',toks:=tk})->wpAny (model X.prog X.w) X.A.in1 (collect r) R X.xe s)(h:∀l ws,H l=none->Dens X.K μ H ws ((sortK ks).map kD)->Q (.ref l) (upd H l (.lst ws))):wpAny (model X.prog X.w) X.A (call (.builtin "sorted") [r]) (EP X pins σ Q) X.xe s:=by
 refine NK.sorted_keys hu al hn ho h64 hc λh1 h' tk out e k1 k2 hg l2 hm=>?_;obtain⟨ws,w1,w2⟩:=Qer hb l2 hm;have I1:Inv X pins σ H {s with heap:=h1,toks:=s.toks}:=I.kept k1;have hl:ws.length<=sizeLine:=by
  have:ws.length=ks.length:=by rw[w2.length,Ud,(sortK_perm ks).length_eq]
  have:=TU;omega
 exact⟨.ref h1.objs.size,_,I1.laid (a:=h1.objs.size) (o:=.lst ws) (t':=tk) k2 (Ug _) (show ObjOk X.prog X.w _ _ _ (.lst ws) from ⟨hl,out.toList,e,w1,by simpa using hg⟩),rfl,h _ ws (I1.hok.fresh (Ug _)) w2⟩
end
section
variable{X:Cx}{ca:Nat->Addr}
theorem QoR{K:Frag}{τ:Bool}{μ:List Addr}{H:Hp}{xs:List (NK.SK×Addr×Value)}{ks:List (NK.SK×D)}(h:NRel K τ μ H xs ks):ks.map (·.1)=xs.map (·.1):=by
 unfold NRel at h;induction h with
 |nil=>rfl|cons a _ ih=>rw[UO,UO,ih,a.1]
theorem QiT  : ∀{xs:List (NK.SK×Addr×Value)},(∀x∈xs,(NK.tagV X.prog X.w τ).is h x.1 (.ref x.2.1))->NK.Al ((NK.tagV X.prog X.w τ).is h) (xs.map (·.1)) (xs.map λx=>Value.ref x.2.1)
 |[],_=>.nil|y::r,hx=>.cons (hx y (UD ..)) (QiT λx hm=>hx x (Uz _ hm))
theorem Qg3{es:Array DictEntry}{xs:List (NK.SK×Addr×Value)}{acc:Array Value}(he:es.toList=NK.ents xs)(ha:ItemsOf (λi v=>∃h:i<es.size,v=es[i].key) acc es.size):acc.toList=xs.map λx=>Value.ref x.2.1:=by
 apply BA;intro j;rw[UJ];by_cases hj:j<acc.size
 ·have e0:acc[j]?=some acc[j]:=BW _ j hj;obtain⟨hj',e1⟩:=ha.2 j _ e0;have e2:es.toList[j]?=some es[j]:=by simp[hj']
  rw[he]at e2;unfold NK.ents at e2;rw[UJ]at e2;cases hx:xs[j]? with
  |none=>rw[hx]at e2;cases e2|some y =>rw[hx]at e2;injection e2 with e2;rw[Tj,e0,e1,<-e2];rfl
 ·have hl:=JK he;have h1:=ha.1;rw[RE (by rw[Ur];omega),RE (by omega)];rfl
theorem Qes(hc:X.calm=true)(hu:X.A.units+16<cLine):CallR X (.builtin "sorted") (λvs H Q=>∃x,vs=[x]/\rD X.K ca x H λ_ μ _ ks=>(ks.map (·.1)).length<1000/\(ks.map (·.1)).Nodup/\(ks.map (·.1)).all okK=true/\∀l ws,H l=none->Dens X.K μ H ws ((sortK (ks.map (·.1))).map kD)->Q (.ref l) (upd H l (.lst ws))):=by
 intro pins s σ H vs us Q I rv h;obtain⟨x,rfl,g,μ,n,t,τ,ks,r,rfl,hn,hg,hz,h64,hnd,hok,hQ⟩:=h;obtain⟨u,rfl,ru⟩:=rv.one;cases ru;obtain⟨t',ht',xs,hH,nr,nd,hs⟩:=r.addr hg;rw[hn]at ht';cases ht';obtain⟨es,ep,de,he⟩:=QiO I hH;have hmem:=nr.mem;have al:NK.Al ((NK.tagV X.prog X.w τ).is s.heap) (ks.map (·.1)) (xs.map λx=>Value.ref x.2.1):=by rw[QoR nr];exact QiT λx hx=>let ⟨d,h1,h2⟩:=hmem x hx;Yu I h2 rfl h1
 refine QbX (us:=xs.map λx=>Value.ref x.2.1) I hu al hnd hok h64 (λu hm=>?_) (λ{R} hR=>?_) hQ
 ·obtain⟨y,hy,rfl⟩:=US.mp hm;obtain⟨d,h1,h2⟩:=hmem y hy;exact⟨_,y.1,rfl,Yu I h2 rfl h1,by rw[<-Qfg h1];exact h2⟩
 ·have hl:es.size=ks.length:=(JK he).trans (Paired.length nr);have h2:=ZQ;refine kdu_collect (NK.srcK (es:=es) (ep:=ep) hs) (I.ok.hd hc) de (by omega) λh' tk acc kp hacc=>?_;rw[Qg3 he hacc];exact hR h' tk kp
theorem Qfh(I:Inv X pins σ H s):∀{ds:List D}{ks:List NK.SK}{vs:List V}{us:List Value},Dens X.K μ H vs ds->Vals vs us->YC τ ds=some ks->NK.Al ((NK.tagV X.prog X.w τ).is s.heap) ks us/\∀u∈us,∃a k,u=.ref a/\(NK.tagV X.prog X.w τ).is s.heap k u/\Den X.K μ H (.ref a) (kD k)
 |[],_,_,_,.nil,.nil,h=>by cases h;exact⟨.nil,λu hu=>by cases hu⟩
 |d::r,ks,_,_,.cons q qs,.cons rv rvs,h=>by
  unfold YC at h;cases h1:skOf τ d with
  |none=>rw[h1]at h;cases h|some k=>
   cases h2:YC τ r with
   |none=>rw[h1,h2]at h;cases h|some ls=>
    rw[h1,h2]at h;cases h;obtain⟨q1,q2⟩:=Qfh I qs rvs h2;have ht:=Yu I q rv h1;refine⟨.cons ht q1,λu hu=>?_⟩;rcases UG.mp hu with rfl|hu
    ·obtain⟨a,e⟩:=QaR q h1;subst e;cases rv;exact⟨a,k,rfl,ht,by rw[<-Qfg h1];exact q⟩
    ·exact q2 u hu
theorem Qet(hu:X.A.units+16<cLine):CallR X (.builtin "sorted") (λvs H Q=>∃(p:Addr)(ys:List V)(ds:List D)(g:G)(μ:List Addr)(τ:Bool)(ks:List NK.SK),vs=[.ref p]/\H p=some (.lst ys)/\GRep X.K ca μ H g/\Dens X.K μ H ys ds/\YC τ ds=some ks/\ks.length<1000/\ks.Nodup/\ks.all okK=true/\∀l ws,H l=none->Dens X.K μ H ws ((sortK ks).map kD)->Q (.ref l) (upd H l (.lst ws))):=by
 intro pins s σ H vs us Q I rv h;obtain⟨p,ys,ds,g,μ,τ,ks,rfl,hH,r,qs,hk,h64,hnd,hok,hQ⟩:=h;obtain⟨u,rfl,ru⟩:=rv.one;cases ru;obtain⟨its,rvs,pl,hz⟩:=I.list (.of hH);obtain⟨al,hb⟩:=Qfh I qs rvs hk;have hlen:its.length<=sizeLine:=by rw[<-al.len];have:=TU;omega
 refine QbX (us:=its) I hu al hnd hok h64 hb (λ{R} hR=>?_) hQ;exact collect_list pl.isList (hR _ _ λb o e=>(Heap.get?_update_ne _ _ _ _ (UR (Uw e))).trans (Uc _ e)) hlen
end
section
variable{X:Cx}{ca:Nat->Addr}{e:Expr}{me:ME}{p pos:Pos}{k:Nat}
theorem QiU(hr:Room k X.A)(hc:X.calm=true)(hm:X.mg "sorted"=none)(he:PE3 ca X e me)(hg:Gl X "sorted":=by rfl)(hs:starEach [e] X.env=[(false,eval e X.env)]:=by rfl)(hpl:(backTo pos (starEach [] X.env)).any (·.1)=false:=by rfl):
  PE3 ca X (.Call (.Name "sorted" p) [e] [] pos) (mOp1 Qbv me):=
 Qir (r:=λvs H Q=>∃x,vs=[x]/\rD X.K ca x H λ_ μ _ ks=>(ks.map (·.1)).length<1000/\(ks.map (·.1)).Nodup/\(ks.map (·.1)).all okK=true/\∀l ws,H l=none->Dens X.K μ H ws ((sortK (ks.map (·.1))).map kD)->Q (.ref l) (upd H l (.lst ws))) (λpn Φ=>Qes (X:=xat X ca pn Φ) hc (by have:=hr.units;show X.A.units+16<cLine;omega)) hm boot_sorted (λΦ σ H μ g y d Q r q pp=>by
  obtain⟨g',μ',n,t,τ,ks,r',a1,a2,a3,a4,e1,e2,p'⟩:=QmN (F:=λks=>srtK (ks.map (·.1)) g) r q pp;subst e1 e2;unfold srtK at p';by_cases z:(ks.map (·.1)).length<1000/\(ks.map (·.1)).Nodup/\(ks.map (·.1)).all okK=true
  ·rw[Ue z]at p';exact⟨y,rfl,g',μ',n,t,τ,ks,r',a1,a2,a3,a4,z.1,z.2.1,z.2.2,λl ws hl hw=>p' _ _ (μ'++[l]) (Qx hl) (r'.push hl ⟨_,Qk,hw.mono (Qx hl)⟩) (.ref (by rw[<-r'.len];simp))⟩
  ·rw[Uf z]at p';exact p'.elim) he hg (by decide) (by decide) hs hpl
end
end L3
namespace L3
open PySem PySem.Spec PyProof.Rows L2
section
variable{X:Cx}{ca:Nat->Addr}{e:Expr}{me:ME}{p pos:Pos}{k:Nat}
theorem Qaw(hr:Room k X.A)(hm:X.mg "sorted"=none)(he:PE3 ca X e me)(hg:Gl X "sorted":=by rfl)(hs:starEach [e] X.env=[(false,eval e X.env)]:=by rfl)(hpl:(backTo pos (starEach [] X.env)).any (·.1)=false:=by rfl):
  PE3 ca X (.Call (.Name "sorted" p) [e] [] pos) (mOp1 Q5 me):=
 Qir (r:=λvs H Q=>∃(p:Addr)(ys:List V)(ds:List D)(g:G)(μ:List Addr)(τ:Bool)(ks:List NK.SK),vs=[.ref p]/\H p=some (.lst ys)/\GRep X.K ca μ H g/\Dens X.K μ H ys ds/\YC τ ds=some ks/\ks.length<1000/\ks.Nodup/\ks.all okK=true/\∀l ws,H l=none->Dens X.K μ H ws ((sortK ks).map kD)->Q (.ref l) (upd H l (.lst ws))) (λpn Φ=>Qet (X:=xat X ca pn Φ) (by have:=hr.units;show X.A.units+16<cLine;omega)) hm boot_sorted (λΦ σ H μ g y d Q r q pp=>by
  unfold Q5 at pp;cases q with
  |@ref n t hn=>
   dsimp only at pp;cases hgn:g[n]? with
   |none=>rw[hgn]at pp;exact pp.elim|some ob=>
    rw[hgn]at pp;obtain⟨t',ht',orp⟩:=r.addr hgn;rw[hn]at ht';cases ht';cases ob with
    |lst ds=>
     obtain⟨ys,hH,qs⟩:=orp;dsimp only at pp;have fin:∀(τ:Bool)(ks:List NK.SK),YC τ ds=some ks->Post X.K ca Φ σ Q H μ (srtK ks g)->∃(p:Addr)(ys:List V)(ds:List D)(g:G)(μ:List Addr)(τ:Bool)(ks:List NK.SK),[V.ref t]=[.ref p]/\H p=some (.lst ys)/\GRep X.K ca μ H g/\Dens X.K μ H ys ds/\YC τ ds=some ks/\ks.length<1000/\ks.Nodup/\ks.all okK=true/\∀l ws,H l=none->Dens X.K μ H ws ((sortK ks).map kD)->Q (.ref l) (upd H l (.lst ws)):=λτ ks hk p'=>by
      unfold srtK at p';by_cases z:ks.length<1000/\ks.Nodup/\ks.all okK=true
      ·rw[Ue z]at p';exact⟨t,ys,ds,g,μ,τ,ks,rfl,hH,r,qs,hk,z.1,z.2.1,z.2.2,λl ws hl hw=>p' _ _ (μ++[l]) (Qx hl) (r.push hl ⟨_,Qk,hw.mono (Qx hl)⟩) (.ref (by rw[<-r.len];simp))⟩
      ·rw[Uf z]at p';exact p'.elim
     cases h0:YC false ds with
     |some ks=>rw[h0]at pp;exact fin false ks h0 pp|none=>
      rw[h0]at pp;dsimp only at pp;cases h1:YC true ds with
      |some ks=>rw[h1]at pp;exact fin true ks h1 pp|none=>rw[h1]at pp;exact pp.elim
    |_=>exact pp.elim
  |_=>exact pp.elim) he hg (by decide) (by decide) hs hpl
end
end L3
namespace NK
open PySem PyProof.Rows
theorem Qbj:fillsNumberSlot (.type "tuple") "mul"=pure false:=PySem.fillsNumberSlot_seq (id:="tuple.__mul__") (r:=some (.builtin "tuple.__rmul__")) BM.lookup (by decide +kernel) F.slot_tuple_rmul.lookup (by decide +kernel)
theorem Qeu:seqRepeat? (.type "tuple")=pure (some (.builtin "tuple.__mul__")):=by unfold seqRepeat?;rw[PySem.seqSlot_of (T:="tuple") (name:="__mul__") (id:="tuple.__mul__") BM.lookup (by decide +kernel),PySem.seqSlot_of (T:="tuple") (name:="__rmul__") (id:="tuple.__rmul__") F.slot_tuple_rmul.lookup (by decide +kernel)];rfl
theorem Qg4(a:Int)(t:Tok)(l:Addr)(cls:Value)(dd:Option Addr)(items:Array Value)(n:Nat)(sl:Array (Option Value))(hc:cls=.type "tuple"):
  Meets (Builtin.«int.__rmul__» ⟨[.int a t,.ref l],[]⟩) (λ_ R s=>s.heap.get? l=some {cls:=cls,dict:=dd,data:=.seq items n,slots:=sl}/\R (.ok (.ret Value.notImplemented)) s):=
 .of_wp λprog w A R s h=>by subst hc;obtain⟨hp,g,d,tk,os⟩:=s;obtain⟨hl,h⟩:=h;wp_walk;exact⟨_,rfl,h⟩
section
variable{prog:Program}{w:World}{A:Around}{E:VP}{s:Shared}
theorem Qev(xs:Array Value):∀(m:Nat)(acc:Array Value),((List.replicate m xs).foldl (· ++ ·) acc).size=acc.size+m*xs.size
 |0,acc=>by simp
 |m+1,acc=>by rw[Rq,B5,Qev xs m,WE,Nat.add_mul];omega
theorem Qku{a:Addr}{us:List Value}{n:Int}{t:Tok}{Q:VP}(ht:Tp s.heap a us)(hne:us≠[])(h1:1<=n)(hz:(us.length:Int)*n<=100000)(hq1:n=1->Q (.ref a) s)(hq2:n≠1->Q (.ref s.heap.objs.size) {s with heap:=s.heap.push {cls:=.type "tuple",data:=.seq ((List.replicate n.toNat us.toArray).foldl (· ++ ·) #[])} }):wpAny (model prog w) A (call (.builtin "tuple.__mul__") [.ref a,.int n t]) Q E s:=by
 have hT:=ht.typeIs;obtain⟨o,items,k,ho,hc,hd,rfl⟩:=ht;refine UQ BM hT F.entry_tuple_mul ?_ (F.args_tuple_mul_2 _ _);have hpos:0<items.size:=by
  rcases Nat.eq_zero_or_pos items.size with z|z
  ·exact absurd (by simpa using z) hne
  ·exact z
 have hle:n<=100000:=by rw[Ur]at hz;have:(1:Int)*n<=(items.size:Int)*n:=Int.mul_le_mul_of_nonneg_right (by omega) (by omega);omega
 have hemp:items.isEmpty=false:=by
  cases h:items.isEmpty with
  |false=>rfl|true=>exact absurd hpos (by rw[Array.isEmpty_iff.mp h];decide)
 show wpAny _ _ (asIndex (.int n t) >>= _) _ _ s;refine Ua (m:=asIndex (.int n t)) (W2 (a:=n) rfl ?_);dsimp only;rw[Uf (by simp only[Bool.or_eq_true,We];omega)];refine Ua (Rz ho hd ?_);rw[hemp];by_cases e:n=1
 ·subst e;rw[Ue (by rfl)];unfold Builtin.Tuple.tupleIsExact;refine Ua (Ua (WI hT (Ub ?_)));rw[Ue (by rfl)];exact Ua (TD (Ub ⟨_,rfl,hq1 rfl⟩))
 ·rw[Uf (by simpa using e),Uf (by simp only[Uay,We];omega)];rw[Ur]at hz;rw[Uf (by show ¬((items.size:Int)*n>(2^63-1) / 8);omega)];have hm:Builtin.Tuple.tupleTooMany ((items.size:Int)*n)=false:=by unfold Builtin.Tuple.tupleTooMany;have:=TU;rw[UC (by omega)]
  rw[Uf (by rw[hm];exact Ui)];unfold Builtin.Tuple.tupleExact;refine Ua (UX (Ub ⟨_,rfl,hq2 e⟩) (hd:=by
   have hs:=Qev items n.toNat #[];have h0:((n.toNat*items.size:Nat):Int)=(items.size:Int)*n:=by rw[Int.natCast_mul,Ws (by omega),Int.mul_comm]
   have:=TU;have h3:n.toNat*items.size<=100000:=by omega
   simp only[sizeOk,hs];simp;omega))
theorem mul_tup{a:Addr}{us:List Value}{n:Int}{t:Tok}{Q:VP}(ht:Tp s.heap a us)(hne:us≠[])(h1:1<=n)(hz:(us.length:Int)*n<=100000)(hq1:n=1->Q (.ref a) s)(hq2:n≠1->Q (.ref s.heap.objs.size) {s with heap:=s.heap.push {cls:=.type "tuple",data:=.seq ((List.replicate n.toNat us.toArray).foldl (· ++ ·) #[])} }):wpAny (model prog w) A (binaryOp .Mult (.ref a) (.int n t)) Q E s:=by
 have hT:=ht.typeIs;obtain⟨⟨cls,dd,data,sl⟩,items,k,ho,hc,hd,e⟩:=id ht;simp only at hc hd;subst hd;refine wpAny_binaryOp_repeat_ref (T:="tuple") (U:="int") (by decide) hT (λs'=>typeIs_int s' n t) Qbj F.fills_int_mul F.slot_int_rmul Qeu F.slot_int_index.lookup
  (B0 F.slot_int_rmul (typeIs_int s n t) F.entry_int_rmul (F.args_int_rmul_2 _ _) (Qg4 n t a cls dd items k sl hc) ⟨ho,rfl,hT,Qku ht hne h1 hz hq1 hq2⟩)
end
end NK
namespace L3
open PySem
def QiV(x y:D)(g:G):Res D:=match x,y with
 |.tup [d],.int n=>if 1<=n/\n<=1000 then .ok (.tup (List.replicate n.toNat d)) g else .stuck
 |_,_=>.stuck
end L3
namespace L3
open PySem PySem.Spec PyProof.Rows L2
theorem Qgj(u:Value):∀(m:Nat)(acc:List Value),((List.replicate m #[u]).foldl (· ++ ·) acc.toArray)=(acc++List.replicate m u).toArray
 |0,acc=>by simp
 |m+1,acc=>by rw[Rq,B5,show acc.toArray ++ #[u]=(acc++[u]).toArray by simp,Qgj u m,Rq];simp
theorem Qgk(h:RelV v u):∀m,Vals (List.replicate m v) (List.replicate m u)
 |0=>.nil|m+1=>.cons h (Qgk h m)
theorem Qgl{K:Frag}{μ:List Addr}{H:Hp}{v:V}{d:D}(h:Den K μ H v d):∀m,Dens K μ H (List.replicate m v) (List.replicate m d)
 |0=>.nil|m+1=>.cons h (Qgl h m)
def QoS(K:Frag):R2:=λx y H Q=>∃a v n,x=.ref a/\y=.int n/\SqT K H a [v]/\1<=n/\n<=1000/\(n=1->Q (.ref a) H)/\(n≠1->∀l,H l=none->Q (.ref l) (upd H l (.tup (List.replicate n.toNat v))))
section
variable{X:Cx}
theorem QmP:OpR X (binaryOp .Mult) (QoS X.K):=by intro pins s σ H x y v u Q I rx ry h;obtain⟨a,w,n,rfl,rfl,ha,h1,h2,q1,q2⟩:=h;cases rx;obtain⟨t,rfl⟩:=ry;obtain⟨its,r1,tp⟩:=QmL I ha;obtain⟨u,rfl,ru⟩:=r1.one;refine NK.mul_tup tp (by simp) h1 (by simp;omega) (λe=>⟨.ref a,H,I,rfl,q1 e⟩) λe=>?_;have ef:=Qgj u n.toNat [];rw[Wu]at ef;have ef:(List.replicate n.toNat [u].toArray).foldl (· ++ ·) #[]=(List.replicate n.toNat u).toArray:=ef;rw[ef];refine⟨.ref s.heap.objs.size,_,I.laid (t':=s.toks) (o:=.tup (List.replicate n.toNat w)) (λb ob q=>Uc _ q) (Ug _) ?_,rfl,q2 e _ (I.hok.fresh (Ug _))⟩;exact⟨by rw[Ta];have:=TU;omega,_,Qgk ru _,IsTup.new _ _⟩
end
section
variable{X:Cx}{ca:Nat->Addr}{a b:Expr}{ma mb:ME}{pos:Pos}
theorem Qlv(ha:PE3 ca X a ma)(hb:PE3 ca X b mb):PE3 ca X (.BinOp a .Mult b pos) (mOp2 QiV ma mb):=
 QgU (r:=QoS X.K) (λpn Φ=>QmP (X:=xat X ca pn Φ)) (λΦ σ H μ g x y dx dy Q r qx qy p=>by
  unfold QiV at p;cases qx with
  |@tup ax xs dsx hx hsx=>
   cases qy with
   |int n=>
    cases hsx with
    |nil=>exact p.elim|cons q1 qs=>
     cases qs with
     |nil=>
      dsimp only at p;by_cases z:1<=n/\n<=1000
      ·rw[Ue z]at p;refine⟨ax,_,n,rfl,rfl,hx,z.1,z.2,λe=>?_,λ_ l hl=>p _ _ μ (QM hl) (r.new hl) (.tup (.of Qk) ((Qgl q1 _).mono (QM hl)))⟩;subst e;exact p _ H μ .refl r (.tup hx (.cons q1 .nil))
      ·rw[Uf z]at p;exact p.elim
     |cons _ _=>exact p.elim
   |_=>cases hsx with
    |nil=>exact p.elim|cons _ qs=>cases qs<;>exact p.elim
  |_=>exact p.elim) ha hb
end
end L3
namespace L3
open PySem
def Qs(x y:D)(g:G):Res D:=match x,y with
 |.ref n,.str z=>(match g[n]? with
  |some (.dct ks)=>(match dGet ks (.inr z) with
   |some v=>.ok v g|none=>.stuck)
  |_=>.stuck)
 |_,_=>.stuck
end L3
namespace L3
open PySem PySem.Spec PyProof.Rows L2
section
variable{X:Cx}{ca:Nat->Addr}{a b:Expr}{ma mb:ME}{pos:Pos}
theorem QiW{K:Frag}:YR K ca (λx y H Q=>∃a kvs k v,x=.ref a/\y=kV k/\H a=some (.dK kvs)/\valV kvs k=some v/\Q v H) Qs:=by
 intro Φ σ H μ g x y dx dy Q r qx qy p;unfold Qs at p;cases qx with
 |@ref n t hn=>
  cases qy with
  |str i=>
   dsimp only at p;cases hg:g[n]? with
   |none=>rw[hg]at p;exact p.elim|some ob=>
    rw[hg]at p;obtain⟨t',ht',orp⟩:=r.addr hg;rw[hn]at ht';cases ht';cases ob with
    |dct ks=>
     obtain⟨kv,hH,q⟩:=orp;dsimp only at p;rcases q.get (.inr i) with⟨a,b⟩|⟨v,d,a,b,c⟩
     ·rw[b]at p;exact p.elim
     ·rw[b]at p;exact⟨t,kv,.inr i,v,rfl,rfl,hH,a,p v H μ .refl r c⟩
    |_=>exact p.elim
  |_=>exact p.elim
 |_=>cases qy<;>exact p.elim
theorem Zd(ha:PE3 ca X a ma)(hb:PE3 ca X b mb)(hs:Qc6 b:=by exact λ_ _=>rfl):PE3 ca X (.Subscript a b pos) (mOp2 Qs ma mb):=r_ix (λ_ _=>Qkr) QiW ha hb hs
end
end L3
namespace L3
open PySem
def QiX(f:SKd×D->D)(x:D)(g1:G):Res Src:=match x with
 |.ref n=>(match g1[n]? with
  |some (.dcn τ ks)=>.ok ⟨λ_ i=>some (ks.map f)[i]?,ks.length⟩ (g1.set n (.dcf τ ks))|_=>.stuck)
 |_=>.stuck
def Qg5(f:SKd×D->D)(e:ME):MI:=λσ g=>(e σ g).bind (QiX f)
def mItN:=Qg5 λp=>kD p.1
def mItV:=Qg5 λp=>p.2
def QcL(i:Nat)(n:Nat)(cap:List Nat)(t:MG)(c:MT)(e:ME):ME:=λσ g=>match mVar i σ g with
 |.ok (.ref r) _=>(match J8 (mItN (mVar i)) n cap t c e σ g with
  |.ok d g'=>(match g[r]?,g'[r]? with
   |some (.dcn _ _),some (.dcf τ ks)=>.ok d (g'.set r (.dcn τ ks))|_,_=>.stuck)
  |_=>.stuck)
 |_=>.stuck
end L3
namespace L3
open PySem PySem.Spec PyProof.Rows L2
section
variable{X:Cx}{ca:Nat->Addr}
def Itn(a:Addr)(o:Obj)(xs:List (NK.SK×Addr×Value))(ws:List V):It:=⟨λi H=>H a=some (.frz o (ND a xs))/\i<xs.length,λi H x H'=>H'=H/\ws[i]?=some x,λi H=>H a=some (.frz o (ND a xs))/\xs.length<=i⟩
theorem QiY:∀{ws:List V}{us:List Value},Vals ws us->∀{i:Nat}{u:Value},us[i]?=some u->∃x,ws[i]?=some x/\RelV x u
 |_,_,.nil,i,u,h=>by cases h
 |_,_,.cons a r,0,u,h=>by cases h;exact⟨_,rfl,a⟩
 |_,_,.cons a r,i+1,u,h=>QiY r h
theorem QiZ(I:Inv X pins σ H s)(e:H a=some (.frz o (ND a xs)))(hoe:o.data=.dict es ep):NK.DE s.heap a es ep/\es.toList=NK.ents xs:=by obtain⟨ho,⟨o',es',ep',ho',hc,hd,he⟩,_⟩:=(show ObjOk X.prog X.w H s.heap a (.frz o (.ext (NK.DObj a xs))) from I.hok a _ e);rw[ho]at ho';cases ho';rw[hoe]at hd;cases hd;exact⟨⟨o,ho,hc,hoe⟩,he⟩
theorem QmQ{es:Array DictEntry}{xs:List (NK.SK×Addr×Value)}(h:es.toList=NK.ents xs){i:Nat}(hi:i<es.size)(hx:i<xs.length):es[i].key=.ref xs[i].2.1/\es[i].val=xs[i].2.2:=by
 have e1:es.toList[i]?=some es[i]:=by simp[hi]
 rw[h]at e1;unfold NK.ents at e1;rw[UJ,U1 hx]at e1;injection e1 with e1;rw[<-e1];exact⟨rfl,rfl⟩
theorem Qlw(b:Bool){P:Program}{w:World}{K:Frag}{tg:Expr}(a it:Addr){o:Obj}{es:Array DictEntry}{ep:Nat}{xs:List (NK.SK×Addr×Value)}{ws:List V}(hoe:o.data=.dict es ep)(hv:Vals ws (xs.map λx=>if b=true then x.2.2 else .ref x.2.1)):Turn P w K tg (Itn a o xs ws) [it] it (λi h=>NK.itIs b h it a i es.size ep) where
 mem:=by simp
 obj:=λi h st b' hb=>by
  have e:b'=it:=by simpa using hb
  subst e;cases b;all_goals
   obtain⟨o,e,c,d⟩:=id st;exact⟨o,e,λv z=>by rw[d]at z;cases z⟩
 keep:=λi h h' st k=>by
  cases b;all_goals
   obtain⟨o,e,c⟩:=id st;exact⟨o,k it (by simp) o e,c⟩
 item:=by
  intro X hP hw hK hc i pins s σ H E I hf st hg;subst hP hw hK;obtain⟨e,hi⟩:=hg;obtain⟨de,he⟩:=QiZ I e hoe;obtain⟨f0,f1,f2,f3,f4,f5⟩:=hf it (by simp);have hsz:=JK he;have hi':i<es.size:=by omega
  refine NK.next_item b st de hi' λh' st' sb=>?_;have I1:Inv X pins σ H {s with heap:=h'}:=I.turned (t':=s.toks) (λb o hb e=>(sb.2 b hb).trans e) f0 f1 f3 f4 f5;obtain⟨v,hw,rv⟩:=QiY hv (i:=i) (u:=if b=true then xs[i].2.2 else .ref xs[i].2.1) (by simp[hi]);obtain⟨k1,k2⟩:=QmQ he hi' hi;rw[k1,k2];refine⟨_,rfl,?_⟩;have fin:∃x H',Inv X pins σ H' {s with heap:=h'}/\RelV x (if b=true then xs[i].2.2 else .ref xs[i].2.1)/\(Itn a o xs ws).yld i H x H'/\NK.itIs b h' it a (i+1) es.size ep/\∀b∈[it],H' b=none:=⟨v,H,I1,rv,⟨rfl,hw⟩,st',λb hb=>(hf b hb).1⟩;cases b;all_goals
   obtain⟨ob,e',c,d⟩:=id st';exact QjV (s:={s with heap:=h'}) e' c d (by decide) fin
 done:=by intro X hP hw hK hc i pins s σ H E I hf st hg;subst hP hw hK;obtain⟨e,hi⟩:=hg;obtain⟨de,he⟩:=QiZ I e hoe;obtain⟨f0,f1,f2,f3,f4,f5⟩:=hf it (by simp);have hsz:=JK he;exact NK.next_end b (I.ok.hd hc) st de (by omega) λh' eb=>⟨rfl,I.turned (t':=s.toks) (λb o hb e=>eb b o hb e) f0 f1 f3 f4 f5⟩
 self:=λ_ _ _ _ _ st h=>by
  cases b
  ·exact wpAny_pyIter_keyiter st h
  ·exact wpAny_pyIter_valiter st h
theorem Qi0(I:Inv X pins σ H s)(e:H a=some (ND a xs))(ho:s.heap.get? a=some o):Inv X pins σ (upd H a (.frz o (ND a xs))) s:=by obtain⟨x,_⟩:=(show ObjOk X.prog X.w H s.heap a (.ext (NK.DObj a xs)) from I.hok a _ e);exact I.write (x:=a) (e:=a) (h':=s.heap) (t':=s.toks) (o:=.frz o (ND a xs)) (by rw[e];trivial) (.inl rfl) (λ_ _ _ h=>h) ⟨o,ho⟩ ⟨ho,Qg1 x⟩
theorem QmR{tg l:Expr}{tl:TE}(hl:PE X l tl):PI X tg l (λσ H R=>tl σ H λx H1=>∃a xs ws,x=.ref a/\H1 a=some (ND a xs)/\(a==sysModules)=false/\Vals ws (xs.map λx=>Value.ref x.2.1)/\∀o,R (Itn a o xs ws) (upd H1 a (.frz o (ND a xs)))):=by
 intro pins s σ H R I h;refine thn (hl pins s σ H _ I h) λv s1 ⟨x,H1,I1,r1,q1⟩=>?_;obtain⟨a,xs,ws,rfl,e,hs,hv,q⟩:=q1;cases r1;obtain⟨es,ep,de,he⟩:=QiO I1 e;obtain⟨o,ho,hc,hd⟩:=id de;have I2:=Qi0 I1 e ho;refine NK.iterK hs de ?_;refine⟨s1.heap.objs.size,[s1.heap.objs.size],_,_,_,rfl,I2.kept (t':=s1.toks) λb o e=>Uc _ e,Qlw false a _ hd hv,⟨_,Uy _ rfl,rfl,rfl⟩,λb hb=>?_,q o⟩;have e:b=s1.heap.objs.size:=by simpa using hb
 subst e;exact I2.fpOk (Ug _) (I2.hok.fresh (Ug _))
theorem QmS{tg l:Expr}{tl:TE}{apos cpos:Pos}(hl:PE X l tl)(hbase:attributeBase l "values" X.env (eval l X.env)=eval l X.env)(hline:(apos.endLine==cpos.line)=true):
  PI X tg (.Call (.Attribute l "values" apos) [] [] cpos) (λσ H R=>tl σ H λx H1=>∃a xs ws,x=.ref a/\H1 a=some (ND a xs)/\(a==sysModules)=false/\Vals ws (xs.map λx=>x.2.2)/\∀o,R (Itn a o xs ws) (upd H1 a (.frz o (ND a xs)))):=by
 intro pins s σ H R I h;refine wpAny_Call_method0_late hbase hline (thn (hl pins s σ H _ I h) λv s1 ⟨x,H1,I1,r1,q1⟩=>?_);obtain⟨a,xs,ws,rfl,e,hs,hv,q⟩:=q1;cases r1;obtain⟨es,ep,de,he⟩:=QiO I1 e;obtain⟨o,ho,hc,hd⟩:=id de;have I2:=Qi0 I1 e ho;refine⟨"dict","dict.values",BI,BC,rfl,⟨o,ho,hc.1⟩,λa e=>by cases e;exact⟨o,ho,hc.2.1⟩,?_⟩;refine RS rfl (PySem.evalArgs_none ?_);refine Bg BC de.typeIs PySem.F.entry_dict_values (PySem.F.args_dict_values_1 _) (NK.valuesK hs) ⟨⟨es,ep,de⟩,?_⟩;have kp:∀b ob,s1.heap.get? b=some ob->(s1.heap.push {cls:=.type "dict_values",data:=.fields #[.ref a]}).get? b=some ob:=λb ob e=>Uc _ e;refine NK.iterV (s:={s1 with heap:=s1.heap.push {cls:=.type "dict_values",data:=.fields #[.ref a]} }) ⟨_,Uy _ rfl,rfl,rfl⟩ (de.at' λo e=>kp _ _ e) ?_;have I3:Inv X pins σ (upd H1 a (.frz o (ND a xs))) {s1 with heap:=s1.heap.push {cls:=.type "dict_values",data:=.fields #[.ref a]} }:=I2.kept (t':=s1.toks) kp;refine⟨_,[_],_,_,_,rfl,I3.kept (t':=s1.toks) λb o e=>Uc _ e,Qlw true a _ hd hv,⟨_,Uy _ rfl,rfl,rfl⟩,λb hb=>?_,q o⟩;have e:b=(s1.heap.push {cls:=.type "dict_values",data:=.fields #[.ref a]}).objs.size:=by simpa using hb
 subst e;exact I3.fpOk (Ug _) (I3.hok.fresh (Ug _))
end
section
variable{X:Cx}{ca:Nat->Addr}{e tg:Expr}{me:ME}{p pos:Pos}
theorem Qi1{K:Frag}{μ:List Addr}{H:Hp}:∀{ws:List V}{ds:List D},Dens K μ H ws ds->∀{i:Nat}{x:V},ws[i]?=some x->∃d,ds[i]?=some d/\Den K μ H x d
 |_,_,.nil,i,u,h=>by cases h
 |_,_,.cons a r,0,u,h=>by cases h;exact⟨_,rfl,a⟩
 |_,_,.cons a r,i+1,u,h=>Qi1 r h
theorem QpR{K:Frag}{μ:List Addr}{H:Hp}{a:Addr}{o:Obj}{xs:List (NK.SK×Addr×Value)}{ws:List V}{ds:List D}{n:Nat}(h:H a=some (.frz o (ND a xs)))(hl:xs.length=ds.length)(dn:Dens K μ H ws ds):Sim K ca μ H ⟨λ_ i=>some ds[i]?,n⟩ (Itn a o xs ws):=by
 intro i H1 μ1 g1 e r;dsimp only;have h1:=e.frz _ _ _ h;by_cases hi:i<ds.length
 ·rw[U1 hi];exact⟨⟨h1,by omega⟩,λx H' y=>by obtain⟨rfl,y1⟩:=y;obtain⟨d,z1,z2⟩:=Qi1 dn y1;rw[U1 hi]at z1;cases z1;exact⟨.refl,r,z2.mono e⟩⟩
 ·rw[RE (Wl hi)];exact⟨h1,by omega⟩
theorem QpS{K:Frag}{τ:Bool}{μ:List Addr}{H:Hp}{xs:List (NK.SK×Addr×Value)}{ks:List (NK.SK×D)}(h:NRel K τ μ H xs ks):∃ws,Vals ws (xs.map λx=>x.2.2)/\Dens K μ H ws (ks.map λp=>p.2):=by
 unfold NRel at h;induction h with
 |nil=>exact⟨[],.nil,.nil⟩|cons a _ ih =>obtain⟨_,_,v,h1,h2⟩:=a;obtain⟨ws,h3,h4⟩:=ih;exact⟨v::ws,.cons h1 h3,.cons h2 h4⟩
theorem Qgm:∀xs:List (NK.SK×Addr×Value),Vals (xs.map λx=>V.ref x.2.1) (xs.map λx=>Value.ref x.2.1)
 |[]=>.nil|_::r=>.cons rfl (Qgm r)
def QpT(K:Frag)(ca:Nat->Addr)(Φ:XS)(σ:L2.St)(R:It->Hp->Prop)(H:Hp)(μ:List Addr):Res Src->Prop
 |.ok src g'=>∀J H' μ',Ext K μ H μ' H'->GRep K ca μ' H' g'->Sim K ca μ' H' src J->R J H'|.raise x g'=>RaP K ca Φ σ H μ x g'|.stuck=>False
theorem Qlx{K:Frag}{f:NK.SK×D->D}{u:NK.SK×Addr×Value->Value}{R:It->Hp->Prop}{Φ:XS}{σ:L2.St}{H H1:Hp}{μ μ1:List Addr}{g1:G}{v:V}{d:D}(e1:Ext K μ H μ1 H1)(r1:GRep K ca μ1 H1 g1)(q1:Den K μ1 H1 v d)(hS:∀τ μ H xs ks,NRel K τ μ H xs ks->∃ws,Vals ws (xs.map u)/\Dens K μ H ws (ks.map f))(p:QpT K ca Φ σ R H μ (QiX f d g1)):∃a xs ws,v=.ref a/\H1 a=some (ND a xs)/\(a==sysModules)=false/\Vals ws (xs.map u)/\∀o,R (Itn a o xs ws) (upd H1 a (.frz o (ND a xs))):=by
 unfold QiX at p;cases q1 with
 |@ref n a hn=>
  dsimp only at p;cases hg:g1[n]? with
  |none=>rw[hg]at p;exact p.elim|some ob=>
   rw[hg]at p;obtain⟨a',ha',orp⟩:=r1.addr hg;rw[hn]at ha';cases ha';cases ob with
   |dcn τ ks =>obtain⟨xs,hH,nr,nd,hs⟩:=orp;have ex:∀o,Ext K μ1 H1 μ1 (upd H1 a (.frz o (ND a xs))):=λo=>ZP hH (λ_ z=>by unfold ND at z;cases z) (λ_ _ z=>by unfold ND at z;cases z);obtain⟨ws,hv,dn⟩:=hS _ _ _ _ _ nr;exact⟨a,xs,ws,rfl,hH,hs,hv,λo=>p _ _ μ1 (e1.trans (ex o)) (r1.set hn hH (λ_ z=>by unfold ND at z;cases z) (λ_ _ z=>by unfold ND at z;cases z) ⟨o,xs,Qk,nr.mono (ex o),nd,hs⟩) (QpR Qk ((Paired.length nr).trans (Ud ..).symm) (dn.mono (ex o)))⟩
   |_=>exact p.elim
 |_=>exact p.elim
theorem QoT(he:PE3 ca X e me):PI3 ca X tg e (mItN me):=
 λpn Φ=>QbO (QmR (X:=xat X ca pn Φ) (he pn Φ)) λσ H R hQ=>by
  obtain⟨σ3,g,μ,Rp,p⟩:=hQ;unfold mItN Qg5 at p;refine⟨σ3,g,μ,Rp,?_⟩;cases hm:me σ3 g with
  |raise _ _=>rw[hm]at p;exact p|stuck=>rw[hm]at p;exact p.elim|ok d g1 =>rw[hm,Res.bind_ok]at p;intro v H1 μ1 e1 r1 q1;exact Qlx (Φ:=Φ) (σ:=σ) e1 r1 q1 (λτ μ H xs ks nr=>⟨_,Qgm xs,QiQ nr⟩) p
theorem QpU(he:PE3 ca X e me)(hbase:attributeBase e "values" X.env (eval e X.env)=eval e X.env:=by rfl)(hline:(apos.endLine==cpos.line)=true:=by rfl):PI3 ca X tg (.Call (.Attribute e "values" apos) [] [] cpos) (mItV me):=
 λpn Φ=>QbO (QmS (X:=xat X ca pn Φ) (he pn Φ) hbase hline) λσ H R hQ=>by
  obtain⟨σ3,g,μ,Rp,p⟩:=hQ;unfold mItV Qg5 at p;refine⟨σ3,g,μ,Rp,?_⟩;cases hm:me σ3 g with
  |raise _ _=>rw[hm]at p;exact p|stuck=>rw[hm]at p;exact p.elim|ok d g1 =>rw[hm,Res.bind_ok]at p;intro v H1 μ1 e1 r1 q1;exact Qlx (Φ:=Φ) (σ:=σ) e1 r1 q1 (λτ μ H xs ks nr=>QpS nr) p
end
end L3
namespace L3
open PySem PySem.Spec PyProof.Rows L2
theorem QpV(I:Inv X pins σ H s)(e:H t=some (.frz o (ND t kv)))(hn:∀o u,X.H₀ t≠some (.frz o u)):Inv X pins σ (upd H t (ND t kv)) s:=by
 obtain⟨ho,hk⟩:=(show ObjOk X.prog X.w H s.heap t (.frz o (ND t kv)) from I.hok t _ e);have ne:∀{b:Addr},H b=none->b≠t:=λh=>(Qy e h).symm;have hu:∀{b:Addr},b≠t->upd H t (ND t kv) b=H b:=λh=>Qo h;refine⟨I.ok,I.os,I.bare,⟨I.base.keep,I.base.slot,λb ob h1 h2 h3=>?_,I.base.there,λb xs h=>?_,λb ob u h=>?_,λb ps h=>?_⟩,I.loc,I.cell,?_,λx c h=>?_,λp hp=>?_,?_,I.len⟩
 ·have:=I.base.free b ob h1 h2 h3;rw[hu (ne this)];exact this
 ·have:=I.base.tups b xs h;rw[hu (QcZ this e (λz=>by cases z))];exact this
 ·have:=I.base.frzs b ob u h;rw[hu (λz=>by subst z;exact hn _ _ h)];exact this
 ·obtain⟨more,h2⟩:=I.base.tbls b ps h;exact⟨more,by rw[hu (QcZ h2 e (λz=>by cases z))];exact h2⟩
 ·rw[hu (ne I.free)];exact I.free
 ·rw[hu (ne (I.freeC x c h))];exact I.freeC x c h
 ·obtain⟨a1,a2,a3⟩:=I.pin p hp;exact⟨a1,by rw[hu (ne a2)];exact a2,a3⟩
 ·intro b u q;by_cases hb:b=t
  ·subst hb;rw[Qk]at q;cases q;exact hk
  ·rw[hu hb]at q;exact(I.hok b u q).stay (λ_ _ _ z=>z) (λc z=>by rw[hu (QcZ z e (λz=>by cases z))];exact z) λc xs z=>by rw[hu (QcZ z e (λz=>by cases z))];exact z
section
variable{K:Frag}{ca:Nat->Addr}{μ:List Addr}{H H':Hp}
mutual
theorem Den.mv(ft:∀a xs,SqT K H a xs->SqT K H' a xs)(ff:∀a xs,SqF K H a xs->SqF K H' a xs):∀{v:V}{d:D},Den K μ H v d->Den K μ H' v d
 |_,_,.non=>.non|_,_,.bl b=>.bl b|_,_,.int i=>.int i|_,_,.str x=>.str x|_,_,.ref h=>.ref h|_,_,.tup h hs=>.tup (ft _ _ h) (Dens.mv ft ff hs)|_,_,.fl h hs=>.fl (ff _ _ h) (Dens.mv ft ff hs)
theorem Dens.mv(ft:∀a xs,SqT K H a xs->SqT K H' a xs)(ff:∀a xs,SqF K H a xs->SqF K H' a xs):∀{vs:List V}{ds:List D},Dens K μ H vs ds->Dens K μ H' vs ds
 |_,_,.nil=>.nil|_,_,.cons h hs=>.cons (Den.mv ft ff h) (Dens.mv ft ff hs)
end
theorem ORep.mv(ft:∀a xs,SqT K H a xs->SqT K H' a xs)(ff:∀a xs,SqF K H a xs->SqF K H' a xs)(ha:∀u,H a=some u->H' a=some u)(h:ORep K ca μ H a o):ORep K ca μ H' a o:=by
 cases o with
 |lst ds=>obtain⟨vs,h,q⟩:=h;exact⟨vs,ha _ h,q.mv ft ff⟩|ins c fs=>obtain⟨dx,fv,h,q⟩:=h;exact⟨dx,fv,ha _ h,Paired.imp' (λ_ _ q=>⟨q.1,q.2.mv ft ff⟩) q⟩|dct ks=>obtain⟨kv,h,q⟩:=h;exact⟨kv,ha _ h,Paired.imp' (λ_ _ q=>⟨q.1,q.2.mv ft ff⟩) q⟩|exc x=>exact ha _ h|dfz ks=>obtain⟨o,kv,h,q⟩:=h;exact⟨o,kv,ha _ h,Paired.imp' (λ_ _ q=>⟨q.1,q.2.mv ft ff⟩) q⟩|dcf t ks=>obtain⟨o,xs,h,q,r⟩:=h;exact⟨o,xs,ha _ h,Paired.imp' (λ_ _ q=>⟨q.1,let ⟨d,a,b⟩:=q.2.1;⟨d,a,b.mv ft ff⟩,let ⟨v,a,b⟩:=q.2.2;⟨v,a,b.mv ft ff⟩⟩) q,r⟩|dcn t ks=>obtain⟨xs,h,q,r⟩:=h;exact⟨xs,ha _ h,Paired.imp' (λ_ _ q=>⟨q.1,let ⟨d,a,b⟩:=q.2.1;⟨d,a,b.mv ft ff⟩,let ⟨v,a,b⟩:=q.2.2;⟨v,a,b.mv ft ff⟩⟩) q,r⟩
end
section
variable{X:Cx}{ca:Nat->Addr}{E:Expr}{i n:Nat}{cap:List Nat}{t:MG}{c:MT}{e:ME}
theorem Qi2(h:PE3 ca X E (J8 (mItN (mVar i)) n cap t c e)):PE3 ca X E (QcL i n cap t c e):=λpn Φ pins s σ H Q I hq=>by
 obtain⟨σ3,g,μ,R,q⟩:=hq;unfold QcL at q;cases hm:mVar i σ3 g with
 |raise _ _=>rw[hm]at q;exact q.elim|stuck=>rw[hm]at q;exact q.elim|ok d0 g0=>
  rw[hm]at q;cases d0 with
  |ref r=>
   dsimp only at q;cases hc:J8 (mItN (mVar i)) n cap t c e σ3 g with
   |raise _ _=>rw[hc]at q;exact q.elim|stuck=>rw[hc]at q;exact q.elim|ok d g'=>
    rw[hc]at q;dsimp only at q;cases hg:g[r]? with
    |none=>rw[hg]at q;exact q.elim|some ob=>
     cases hg':g'[r]? with
     |none=>rw[hg,hg']at q;cases ob<;>exact q.elim|some ob'=>
      rw[hg,hg']at q;cases ob with
      |dcn τ0 ks0=>
       cases ob' with
       |dcf τ ks=>
        obtain⟨a,ha,kv0,hH0,_⟩:=R.g.addr hg;unfold ND at hH0;have hne:∀o u,X.H₀ a≠some (.frz o u):=λo u z=>by have:=I.base.frzs a o u z;rw[hH0]at this;cases this
        have key:=h pn Φ pins s σ H (λv H'=>∃μ',Ext X.K μ H μ' H'/\GRep X.K ca μ' H' g'/\Den X.K μ' H' v d) I ⟨σ3,g,μ,R,by rw[hc];exact λv H' μ' ex gr dn=>⟨μ',ex,gr,dn⟩⟩;refine Tg key (λv s' hv=>?_) λ_ _ z=>z;obtain⟨x,H',I',rx,μ',ex,gr,dn⟩:=hv;obtain⟨a',ha',o,kv,hH',kr,knd,ksm⟩:=gr.addr hg';rw[ex.at ha]at ha';cases ha';have hu:∀{b:Addr},b≠a->upd H' a (ND a kv) b=H' b:=λh=>Qo h;have tups:∀b xs,SqT X.K H' b xs->SqT X.K (upd H' a (ND a kv)) b xs:=λb xs hb=>by
         rcases hb with(z|⟨u,z⟩)|z
         ·exact .inl (.inl (by rw[hu (QcZ z hH' (λz=>by cases z))];exact z))
         ·by_cases hb:b=a
          ·subst hb;rw[hH']at z;cases z
          ·exact .inl (.inr ⟨u,by rw[hu hb];exact z⟩)
         ·exact .inr z
        have fls:∀b xs,SqF X.K H' b xs->SqF X.K (upd H' a (ND a kv)) b xs:=λb xs hb=>by
         rcases hb with⟨u,z⟩|z
         ·by_cases hb:b=a
          ·subst hb;rw[hH']at z;cases z
          ·exact .inl ⟨u,by rw[hu hb];exact z⟩
         ·exact .inr z
        have exF:Ext X.K μ H μ' (upd H' a (ND a kv)):=⟨ex.pre,λb xs z=>tups b xs (ex.tup b xs z),λb xs z=>fls b xs (ex.fl b xs z),λb o u z=>by rw[hu (λy=>by subst y;rw[hH0]at z;cases z)];exact ex.frz b o u z⟩;have ar:=ex.at ha;refine⟨x,upd H' a (ND a kv),QpV I' hH' hne,rx,q x _ μ' exF ⟨by rw[UK];exact gr.len,gr.nd,λm b w h1 h2=>?_⟩ (dn.mv tups fls)⟩;by_cases em:m=r
        ·subst em;rw[ar]at h1;cases h1;rw[UP (Um.mp hg').1]at h2;cases h2;exact⟨kv,Qk,Paired.imp' (λ_ _ q=>⟨q.1,let ⟨d,a,b⟩:=q.2.1;⟨d,a,b.mv tups fls⟩,let ⟨v,a,b⟩:=q.2.2;⟨v,a,b.mv tups fls⟩⟩) kr,knd,ksm⟩
        ·rw[Uh (Ne.symm em)]at h2;have nb:b≠a:=λz=>by subst z;obtain⟨l1,q1⟩:=Um.mp h1;obtain⟨l2,q2⟩:=Um.mp ar;exact em ((BJ gr.nd).mp (q1.trans q2.symm))
         exact(gr.obj m b w h1 h2).mv tups fls λu z=>by rw[hu nb];exact z
       |_=>exact q.elim
      |_=>cases ob'<;>exact q.elim
  |_=>exact q.elim
end
end L3
namespace L3
open PySem
def QbY:List D->Option (List (Str×D))
 |[]=>some []|.str k::v::r=>(QbY r).map ((k,v) :: ·)|_=>none
def putS(ks:List (DK×D)):List (Str×D)->List (DK×D)
 |[]=>ks| (k,v)::r=>putS (dPut ks (.inr k) v) r
def Qfi(n:Nat)(ds:List D)(g':G):Res D:=match QbY ds,g'[n]? with
 |some ps,some (.dct [])=>if ps.length<=15 then .ok (.ref n) (g'.set n (.dct (putS [] ps))) else .stuck
 |_,_=>.stuck
def J0(a:MA):ME:=λσ g=>(a σ (g++[.dct []])).bind (Qfi g.length)
def Qkv(n:Nat)(ds:List D)(g':G):Res D:=match ds,g'[n]? with
 |[dk,dv],some (.dcn τ [])=>(match skOf τ dk with
  |some k=>.ok (.ref n) (g'.set n (.dcn τ [(k,dv)]))|none=>.stuck)
 |_,_=>.stuck
def Js(τ:Bool)(a:MA):ME:=λσ g=>(a σ (g++[.dcn τ []])).bind (Qkv g.length)
end L3
namespace L3
open PySem PySem.Spec PyProof.Rows L2
def QmT(ps:List (Value×Value)):List Value:=ps.flatMap λp=>[p.1,p.2]
def PP(X:Cx)(pos:Pos)(ks:List (Option Expr))(vs:List Expr)(t:TA):Prop:=∀(pins:LAO)(s:Shared)(σ:L2.St)(H:Hp)(Q:List V->Hp->Prop),Inv X pins σ H s->t σ H Q->wpAny (model X.prog X.w) X.A (evalPairs (pairTrees ks vs X.env pos)) (λps s1=>AP X pins σ Q (QmT ps) s1) X.xe s
def PP3(ca:Nat->Addr)(X:Cx)(pos:Pos)(ks:List (Option Expr))(vs:List Expr)(m:MA):Prop:=∀pn Φ,PP (xat X ca pn Φ) pos ks vs (upA X.K ca Φ m)
section
variable{X:Cx}{ca:Nat->Addr}{pos:Pos}{k v:Expr}{ks:List (Option Expr)}{vs:List Expr}{mk mv:ME}{m:MA}
theorem QmU(hk:PE X k tk)(hv:PE X v tv)(hr:PP X pos ks vs t):PP X pos (some k::ks) (v::vs) (λσ H Q=>tk σ H λx H1=>tv σ H1 λy H2=>t σ H2 λws H3=>Q (x::y::ws) H3):=by intro pins s σ H Q I h;refine evalPairs_cons (thn (hk pins s σ H _ I h) λkv s1 ⟨x,H1,I1,r1,q1⟩=>?_);refine Ua (thn (hv pins s1 σ H1 _ I1 q1) λvv s2 ⟨y,H2,I2,r2,q2⟩=>Ua (wpAny_standAt (Ub ?_)));exact thn (hr pins s2 σ H2 _ I2 q2) λps s3 ⟨ws,H3,I3,r3,q3⟩=>⟨x::y::ws,H3,I3,.cons r1 (.cons r2 r3),q3⟩
theorem QcM:PP3 ca X pos [] [] mNil:=λpn Φ pins s σ H Q I ⟨_,_,μ,R,p⟩=>Ub ⟨[],H,I,.nil,p [] H μ .refl R.g .nil⟩
theorem YL(hk:PE3 ca X k mk)(hv:PE3 ca X v mv)(hr:PP3 ca X pos ks vs m):PP3 ca X pos (some k::ks) (v::vs) (Qa mk (Qa mv m)):=λpn Φ pins s σ H Q I ⟨σ3,g,μ,R,p⟩=>QmU (X:=xat X ca pn Φ) (hk pn Φ) (hv pn Φ) (hr pn Φ) pins s σ H Q I (QN (Qmn R p) λx H1 ⟨d,g1,μ1,e1,R1,q1,p1⟩=>
  QN (Qmn R1 (k:=λy g2=>(m σ3 g2).bind λzs g3=>.ok (d::y::zs) g3) (by
   unfold Qa at p1;cases hm:mv σ3 g1 with
   |raise _ _=>rw[hm]at p1;exact p1|stuck=>rw[hm]at p1;exact p1|ok y g2=>
    rw[hm,Res.bind_ok]at p1;rw[Res.bind_ok];cases hm2:m σ3 g2 with
    |raise _ _=>rw[hm2]at p1;exact p1|stuck=>rw[hm2]at p1;exact p1|ok zs g3=>rw[hm2]at p1;exact p1)) λy H2 ⟨d2,g2,μ2,e2,R2,q2,p2⟩=>
   Yf (Qlf R2 p2) λxs H3 ⟨ds,g3,μ3,e3,R3,q3,p3⟩=>p3 (x::y::xs) H3 μ3 .refl R3.g (.cons ((q1.mono e2).mono e3) (.cons (q2.mono e3) q3)))
theorem Qi3{t:TA}{F:Addr->HO}(hF:∀(h:Heap) (H:Hp),sysModules<h.objs.size->ObjOk X.prog X.w H (h.push {cls:=.type "dict",data:=.dict #[]}) h.objs.size (F h.objs.size))(hp:PP X pos ks vs t)(hall:ks.all (·.isSome)=true)(hl:ks.length=vs.length)(h0:ks≠[])(hlen:ks.length<=15):
  PE X (.Dict ks vs pos) (λσ H Q=>∀p,H p=none->(p==sysModules)=false->t σ (upd H p (F p)) λws H1=>∀pins s ps,Inv X pins σ H1 s->Vals ws (QmT ps)->wpAny (model X.prog X.w) X.A (storeAll p ps) (λ_ s2=>EP X pins σ Q (.ref p) s2) X.xe s):=by
 intro pins s σ H Q I h;have hb:(s.heap.objs.size==sysModules)=false:=Th.mpr (Ne.symm (UR I.big));have I1:=I.laid (a:=s.heap.objs.size) (o:=F s.heap.objs.size) (t':=s.toks) (λ_ _ q=>Uc _ q) (Ug _) (hF s.heap (upd H s.heap.objs.size (F s.heap.objs.size)) I.big);refine wpAny_Dict_any hall hl h0 hlen ?_;exact thn (hp pins _ σ _ _ I1 (h _ (I.hok.fresh (Ug _)) hb)) λps s1 ⟨ws,H1,I2,rv,q⟩=>q pins s1 ps I2 rv
theorem QoU(hn:μ[n]?=some p):∀(ps:List (Value×Value))(ws:List V)(ds:List D)(prs:List (Str×D))(ks:List (Key×D))(H:Hp)(g:G)(s:Shared)(Q:PUnit->Shared->Prop),Inv X pins σ H s->GRep X.K ca μ H g->g[n]?=some (.dct ks)->Vals ws (QmT ps)->Dens X.K μ H ws ds->QbY ds=some prs->ks.length+prs.length<=1000->(∀H' s',Inv X pins σ H' s'->Ext X.K μ H μ H'->GRep X.K ca μ H' (g.set n (.dct (putS ks prs)))->Q ⟨⟩ s')->wpAny (model X.prog X.w) A (storeAll p ps) Q E s:=by
 intro ps;induction ps with
 |nil=>
  intro ws ds prs ks H g s Q I r hg rv dn hp _ hQ;cases rv;cases dn;cases hp;unfold storeAll;rw[Wj];refine Ub (hQ H s I .refl ?_);show GRep X.K ca μ H (g.set n (.dct ks));have e:g.set n (.dct ks)=g:=by
   refine BA λi=>?_;by_cases z:i=n
   ·subst z;rw[UP (Um.mp hg).1,hg]
   ·rw[Uh (Ne.symm z)]
  rw[e];exact r
 |cons x ps ih=>
  intro ws ds prs ks H g s Q I r hg rv dn hp hz hQ;cases rv with
  |cons ra rv=>cases rv with
   |@cons yv _ _ _ rb rv=>
    cases dn with
    |cons da dn=>cases dn with
     |@cons _ db _ _ dbh dn=>
      cases da with
      |str kk=>
       obtain⟨prs',hp',rfl⟩:=UW.mp (show(QbY _).map _=some prs from hp);obtain⟨p',hp2,kv,hH,kr⟩:=r.addr hg;rw[hn]at hp2;cases hp2;obtain⟨z,hd,vs,rel,dd⟩:=QoH I.hok hH;have hkl:kv.length=ks.length:=Paired.length kr;have hs:sizeLine=16777216:=TU;rw[UH]at hz;have hl2:(putK kv (.inr kk) yv).length<=sizeLine:=Uk (Qfc kv (.inr kk) yv) (by omega);unfold storeAll;rw[RY];refine Ua (Ua (wpAny_dictSet_pairs (hsz:=by rw[<-rel.length];omega) (QoG (k:=.inr kk) ra) dd λh' dd' hs'=>Ub ?_));have he:∃q,h'.get? p=some q:=let ⟨q,_,_,hq,_⟩:=dd';⟨q,hq⟩;have I1:=Qdv (t':=s.toks+1) I (by rw[hH];exact True.intro) hs' he (QoI hl2 hd (rel.put (.inr kk) rb) dd');have ex:Ext X.K μ H μ (upd H p (.dK (putK kv (.inr kk) yv))):=ZP hH (λ_ z=>nomatch z) (λ_ _ z=>nomatch z);have r1:=r.set (u:=.dct (dPut ks (.inr kk) db)) hn hH (λ_ z=>nomatch z) (λ_ _ z=>nomatch z) ⟨_,Qk,(kr.mono ex).put (.inr kk) (dbh.mono ex)⟩;have hlt:n<g.length:=(Um.mp hg).1;refine ih _ _ prs' (dPut ks (.inr kk) db) _ _ _ Q I1 r1 (by rw[UP hlt]) rv (dn.mono ex) hp' ?_ λH' s' I' ex' r'=>hQ H' s' I' (ex.trans ex') ?_
       ·have:(dPut ks (.inr kk) db).length<=ks.length+1:=by
         unfold dPut;split
         ·rw[Ud];omega
         ·rw[Us];exact Ug _
        omega
       ·rw[Rs]at r';exact r'
      |_=>exact nomatch hp
theorem Qfj(hp:PP3 ca X pos ks vs m)(hall:ks.all (·.isSome)=true:=by rfl)(hl:ks.length=vs.length:=by rfl)(h0:ks≠[]:=by exact λh=>nomatch h)(hlen:ks.length<=15:=by decide):PE3 ca X (.Dict ks vs pos) (J0 m):=
 λpn Φ=>QS (Qi3 (X:=xat X ca pn Φ) (F:=λ_=>.dK []) (λh H hb=>Qdw h hb) (hp pn Φ) hall hl h0 hlen) λσ H Q ⟨σ3,g,μ,R,q⟩=>λp hpn hb=>by
  have ex:Ext X.K μ H (μ++[p]) (upd H p (.dK [])):=Qx hpn;have R':Rep X.K ca (μ++[p]) σ3 (g++[.dct []]) σ (upd H p (.dK [])):=R.go ex (R.g.push hpn ⟨[],Qk,.nil⟩);refine Yf (QbM R' (k:=Qfi g.length) (Post.go ex q)) λws H1 hQ=>?_;obtain⟨ds,g1,μ1,e1,R1,q1,p1⟩:=hQ;intro pins s ps I rv;have hn:μ1[g.length]?=some p:=e1.at (by rw[<-R.g.len];simp);unfold Qfi at p1;cases hd:QbY ds with
  |none=>rw[hd]at p1;exact p1.elim|some prs=>
   rw[hd]at p1;cases hg:g1[g.length]? with
   |none=>rw[hg]at p1;exact p1.elim|some ob=>
    rw[hg]at p1;cases ob with
    |dct kk=>
     cases kk with
     |nil=>
      dsimp only at p1;by_cases z:prs.length<=15
      ·rw[Ue z]at p1;exact QoU (X:=xat X ca pn Φ) hn ps ws ds prs [] H1 g1 s _ I R1.g hg rv q1 hd (by rw[B1];omega) λH' s' I' ex' r'=>⟨.ref p,H',I',rfl,p1 (.ref p) H' μ1 ex' r' (.ref hn)⟩
      ·rw[Uf z]at p1;exact p1.elim
     |cons _ _=>exact p1.elim
    |_=>exact p1.elim
theorem Qfk(τ:Bool)(hr:Room j X.A)(hp:PP3 ca X pos [some k] [v] m):PE3 ca X (.Dict [some k] [v] pos) (Js τ m):=
 λpn Φ=>QS (Qi3 (X:=xat X ca pn Φ) (F:=λp=>ND p []) (λh H hb=>by
  obtain⟨_,hd,vs,rel,o,es,ep,ho,hc,hdat,_,hp,_⟩:=(show ObjOk X.prog X.w H _ _ (.dK []) from Qdw h hb);cases rel;exact Qg1 ⟨o,es,ep,ho,hc,hdat,Wy.mp hp.length⟩) (hp pn Φ) rfl rfl (λh=>nomatch h) (by show 1<=15;decide)) λσ H Q ⟨σ3,g,μ,R,q⟩=>λp hpn hb=>by
  have ex:Ext X.K μ H (μ++[p]) (upd H p (ND p [])):=Qx hpn;have R':Rep X.K ca (μ++[p]) σ3 (g++[.dcn τ []]) σ (upd H p (ND p [])):=R.go ex (R.g.push hpn ⟨[],Qk,.nil,.nil,hb⟩);refine Yf (QbM R' (k:=Qkv g.length) (Post.go ex q)) λws H1 hQ=>?_;obtain⟨ds,g1,μ1,e1,R1,q1,p1⟩:=hQ;intro pins s ps I rv;have hn:μ1[g.length]?=some p:=e1.at (by rw[<-R.g.len];simp);unfold Qkv at p1;cases q1 with
  |nil=>exact p1.elim|@cons kv dk _ _ qk q1=>cases q1 with
   |nil=>exact p1.elim|@cons y dv _ _ qv q1=>cases q1 with
    |cons _ _=>exact p1.elim|nil=>
     cases hg:g1[g.length]? with
     |none=>rw[hg]at p1;exact p1.elim|some ob=>
      rw[hg]at p1;cases ob with
      |dcn τ' kk=>
       cases kk with
       |cons _ _=>exact p1.elim|nil=>
        dsimp only at p1;cases hk:skOf τ' dk with
        |none=>rw[hk]at p1;exact p1.elim|some kx=>
         rw[hk]at p1;obtain⟨a,rfl⟩:=QaR qk hk;obtain⟨p',hp',xs,hH,nr,nd,hs⟩:=R1.g.addr hg;rw[hn]at hp';cases hp';cases nr;rcases ps with _|⟨⟨k1,v1⟩,_|⟨p2,ps⟩⟩
         ·cases rv
         ·cases rv with
          |cons ra rv=>cases rv with
           |cons rb rv=>
            cases ra;unfold storeAll;rw[RY];have hu:X.A.units+16<cLine:=by have:=hr.units;omega
            have dd:=QbV (X:=xat X ca pn Φ) (τ:=τ') (μ:=μ1) I hH .nil nd;refine Ua (Ua (wpAny_dictSet_heap (hsz:=TC _) (knd:=NK.tagK X.prog X.w τ') (show X.A.units+2<cLine by omega) (Yu (X:=xat X ca pn Φ) I qk rfl hk) dd λh' dd' hs'=>Ub ?_));obtain⟨o,es,ep,ho,hc,hd,he,_,nd'⟩:=dd';have ex1:Ext X.K μ1 H1 μ1 (upd H1 p (ND p (storedH [] kx a v1))):=ZP hH (λ_ z=>by unfold ND at z;cases z) (λ_ _ z=>by unfold ND at z;cases z);have I1:=Qdv (X:=xat X ca pn Φ) (t':=s.toks+(NK.tagK X.prog X.w τ').draws kx) I (by rw[hH];exact True.intro) hs' ⟨o,ho⟩ (Qg1 ⟨o,es,ep,ho,hc,hd,by rw[he];exact(NK.ents_eq _ _ _ _).symm⟩);show wpAny _ _ (storeAll p []) _ _ _;unfold storeAll;rw[Wj];refine Ub ⟨.ref p,_,I1,rfl,p1 (.ref p) _ μ1 ex1 ?_ (.ref hn)⟩;exact R1.g.set hn hH (λ_ z=>by unfold ND at z;cases z) (λ_ _ z=>by unfold ND at z;cases z) ⟨_,Qk,.cons ⟨rfl,⟨dk,hk,qk.mono ex1⟩,y,rb,qv.mono ex1⟩ .nil,nd',hs⟩
         ·cases rv with
          |cons ra rv=>cases rv with
           |cons rb rv=>cases rv
      |_=>exact p1.elim
end
end L3
namespace L3
open PySem
def pInG(x y:D)(g:G):Res D:=match y,(skOf false x:Option SKd) with
 |.ref n,some (k:SKd)=>(match g[n]? with
  |some (.lst ds)=>(match YC false ds with
   |some ks=>.ok (.bl (ks.any λc=>decide (c=k))) g|none=>.stuck)
  |_=>.stuck)
 |_,_=>.stuck
end L3
namespace L3
open PySem PySem.Spec PyProof.Rows L2
section
variable{X:Cx}{ca:Nat->Addr}{a b:Expr}{ma mb:ME}{pos:Pos}{j:Nat}
def rInG(K:Frag):R2:=λx y H Q=>∃(p:Addr)(ys:List V)(ds:List D)(μ:List Addr)(dx:D)(k:NK.SK)(ks:List NK.SK),y=.ref p/\H p=some (.lst ys)/\Dens K μ H ys ds/\Den K μ H x dx/\skOf false dx=some k/\YC false ds=some ks/\Q (.bl (ks.any λc=>decide (c=k))) H
open Classical in
theorem Qly(inj:∀u x y,R x u->R y u->x=y):∀{ks:List NK.SK}{us:List Value},NK.Al R ks us->us.any (λu=>decide (R k u))=ks.any λc=>decide (c=k)
 |_,_,.nil=>rfl|c::ks,u::us,.cons h t=>by rw[TY,TY,Qly inj t];congr 1;exact TM.mpr ⟨λz=>inj _ _ _ h z,λz=>z ▸ h⟩
open Classical in
theorem QoV(hu:X.A.units+16<cLine):OpR X (compareOp .In) (rInG X.K):=by
 intro pins s σ H x y v u Q I rx ry h;obtain⟨p,ys,ds,μ,dx,k,ks,rfl,hH,qs,qx,hk,hks,q⟩:=h;cases ry;obtain⟨its,rvs,pl,hz⟩:=I.list (.of hH);obtain⟨al,_⟩:=Qfh I qs rvs hks;have kx:=Yu I qx rx hk;refine SeqAt.in_listAt (λw=>decide ((NK.tagV X.prog X.w false).is s.heap k w)) pl.isList (λw hw=>?_) ⟨.bl _,H,I,rfl,?_⟩
 ·obtain⟨c,hc,rc⟩:=NK.Al.has al w (by simpa using hw);intro prog w' E' Q' hq;refine(NK.tagV prog w' false).eqBool (x:=c) (y:=k) (show X.A.units+1+2<cLine by omega) rc kx ?_;have e:decide ((NK.tagV X.prog X.w false).is s.heap k w)=decide (c=k):=TM.mpr ⟨λz=>(NK.tagV X.prog X.w false).inj rc z,λz=>z ▸ rc⟩;rw[e]at hq;exact hq
 ·rw[show its.toArray.any (λw=>decide ((NK.tagV X.prog X.w false).is s.heap k w))=its.any (λw=>decide ((NK.tagV X.prog X.w false).is s.heap k w)) by simp,Qly (R:=(NK.tagV X.prog X.w false).is s.heap) (λu x y hx hy=>(NK.tagV X.prog X.w false).inj hx hy) al];exact q
theorem Qkw{K:Frag}:YR K ca (rInG K) pInG:=by
 intro Φ σ H μ g x y dx dy Q r qx qy p;unfold pInG at p;cases qy with
 |@ref n t hn=>
  cases hk:skOf false dx with
  |none=>rw[hk]at p;exact p.elim|some k=>
   rw[hk]at p;dsimp only at p;cases hg:g[n]? with
   |none=>rw[hg]at p;exact p.elim|some ob=>
    rw[hg]at p;obtain⟨t',ht',orp⟩:=r.addr hg;rw[hn]at ht';cases ht';cases ob with
    |lst ds=>
     obtain⟨vs,hH,q⟩:=orp;dsimp only at p;cases hks:YC false ds with
     |none=>rw[hks]at p;exact p.elim|some ks=>rw[hks]at p;exact⟨t,vs,ds,μ,dx,k,ks,rfl,hH,q,qx,hk,hks,p _ H μ .refl r (.bl _)⟩
    |_=>exact p.elim
 |_=>exact p.elim
theorem QpW(hr:Room j X.A)(ha:PE3 ca X a ma)(hb:PE3 ca X b mb)(hm:behindInMarks .In b=false:=by rfl):PE3 ca X (.Compare a [.In] [b] pos) (mOp2 pInG ma mb):=Qj9 (λpn Φ=>QoV (X:=xat X ca pn Φ) (by have:=hr.units;show X.A.units+16<cLine;omega)) Qkw ha hb hm
end
end L3
namespace L3
open PySem PySem.Spec PyProof.Rows L2
section
variable{X:Cx}{ca:Nat->Addr}{e:Expr}{me:ME}{pos p p2 tp:Pos}{all cs:List Nat}
theorem QmV(p:IsTup h a xs):∃dd n sl,h.get? a=some ⟨.type "tuple",dd,.seq xs n,sl⟩:=by obtain⟨⟨cls,dd,data,sl⟩,h1,h2,n,h3⟩:=p;simp only at h2 h3;subst h2 h3;exact⟨dd,n,sl,h1⟩
structure NamesX(X:Cx)(ca:Nat->Addr)(es:List Expr)(us:List V)(Ts:List Value)(all cs:List Nat):Prop where
 pa:∀pn Φ,PA (xat X ca pn Φ) es (λ_ H Q=>Q us H)
 vs:∀its,Vals us its->its=Ts
 ex:∀c∈all,ExK X.K (ca c)
 an:∀c∈all,kitAny X.K (.ref (ca c)) Ts=some (decide (c∈cs))
 no:kitAny X.K (.type "NoneType") Ts=some false
 ln:us.length<=100
theorem QoW{x:Str}{C:Addr}(hC:X.mg x=some (.ref C)/\IsX X.K ca (.ref C) all cs)(hg:Gl X x:=by rfl)(hdb:(x==("__debug__" : Str))=false:=by decide)(hs:starEach [.Name x p2] X.env=(false,eval (.Name x p2) X.env)::starEach [] X.env:=by rfl):NamesX X ca [.Name x p2] [.ref C] [.ref C] all cs where
 pa:=λpn Φ=>Yl (X:=xat X ca pn Φ) (Qc2 (X:=xat X ca pn Φ) (v:=.ref C) hg hC.1 rfl hdb) Qcw hs
 vs:=λits h=>by cases h with|cons h1 h2=>cases h2;cases h1;rfl
 ex:=hC.2.ex
 an:=λc hc=>by unfold kitAny;rw[hC.2.an c hc];cases decide (c∈cs)<;>rfl
 no:=by unfold kitAny;rw[hC.2.no];rfl
 ln:=by simp
theorem Qfl{x:Str}{C:Addr}{es:List Expr}{us:List V}{Ts:List Value}{cs2:List Nat}(hC:X.mg x=some (.ref C)/\IsX X.K ca (.ref C) all cs)(hr:NamesX X ca es us Ts all cs2)(hl:us.length<=50:=by simp)(hg:Gl X x:=by rfl)(hdb:(x==("__debug__" : Str))=false:=by decide)(hs:starEach (.Name x p2::es) X.env=(false,eval (.Name x p2) X.env)::starEach es X.env:=by rfl):NamesX X ca (.Name x p2::es) (.ref C::us) (.ref C::Ts) all (cs++cs2) where
 pa:=λpn Φ=>Yl (X:=xat X ca pn Φ) (Qc2 (X:=xat X ca pn Φ) (v:=.ref C) hg hC.1 rfl hdb) (hr.pa pn Φ) hs
 vs:=λits h=>by cases h with|cons h1 h2=>cases h1;rw[hr.vs _ h2]
 ex:=hC.2.ex
 an:=λc hc=>by
  unfold kitAny;rw[hC.2.an c hc];by_cases h:c∈cs
  ·rw[Uq h,Uq (RH _ h)]
  ·rw[UC h];dsimp only;rw[hr.an c hc];have:(c∈cs2)↔(c∈cs++cs2):=⟨λz=>UU _ z,λz=>(Uu.mp z).resolve_left h⟩;rw[TM.mpr this]
 no:=by unfold kitAny;rw[hC.2.no];exact hr.no
 ln:=by rw[UH];omega
theorem Qfm(N:NamesX X ca es us Ts all cs):CallR X (.builtin "isinstance") (λxs H Q=>∃x q g μ d b,xs=[x,.ref q]/\SqT X.K H q us/\GRep X.K ca μ H g/\Den X.K μ H x d/\ZN all cs d g=.ok (.bl b) g/\Q (.bl b) H):=by
 intro pins s σ H xs ws Q I rv z;obtain⟨x,q,g,μ,d,b,rfl,hq,r,qd,ht,qq⟩:=z;obtain⟨v,v2,rfl,rx,r2⟩:=rv.two;cases r2;obtain⟨its,r1,p1,_⟩:=I.tuple hq;have e1:=N.vs _ r1;subst e1;obtain⟨dd,n,sl,ho⟩:=QmV p1;have fin:∀tk,EP X pins σ Q (.bool b) {s with toks:=tk}:=λtk=>⟨.bl _,H,I.tok tk,rfl,qq⟩;cases qd with
 |non=>cases ht;cases (show v=Value.none from rx);exact kia_tup kitx_none I.kIn True.intro ho N.no (λz=>nomatch z) fin|@ref n a hn=>
  unfold ZN at ht;dsimp only at ht;cases hg:g[n]? with
  |none=>rw[hg]at ht;cases ht|some o=>
   rw[hg]at ht;obtain⟨a',ha',ob⟩:=r.addr hg;rw[hn]at ha';cases ha';cases o with
   |exc ex=>
    dsimp only at ht;by_cases hm:ex.1∈all
    ·rw[Ue hm]at ht;cases ht;cases rx;obtain⟨⟨o,vs,h1,h2,h3⟩,_⟩:=I.hok a _ ob;exact kia_tup (Qgb (N.ex _ hm)) I.kIn ⟨o,vs,h1,h2,h3⟩ ho (N.an _ hm) (λz=>nomatch z) fin
    ·rw[Uf hm]at ht;cases ht
   |_=>cases ht
 |_=>cases ht
theorem Qkx{k:Nat}{us:List V}{Ts:List Value}{es:List Expr}{cs':List Nat}(hi:X.mg "isinstance"=none)(N:NamesX X ca es us Ts all cs')(he:PE3 ca X e me)(hcs:∀c∈all,(c∈cs'↔c∈cs):=by decide)(hgi:Gl X "isinstance":=by rfl)(hs:starEach [e,.Tuple es k tp] X.env=(false,eval e X.env)::starEach [.Tuple es k tp] X.env:=by rfl)(hs2:starEach [.Tuple es k tp] X.env=(false,eval (.Tuple es k tp) X.env)::starEach [] X.env:=by rfl)(hpl:(backTo pos (starEach [.Tuple es k tp] X.env)).any (·.1)=false:=by rfl):
  PE3 ca X (.Call (.Name "isinstance" p) [e,.Tuple es k tp] [] pos) (mOp1 (ZN all cs) me):=λpn Φ=>by
 have N':NamesX X ca es us Ts all cs:=⟨N.pa,N.vs,N.ex,λc hc=>by rw[N.an c hc,TM.mpr (hcs c hc)],N.no,N.ln⟩;have N2:NamesX (xat X ca pn Φ) ca es us Ts all cs:=⟨λpn' Φ'=>N'.pa pn' Φ',N'.vs,N'.ex,N'.an,N'.no,N'.ln⟩;refine QS (JD (X:=xat X ca pn Φ) (Qfm N2) hgi hi W8 (Yl (X:=xat X ca pn Φ) (he pn Φ) (Yl (X:=xat X ca pn Φ) (Qk3 (X:=xat X ca pn Φ) (N'.pa pn Φ)) Qcw hs2) hs) (by decide) (by decide) hs hpl) λσ H Q h=>?_;obtain⟨σ3,g,μ,R,q⟩:=h;refine QN (Y7 R q) λy H1 ⟨d,g1,μ1,e1,R1,q1,p1⟩=>?_;have:∃b,ZN all cs d g1=.ok (.bl b) g1:=by
  unfold ZN at p1 ⊢;cases d with
  |non=>exact⟨false,rfl⟩|ref n=>
   dsimp only at p1 ⊢;cases hg:g1[n]? with
   |none=>rw[hg]at p1;exact p1.elim|some o=>
    rw[hg]at p1;cases o with
    |exc ex=>
     dsimp only at p1 ⊢;by_cases hm:ex.1∈all
     ·rw[Ue hm];exact⟨_,rfl⟩
     ·rw[Uf hm]at p1;exact p1.elim
    |_=>exact p1.elim
  |_=>exact p1.elim
 obtain⟨b,hb⟩:=this;rw[hb]at p1;exact⟨Uk N.ln (Uk (by decide:100<=SZ) ZQ),λq hq=>⟨y,q,g1,μ1,d,b,rfl,.of Qk,R1.g.new hq,q1.mono (QM hq),hb,p1 _ _ μ1 (QM hq) (R1.g.new hq) (.bl _)⟩⟩
end
end L3
namespace L3
open PySem
def Qg6:MS:=(mRet (mAnd (mOp1 (ZX .int) (mVar 0)) (mNot (mOp1 (ZX .bool) (mVar 0)))))
def JM:MF:=mDef 1 0 Qg6
def Qg7:MS:=(mRet (mAnd (Qr JM (Qa (mVar 0) mNil)) (QcD pLe pLt (mI 0) (mVar 0) (mVar 1))))
def ZD:MF:=mDef 2 0 Qg7
def QbZ:MS:=(mRet (mIfE (Qj (mOp2 pEq (mVar 0) (mLit (.str "r")))) (mLit (.str "l")) (mLit (.str "r"))))
def Y9:MF:=mDef 1 0 QbZ
def Qg8:MS:=(mSeq (mIf (Qj (mOp2 pIs (mVar 0) (mLit .non))) (mRet (mLit (.bl true))) QV)
 (mSeq (mIf (mOrT (Yn (Qj (mOp1 (ZX .tuple) (mVar 0)))) (Qj (mOp2 pNe (mOp1 pLen (mVar 0)) (mI 3)))) (mRet (mLit (.bl false))) QV)
 (mRet (mAnd (Qr ZD (Qa (mOp2 pIx (mVar 0) (mI 0)) (Qa (mVar 2) mNil))) (mAnd (mOp2 (pIn false) (mOp2 pIx (mVar 0) (mI 1)) (mOpA pTup (Qa (mLit (.str "l")) (Qa (mLit (.str "r")) mNil)))) (Qr ZD (Qa (mOp2 pIx (mVar 0) (mI 2)) (Qa (mVar 1) mNil))))))))
def Yi:MF:=mDef 3 0 Qg8
def QX:MS:=(mSeq (mIf (Qj (mOp2 pNe (mOp1 pLen (mVar 3)) (mVar 2))) QbJ QV)
 (mIf (Yn (Qj (mOp1 pAll (J8 (QR (mVar 3)) 1 [1,2] (gSet 0) Qam (Qr Yi (Qa (mVar 0) (Qa (mVar 1) (Qa (mVar 2) mNil)))))))) QbJ QV))
def ZE:MS:=(mSeq (mIf (Qj (mOp2 pEq (mOp1 pLen (mVar 0)) (mI 0))) QbJ QV)
 (mSeq (mAsg (gSet 1) (mOp1 pLen (mVar 0)))
 (mSeq (mAsg (gSet 2) (mOp1 pLen (mOp2 pIx (mVar 0) (mI 0))))
 (mSeq (mIf (Qj (mOp2 pEq (mVar 2) (mI 0))) QbJ QV)
 (mFor (QR (mVar 0)) (gSet 3) QX)))))
def ZF:MF:=mDef 1 3 ZE
def J4:MS:=(mSeq (mAsg (gSet 2) (mOp1 Qan (J8 (QR (mVar 1)) 1 [] (gSet 0) Qam (mOp1 Qan (mVar 0)))))
 (mSeq (Yb (Qr ZF (Qa (mVar 2) mNil)))
 (Q4 [11] "table" (mVar 0) (mVar 2))))
def Zo:MF:=mDef 2 1 J4
def Qg9:MS:=(mRet (mOp2 pIx (mOp2 pIx (Qz [11] "table" (mVar 0)) (mOp2 pIx (mVar 1) (mI 1))) (mOp2 pIx (mVar 1) (mI 2))))
def YV:MF:=mDef 2 0 Qg9
def Qax:MS:=(mRet (mIfE (Qj (mOp2 pEq (mOp2 pIx (mVar 0) (mI 1)) (mLit (.str "r")))) (mOp2 pIx (mVar 1) (mI 0)) (mOp2 pIx (mVar 1) (mI 3))))
def ZI:MF:=mDef 2 0 Qax
def Qbb:MS:=(mRet (mIfE (Qj (mOp2 pEq (mOp2 pIx (mVar 0) (mI 1)) (mLit (.str "r")))) (mOp2 pIx (mVar 1) (mI 3)) (mOp2 pIx (mVar 1) (mI 0))))
def ZY:MF:=mDef 2 0 Qbb
def YM:MS:=(mSeq (mAsg (gSet 3) (mOp2 pIx (Qr ZY (Qa (mVar 0) (Qa (mVar 1) mNil))) (mI 0)))
 (mSeq (mAsg (gSet 4) (mOp2 pAdd (mOpA pTup (Qa (mOp2 pIx (mVar 0) (mI 0)) mNil)) (QW (Qr ZI (Qa (mVar 0) (Qa (mVar 1) mNil))) QD (ZM (mOp1 pNeg (mI 1))))))
 (mSeq (mIf (Qj (mOp2 pEq (mOp2 pIx (mVar 0) (mI 1)) (mLit (.str "r")))) (mRet (mOpA pTup (Qa (mVar 4) (Qa (mOp2 pIx (mVar 0) (mI 2)) (Qa (mVar 3) (Qa (mVar 2) mNil)))))) QV)
 (mRet (mOpA pTup (Qa (mVar 2) (Qa (mOp2 pIx (mVar 0) (mI 2)) (Qa (mVar 3) (Qa (mVar 4) mNil)))))))))
def Q3:MF:=mDef 3 2 YM
def Qew:MS:=(Q4 [14] "by_seen" (mVar 0) (Jr false))
def YE:MF:=mDef 1 0 Qew
def QaS:MS:=(mRet (Qgg (Qz [14] "by_seen" (mVar 0)) (mVar 1) (mOpA newL mNil)))
def QJ:MF:=mDef 2 0 QaS
def Qfn:MS:=(mRet (mOp2 pInG (mVar 1) (Yc 14 (Str.ofString "beginning") QJ (mVar 0) (Qa (QW (mVar 1) QD (ZM (mOp1 pNeg (mI 1)))) mNil))))
def Zw:MF:=mDef 2 0 Qfn
def Zp:MS:=(mIf (Yn (Qj (Yc 14 (Str.ofString "has") Zw (mVar 0) (Qa (mVar 1) mNil)))) (Yb (Yo (JJ (Qz [14] "by_seen" (mVar 0)) (QW (mVar 1) QD (ZM (mOp1 pNeg (mI 1)))) (mOpA newL mNil)) (mVar 1))) QV)
def Zq:MF:=mDef 2 0 Zp
def Yv:MS:=(Yb (Qdx (mVar 1) (mVar 2)))
def Z4:MS:=(mSeq (mAsg (gSet 1) (mOpA newL mNil))
 (mSeq (mFor (mItV (Qz [14] "by_seen" (mVar 0))) (gSet 2) Yv)
 (mRet (mOp1 Q5 (mVar 1)))))
def Zt:MF:=mDef 1 2 Z4
def Qay:MS:=(Yb (Yc 14 (Str.ofString "put_in") Zq (mVar 1) (Qa (mVar 2) mNil)))
def QaT:MS:=(mSeq (mAsg (gSet 1) (QaO 14 YE mNil))
 (mSeq (mFor (QR (mVar 0)) (gSet 2) Qay)
 (mRet (mVar 1))))
def ZR:MF:=mDef 1 2 QaT
def Zx:MS:=(mIf (Qj (mOp2 QbU (mVar 1) (Qz [15] "contexts" (mVar 0)))) (mSeq (JZ (Qz [15] "contexts" (mVar 0)) (mVar 1) (mLit (.bl true)))
 (Yb (Yo (Qz [15] "pending" (mVar 0)) (mVar 1)))) QV)
def QA:MF:=mDef 2 0 Zx
def Z5:MS:=(mSeq (mAsg (gSet 3) (mOp2 QiV (mOpA pTup (Qa (mI 0) mNil)) (mVar 2)))
 (mSeq (Q4 [15] "machine" (mVar 0) (mVar 1))
 (mSeq (Q4 [15] "sides" (mVar 0) (J0 (Qa (mLit (.str "l")) (Qa (Qr ZR (Qa (mOpA newL (Qa (mVar 3) mNil)) mNil)) (Qa (mLit (.str "r")) (Qa (Qr ZR (Qa (mOpA newL (Qa (mVar 3) mNil)) mNil)) mNil))))))
 (mSeq (Q4 [15] "contexts" (mVar 0) (Jr true))
 (mSeq (Q4 [15] "pending" (mVar 0) (mOpA newL mNil))
 (mSeq (Q4 [15] "asking" (mVar 0) (J0 (Qa (mLit (.str "l")) (Qa (Jr false) (Qa (mLit (.str "r")) (Qa (Jr false) mNil))))))
 (Yb (Yc 15 (Str.ofString "ask_for") QA (mVar 0) (Qa (mOpA pTup (Qa (mVar 3) (Qa (mI 0) (Qa (mI 0) (Qa (mVar 3) mNil))))) mNil)))))))))
def Zu:MF:=mDef 3 1 Z5
def ZJ:MS:=(Yb (Yc 15 (Str.ofString "ask_for") QA (mVar 0) (Qa (Qr Q3 (Qa (Qr YV (Qa (Qz [15] "machine" (mVar 0)) (Qa (mVar 3) mNil))) (Qa (mVar 3) (Qa (mVar 2) mNil)))) mNil)))
def Zf:MS:=(mSeq (mIf (Qj (Yc 14 (Str.ofString "has") Zw (mOp2 Qs (Qz [15] "sides" (mVar 0)) (mVar 1)) (Qa (mVar 2) mNil))) Qmm QV)
 (mSeq (Yb (Yc 14 (Str.ofString "put_in") Zq (mOp2 Qs (Qz [15] "sides" (mVar 0)) (mVar 1)) (Qa (mVar 2) mNil)))
 (mFor (QR (Qgg (mOp2 Qs (Qz [15] "asking" (mVar 0)) (mVar 1)) (QW (mVar 2) QD (ZM (mOp1 pNeg (mI 1)))) (mOpA newL mNil))) (gSet 3) ZJ)))
def Zg:MF:=mDef 3 1 Zf
def ZO:MS:=(Yb (Yc 15 (Str.ofString "ask_for") QA (mVar 0) (Qa (Qr Q3 (Qa (mVar 2) (Qa (mVar 1) (Qa (mVar 5) mNil)))) mNil)))
def QL:MS:=(mSeq (mAsg (gSet 1) (mOp1 pPop (Qz [15] "pending" (mVar 0))))
 (mSeq (mAsg (gSet 2) (Qr YV (Qa (Qz [15] "machine" (mVar 0)) (Qa (mVar 1) mNil))))
 (mSeq (mIf (Qj (mOp2 pIs (mVar 2) (mLit .non))) (mRet (mLit (.bl false))) QV)
 (mSeq (mAsg (gSet 3) (mOp2 pIx (mVar 2) (mI 1)))
 (mSeq (Yb (Yc 15 (Str.ofString "put_gram") Zg (mVar 0) (Qa (Qr Y9 (Qa (mVar 3) mNil)) (Qa (Qr ZI (Qa (mVar 2) (Qa (mVar 1) mNil))) mNil))))
 (mSeq (mAsg (gSet 4) (QW (Qr ZY (Qa (mVar 2) (Qa (mVar 1) mNil))) (ZM (mI 1)) QD))
 (mSeq (Yb (Yo (JJ (mOp2 Qs (Qz [15] "asking" (mVar 0)) (mVar 3)) (mVar 4) (mOpA newL mNil)) (mVar 1)))
 (mSeq (mFor (QR (Yc 14 (Str.ofString "beginning") QJ (mOp2 Qs (Qz [15] "sides" (mVar 0)) (mVar 3)) (Qa (mVar 4) mNil))) (gSet 5) ZO)
 (mRet (mLit (.bl true)))))))))))
def QB:MF:=mDef 1 5 QL
def QaU:MS:=(mRet (mOpA pTup (Qa (mLit (.str "wall")) (Qa (mVar 1) (Qa (Yc 14 (Str.ofString "in_order") Zt (mOp2 Qs (Qz [15] "sides" (mVar 0)) (mLit (.str "l"))) mNil) (Qa (Yc 14 (Str.ofString "in_order") Zt (mOp2 Qs (Qz [15] "sides" (mVar 0)) (mLit (.str "r"))) mNil) (Qa (mOp1 Qbv (Qz [15] "contexts" (mVar 0))) mNil)))))))
def Zb:MF:=mDef 2 0 QaU
def Q8:MS:=(mIf (mOrT (Qj (mOp2 pGt (mOp1 Zn (Qz [15] "contexts" (mVar 3))) (mVar 2))) (Yn (Qj (Yc 15 (Str.ofString "went_on") QB (mVar 3) mNil)))) (mRet (mLit .non)) QV)
def Yw:MS:=(mSeq (mIf (Qj (mOp2 pLt (mVar 1) (mI 1))) (Qh2 9 (Qa (mLit (.str "a wall is at least one wide")) mNil)) QV)
 (mSeq (mAsg (gSet 3) (QaO 15 Zu (Qa (mVar 0) (Qa (mVar 1) mNil))))
 (mSeq (QbK (Qj (mOp2 pGt (mOp1 pLen (Qz [15] "pending" (mVar 3))) (mI 0))) Q8)
 (mRet (mIfE (Qj (mOp2 pLe (mOp1 Zn (Qz [15] "contexts" (mVar 3))) (mVar 2))) (Yc 15 (Str.ofString "paper") Zb (mVar 3) (Qa (mVar 1) mNil)) (mLit .non))))))
def Zr:MF:=mDef 3 1 Yw
def QdD:MS:=(mSeq (Qek (mVar 1) (mI 0) (mOp2 pAdd (mOp2 pIx (mVar 1) (mI 0)) (mI 1)))
 (mSeq (mAsg (gSet 2) (mI 0))
 (mSeq (mIf (Qj (mOp2 pGt (mOp1 pLen (mVar 0)) (mI 0))) (mAsg (gSet 2) (mOp2 pIx (mVar 0) (mOp2 pMod (mOp2 pIx (mVar 1) (mI 0)) (mOp1 pLen (mVar 0))))) QV)
 (mSeq (mAsg (gSet 3) (mOp2 pMod (mOp2 pMul (mOp2 pAdd (mOp2 pAdd (mOp2 pMod (mVar 2) (mI 2147483647)) (mOp2 pMul (mOp2 pMul (mOp2 pIx (mVar 1) (mI 0)) (mOp2 pIx (mVar 1) (mI 0))) (mI 7919))) (mI 11)) (mI 48271)) (mI 2147483647)))
 (mRet (mOp2 pMod (mOp2 pMul (mVar 3) (mVar 3)) (mI 1999999973)))))))
def Qaz:MF:=mDef 2 2 QdD
def Ja(me:MF):MS:=(mSeq (mIf (Qj (mOp1 (ZX .dict) (mVar 1))) (mSeq (mIf (mOrT (Yn (Qj (mOp1 (ZX .dict) (mVar 0)))) (Qj (mOp2 pNe (mOp1 pLen (mVar 0)) (mOp1 pLen (mVar 1))))) (mRet (mLit (.bl false))) QV)
 (mRet (mOp1 pAll (J8 (QR (mVar 1)) 1 [0,1] (gSet 0) Qam (mAnd (mOp2 (pIn false) (mVar 0) (mVar 1)) (Qr me (Qa (mOp2 pIx (mVar 1) (mVar 0)) (Qa (mOp2 pIx (mVar 2) (mVar 0)) mNil)))))))) QV)
 (mSeq (mIf (mOrT (Qj (mOp1 (ZX .list) (mVar 1))) (Qj (mOp1 (ZX .tuple) (mVar 1)))) (mSeq (mIf (Qco (Qj (mOp1 (ZX .list) (mVar 1))) (Yn (Qj (mOp1 (ZX .list) (mVar 0))))) (mRet (mLit (.bl false))) QV)
 (mSeq (mIf (mOrT (Qco (Qj (mOp1 (ZX .tuple) (mVar 1))) (Yn (Qj (mOp1 (ZX .tuple) (mVar 0))))) (Qj (mOp2 pNe (mOp1 pLen (mVar 0)) (mOp1 pLen (mVar 1))))) (mRet (mLit (.bl false))) QV)
 (mRet (mOp1 pAll (J8 (Qel (mVar 0) (mVar 1)) 2 [] (QgT [(gSet 0),(gSet 1)]) Qam (Qr me (Qa (mVar 0) (Qa (mVar 1) mNil)))))))) QV)
 (mSeq (mIf (Qj (mOp1 (ZX .str) (mVar 1))) (mRet (mAnd (mOp1 (ZX .str) (mVar 0)) (mOp2 pEq (mVar 0) (mVar 1)))) QV)
 (mRet (mAnd (mOp1 (ZX .int) (mVar 0)) (mAnd (mNot (mOp1 (ZX .bool) (mVar 0))) (mOp2 pEq (mVar 0) (mVar 1))))))))
def Zv:Nat->MF
 |0=>λ_ _=>.stuck
 |k+1=>mDef 2 0 (Ja (Zv k))
def Q9:MS:=(mSeq (mAsg (gSet 8) (Qr Qaz (Qa (mVar 0) (Qa (mVar 1) mNil))))
 (mSeq (mAsg (gSet 9) (mOpA pTup (Qa (mOp2 pMod (mOp2 Ye (mVar 8) (mI 9)) (mVar 3)) (Qa (mOp2 pIx (mLit (.str "lr")) (mOp2 pMod (mOp2 Ye (mVar 8) (mI 100)) (mI 2))) (Qa (mOp2 pMod (mOp2 Ye (mVar 8) (mI 300)) (mVar 2)) mNil)))))
 (mSeq (mIf (Qj (mOp2 pEq (mOp2 pMod (mVar 8) (mI 9)) (mI 0))) (mAsg (gSet 9) (mLit .non)) QV)
 (Yb (Yo (mVar 6) (mVar 9))))))
def YF:MS:=(mSeq (mAsg (gSet 6) (mOpA newL mNil))
 (mSeq (mFor (ZH (mVar 3)) (gSet 7) Q9)
 (Yb (Yo (mVar 4) (mVar 6)))))
def Qb0:MS:=(mSeq (mAsg (gSet 4) (mOpA newL mNil))
 (mSeq (mFor (ZH (mVar 2)) (gSet 5) YF)
 (mRet (mVar 4))))
def Qb1:MF:=mDef 4 6 Qb0
def YW:MS:=(mSeq (mAsg (QgT [(gSet 4),(gSet 5),(gSet 6),(gSet 7)]) (mVar 1))
 (mSeq (mAsg (gSet 8) (mOp2 pIx (mOp2 pIx (mVar 0) (mVar 5)) (mVar 6)))
 (mSeq (mIf (Qj (mOp2 pIs (mVar 8) (mLit .non))) (mRet (mLit .non)) QV)
 (mSeq (mIf (Qj (mOp2 pEq (mOp2 pIx (mVar 8) (mI 1)) (mLit (.str "r")))) (mSeq (mAsg (gSet 9) (mOp2 pAdd (mOpA pTup (Qa (mOp2 pIx (mVar 8) (mI 0)) mNil)) (QW (mVar 4) QD (ZM (mOp2 pSub (mOp1 pLen (mVar 4)) (mI 1))))))
 (mRet (mOpA pTup (Qa (mLit (.str "l")) (Qa (mVar 4) (Qa (QcL 3 1 [9,8,7] (gSet 0) (Qj (mOp2 pEq (QW (mVar 0) QD (ZM (mOp2 pSub (mOp1 pLen (mVar 0)) (mI 1)))) (QW (mVar 3) (ZM (mI 1)) QD))) (mOpA pTup (Qa (mVar 1) (Qa (mOp2 pIx (mVar 2) (mI 2)) (Qa (mOp2 pIx (mVar 3) (mI 0)) (Qa (mVar 0) mNil)))))) mNil)))))) QV)
 (mSeq (mAsg (gSet 9) (mOp2 pAdd (mOpA pTup (Qa (mOp2 pIx (mVar 8) (mI 0)) mNil)) (QW (mVar 7) QD (ZM (mOp2 pSub (mOp1 pLen (mVar 7)) (mI 1))))))
 (mRet (mOpA pTup (Qa (mLit (.str "r")) (Qa (mVar 7) (Qa (QcL 2 1 [9,8,4] (gSet 0) (Qj (mOp2 pEq (QW (mVar 0) QD (ZM (mOp2 pSub (mOp1 pLen (mVar 0)) (mI 1)))) (QW (mVar 3) (ZM (mI 1)) QD))) (mOpA pTup (Qa (mVar 0) (Qa (mOp2 pIx (mVar 2) (mI 2)) (Qa (mOp2 pIx (mVar 3) (mI 0)) (Qa (mVar 1) mNil)))))) mNil))))))))))
def JN:MF:=mDef 4 6 YW
def Jt:MS:=(JZ (mOp2 Qs (mVar 3) (mLit (.str "c"))) (mVar 10) (mLit (.bl true)))
def QP:MS:=(mSeq (mAsg (gSet 6) (Qr JN (Qa (mVar 0) (Qa (mVar 5) (Qa (mOp2 Qs (mVar 3) (mLit (.str "l"))) (Qa (mOp2 Qs (mVar 3) (mLit (.str "r"))) mNil))))))
 (mSeq (mIf (Qj (mOp2 pIs (mVar 6) (mLit .non))) (mRet (mLit .non)) QV)
 (mSeq (mAsg (QgT [(gSet 7),(gSet 8),(gSet 9)]) (mVar 6))
 (mSeq (JZ (mOp2 Qs (mVar 3) (mVar 7)) (mVar 8) (mLit (.bl true)))
 (mFor (QR (mVar 9)) (gSet 10) Jt)))))
def QZ:MS:=(mSeq (mAsg (gSet 4) (mOp2 pAdd (mOp2 pAdd (mOp1 Zn (mOp2 Qs (mVar 3) (mLit (.str "l")))) (mOp1 Zn (mOp2 Qs (mVar 3) (mLit (.str "r"))))) (mOp1 Zn (mOp2 Qs (mVar 3) (mLit (.str "c"))))))
 (mFor (QR (mOp1 Ya (mOp2 Qs (mVar 3) (mLit (.str "c"))))) (gSet 5) QP))
def Qb2:MS:=(mSeq (mAsg (gSet 2) (mOp2 QiV (mOpA pTup (Qa (mI 0) mNil)) (mVar 1)))
 (mSeq (mAsg (gSet 3) (J0 (Qa (mLit (.str "l")) (Qa (Js false (Qa (mVar 2) (Qa (mLit (.bl true)) mNil))) (Qa (mLit (.str "r")) (Qa (Js false (Qa (mVar 2) (Qa (mLit (.bl true)) mNil))) (Qa (mLit (.str "c")) (Qa (Js true (Qa (mOpA pTup (Qa (mVar 2) (Qa (mI 0) (Qa (mI 0) (Qa (mVar 2) mNil))))) (Qa (mLit (.bl true)) mNil))) mNil))))))))
 (mSeq (mAsg (gSet 4) (mI 0))
 (mSeq (QbK (Qco (Qj (mOp2 pLt (mVar 4) (mOp2 pAdd (mOp2 pAdd (mOp1 Zn (mOp2 Qs (mVar 3) (mLit (.str "l")))) (mOp1 Zn (mOp2 Qs (mVar 3) (mLit (.str "r"))))) (mOp1 Zn (mOp2 Qs (mVar 3) (mLit (.str "c"))))))) (Qj (mOp2 pLt (mOp1 Zn (mOp2 Qs (mVar 3) (mLit (.str "c")))) (mI 62)))) QZ)
 (mRet (mOpA pTup (Qa (mLit (.str "wall")) (Qa (mVar 1) (Qa (mOp1 Q5 (mOp1 Ya (mOp2 Qs (mVar 3) (mLit (.str "l"))))) (Qa (mOp1 Q5 (mOp1 Ya (mOp2 Qs (mVar 3) (mLit (.str "r"))))) (Qa (mOp1 Q5 (mOp1 Ya (mOp2 Qs (mVar 3) (mLit (.str "c"))))) mNil)))))))))))
def Ju:MF:=mDef 2 9 Qb2
def Qaa:MS:=(mSeq (mAsg (gSet 2) (mLit .non))
 (mSeq (mTry (Yb (Qr Zr (Qa (mVar 0) (Qa (mVar 1) (Qa (mI 9) mNil))))) [⟨[0,1,7,8,9,10],[],some 3,(mAsg (gSet 2) (mVar 3))⟩])
 (mSeq (mIf (mOrT (Qj (mOp1 (ZN [0,1,7,8,9,10] [1,7,8,10]) (mVar 2))) (Yn (Qj (mOp1 (ZN [0,1,7,8,9,10] [0,1,7,8,9,10]) (mVar 2))))) (mRet (mLit (.bl false))) QV)
 (mRet (mOp1 (ZN [0,1,7,8,9,10] [9]) (mVar 2))))))
def Qab:MF:=mDef 2 2 Qaa
def QdE:MS:=(mSeq (mAsg (gSet 4) (Qr Zr (Qa (mVar 0) (Qa (mVar 1) (Qa (mVar 2) mNil)))))
 (mSeq (mIf (mOrT (Qj (mOp2 pIs (mVar 3) (mLit .non))) (Qj (mOp2 pGt (mOp1 pLen (mOp2 pIx (mVar 3) (mI 4))) (mVar 2)))) (mRet (mOp2 pIs (mVar 4) (mLit .non))) QV)
 (mRet (Qr (Zv 6) (Qa (mVar 4) (Qa (mVar 3) mNil))))))
def JO:MF:=mDef 4 1 QdE
def QaV:MS:=(Yb (Yo (mVar 10) (mLit .non)))
def Qfo:MS:=(mSeq (mAsg (gSet 2) (Qr Qaz (Qa (mVar 0) (Qa (mVar 1) mNil))))
 (mSeq (mAsg (gSet 3) (mOp2 pAdd (mI 2) (mOp2 pMod (mVar 2) (mI 2))))
 (mSeq (mAsg (gSet 4) (mI 1))
 (mSeq (mIf (Qj (mOp2 pEq (mVar 3) (mI 2))) (mAsg (gSet 4) (mOp2 pAdd (mI 1) (mOp2 pMod (mOp2 Ye (mVar 2) (mI 2)) (mI 3)))) QV)
 (mSeq (mAsg (gSet 5) (Qr Qb1 (Qa (mVar 0) (Qa (mVar 1) (Qa (mOp2 pAdd (mI 1) (mOp2 pMod (mOp2 Ye (mVar 2) (mI 6)) (mI 3))) (Qa (mVar 3) mNil))))))
 (mSeq (mAsg (gSet 6) (QaO 11 Zo (Qa (mVar 5) mNil)))
 (mSeq (mAsg (gSet 7) (Qr Ju (Qa (mVar 5) (Qa (mVar 4) mNil))))
 (mSeq (mIf (Yn (Qj (Qr JO (Qa (mVar 6) (Qa (mVar 4) (Qa (mOp2 pIx (mOpA newL (Qa (mI 0) (Qa (mI 1) (Qa (mOp2 pMod (mOp2 Ye (mVar 2) (mI 100)) (mI 60)) (Qa (mI 60) mNil))))) (mOp2 pMod (mOp2 Ye (mVar 2) (mI 20)) (mI 4))) (Qa (mVar 7) mNil))))))) (mRet (mLit (.bl false))) QV)
 (mSeq (mIf (Yn (Qj (Qr Qab (Qa (mVar 6) (Qa (mOp1 pNeg (mOp2 pMod (mOp2 Ye (mVar 2) (mI 100)) (mI 3))) mNil))))) (mRet (mLit (.bl false))) QV)
 (mSeq (mIf (mOrT (Qj (mOp2 pIs (mVar 7) (mLit .non))) (Qj (mOp2 pGt (mOp1 pLen (mOp2 pIx (mVar 7) (mI 4))) (mI 60)))) (mRet (mLit (.bl true))) QV)
 (mSeq (mAsg (gSet 8) (mOp1 pLen (mOp2 pIx (mVar 7) (mI 4))))
 (mSeq (mAsg (gSet 9) (Qr Zr (Qa (mVar 6) (Qa (mVar 4) (Qa (mVar 8) mNil)))))
 (mSeq (mIf (mOrT (Yn (Qj (Qr (Zv 6) (Qa (mVar 9) (Qa (mVar 7) mNil))))) (Qj (mOp2 QfX (Qr Zr (Qa (mVar 6) (Qa (mVar 4) (Qa (mOp2 pSub (mVar 8) (mI 1)) mNil)))) (mLit .non)))) (mRet (mLit (.bl false))) QV)
 (mSeq (mFor (QR (QW (mVar 9) (ZM (mI 2)) QD)) (gSet 10) QaV)
 (mRet (Qr JO (Qa (mVar 6) (Qa (mVar 4) (Qa (mVar 8) (Qa (mVar 7) mNil))))))))))))))))))))
def QaW:MF:=mDef 2 9 Qfo
def Qgn:MS:=(mIf (Yn (Qj (Qr QaW (Qa (mVar 0) (Qa (mVar 1) mNil))))) (mRet (mLit (.bl false))) QV)
def QmW:MS:=(mSeq (mAsg (gSet 1) (mOpA newL (Qa (mI 0) mNil)))
 (mSeq (mFor (ZH (mOp2 pAdd (mI 1) (mOp2 QiH (mI 3) (mOp2 Ye (mOp1 pLen (mVar 0)) (mI 16))))) (gSet 2) Qgn)
 (mRet (mLit (.bl true)))))
def Qky:MF:=mDef 1 2 QmW
end L3
namespace L3
open PySem
structure Keeps(S:List Nat)(g g':G):Prop where
 len:g.length<=g'.length
 at':∀n o,n∉S->g[n]?=some o->g'[n]?=some o
theorem Keeps.refl  : Keeps S g g:=⟨Ug _,λ_ _ _ h=>h⟩
theorem Keeps.trans(a:Keeps S g g1)(b:Keeps S g1 g2):Keeps S g g2:=⟨Uk a.len b.len,λn o h e=>b.at' n o h (a.at' n o h e)⟩
theorem Keeps.mono(a:Keeps S g g1)(h:∀n∈S,n∈T):Keeps T g g1:=⟨a.len,λn o q e=>a.at' n o (λz=>q (h n z)) e⟩
theorem Keeps.all(a:Keeps [] g g1):Keeps S g g1:=a.mono (by simp)
theorem Keeps.push(o:GO):Keeps S g (g++[o]):=⟨by simp,λn u _ e=>by have hl:n<g.length:=(Um.mp e).1;rw[Ul hl];exact e⟩
theorem Keeps.set(n:Nat)(o:GO):Keeps [n] g (g.set n o):=⟨by simp,λm u h e=>by rw[Uh (λz=>h (by simp[z]))];exact e⟩
structure KeepsN(k:Nat)(S:List Nat)(g g':G):Prop where
 len:g.length<=g'.length
 at':∀n o,n<k->n∉S->g[n]?=some o->g'[n]?=some o
theorem KeepsN.refl   : KeepsN k S g g:=⟨Ug _,λ_ _ _ _ h=>h⟩
theorem KeepsN.trans(a:KeepsN k S g g1)(b:KeepsN k S g1 g2):KeepsN k S g g2:=⟨Uk a.len b.len,λn o l h e=>b.at' n o l h (a.at' n o l h e)⟩
theorem Keeps.n(a:Keeps S g g1)(h:∀n∈S,n<k->n∈T):KeepsN k T g g1:=⟨a.len,λn o l q e=>a.at' n o (λz=>q (h n z l)) e⟩
theorem KeepsN.mono(a:KeepsN k S g g1)(hj:j<=k)(h:∀n∈S,n<j->n∈T):KeepsN j T g g1:=⟨a.len,λn o l q e=>a.at' n o (by omega) (λz=>q (h n z l)) e⟩
theorem KeepsN.keeps(a:KeepsN g.length S g g1):Keeps S g g1:=⟨a.len,λn o q e=>a.at' n o (Um.mp e).1 q e⟩
theorem QC(o:GO):(g++[o])[g.length]?=some o:=by simp
theorem QE{g:G}{n:Nat}{o:GO}(h:g[n]?=some o):n<g.length:=(Um.mp h).1
theorem Z6{g:G}{n:Nat}{o u:GO}(h:g[n]?=some o):(g.set n u)[n]?=some u:=by rw[UP (QE h)]
def Qfp:Out->Prop
 |.rt _ _=>True|.raise _ _ _=>True|.stuck=>True|_=>False
theorem Jb{src:Src}{t:MG}{body:MS}{n:Nat}(I:Nat->S3->G->Prop)(R:Out->Prop)(step:∀i σ g,i<n->I i σ g->∃d σ1,src.at' g i=some (some d)/\t d σ=some σ1/\((∃σ2 g2,(body σ1 g=.nx σ2 g2\/body σ1 g=.ct σ2 g2)/\I (i+1) σ2 g2)\/(Qfp (body σ1 g)/\R (body σ1 g))))(stop:∀σ g,I n σ g->src.at' g n=some none):∀(f i:Nat)(σ:S3)(g:G),n-i<f->i<=n->I i σ g->(∃σ' g',forL src t body f i σ g=.nx σ' g'/\I n σ' g')\/(Qfp (forL src t body f i σ g)/\R (forL src t body f i σ g))
 |0,_,_,_,h,_,_=>by omega
 |f+1,i,σ,g,hf,hi,h=>by
  unfold forL;by_cases e:i=n
  ·subst e;rw[stop σ g h];exact .inl ⟨σ,g,rfl,h⟩
  ·obtain⟨d,σ1,h1,h2,h3⟩:=step i σ g (by omega) h;rw[h1];dsimp only;rw[h2];dsimp only;rcases h3 with⟨σ2,g2,h3|h3,h4⟩|⟨h3,h4⟩
   ·rw[h3];exact Jb I R step stop f (i+1) σ2 g2 (by omega) (by omega) h4
   ·rw[h3];exact Jb I R step stop f (i+1) σ2 g2 (by omega) (by omega) h4
   ·cases hb:body σ1 g with
    |rt d g'=>rw[hb]at h4;exact .inr ⟨trivial,h4⟩|raise x σ' g'=>rw[hb]at h4;exact .inr ⟨trivial,h4⟩|nx _ _=>rw[hb]at h3;exact h3.elim|bk _ _=>rw[hb]at h3;exact h3.elim|ct _ _=>rw[hb]at h3;exact h3.elim|stuck=>rw[hb]at h4;exact .inr ⟨trivial,h4⟩
theorem Qb3{t:MG}{body:MS}{lo:Int}{n:Nat}{σ:S3}{g:G}(I:Nat->S3->G->Prop)(h0:I 0 σ g)(step:∀i σ g,i<n->I i σ g->∃σ1 σ2 g2,t (.int (lo+i)) σ=some σ1/\body σ1 g=.nx σ2 g2/\I (i+1) σ2 g2):∃σ' g',forL (Yd lo n) t body (n+1) 0 σ g=.nx σ' g'/\I n σ' g':=by
 have:=Jb (src:=Yd lo n) (t:=t) (body:=body) (n:=n) I (λ_=>False) (λi σ g hi h=>by obtain⟨σ1,σ2,g2,a,b,c⟩:=step i σ g hi h;exact⟨.int (lo+i),σ1,by simp[Yd,hi],a,.inl ⟨σ2,g2,.inl b,c⟩⟩) (λσ g _=>by simp[Yd]) (n+1) 0 σ g (by omega) (by omega) h0;rcases this with h|h
 ·exact h
 ·exact h.2.elim
theorem Qex{t:MG}{body:MS}{ds:List D}{σ:S3}{g:G}(I:Nat->S3->G->Prop)(h0:I 0 σ g)(step:∀i d σ g,ds[i]?=some d->I i σ g->∃σ1 σ2 g2,t d σ=some σ1/\body σ1 g=.nx σ2 g2/\I (i+1) σ2 g2):∃σ' g',forL ⟨λ_ i=>some ds[i]?,ds.length⟩ t body (ds.length+1) 0 σ g=.nx σ' g'/\I ds.length σ' g':=by
 have:=Jb (src:=⟨λ_ i=>some ds[i]?,ds.length⟩) (t:=t) (body:=body) (n:=ds.length) I (λ_=>False) (λi σ g hi h=>by obtain⟨σ1,σ2,g2,a,b,c⟩:=step i ds[i] σ g (by simp[hi]) h;exact⟨ds[i],σ1,by simp[hi],a,.inl ⟨σ2,g2,.inl b,c⟩⟩) (λσ g _=>by simp) (ds.length+1) 0 σ g (by omega) (by omega) h0;rcases this with h|h
 ·exact h
 ·exact h.2.elim
theorem Qey{t:MG}{body:MS}{ds:List D}{σ:S3}{g:G}(I:Nat->S3->G->Prop)(R:Out->Prop)(h0:I 0 σ g)(step:∀i d σ g,ds[i]?=some d->I i σ g->∃σ1,t d σ=some σ1/\((∃σ2 g2,body σ1 g=.nx σ2 g2/\I (i+1) σ2 g2)\/(Qfp (body σ1 g)/\R (body σ1 g)))):
  (∃σ' g',forL ⟨λ_ i=>some ds[i]?,ds.length⟩ t body (ds.length+1) 0 σ g=.nx σ' g'/\I ds.length σ' g')\/(Qfp (forL ⟨λ_ i=>some ds[i]?,ds.length⟩ t body (ds.length+1) 0 σ g)/\R (forL ⟨λ_ i=>some ds[i]?,ds.length⟩ t body (ds.length+1) 0 σ g)):=
 Jb (src:=⟨λ_ i=>some ds[i]?,ds.length⟩) (t:=t) (body:=body) (n:=ds.length) I R (λi σ g hi h=>by
  obtain⟨σ1,a,b⟩:=step i ds[i] σ g (by simp[hi]) h;refine⟨ds[i],σ1,by simp[hi],a,?_⟩;rcases b with⟨σ2,g2,b,c⟩|b
  ·exact .inl ⟨σ2,g2,.inl b,c⟩
  ·exact .inr b) (λσ g _=>by simp) (ds.length+1) 0 σ g (by omega) (by omega) h0
theorem QmX{src:Src}{t:MG}{body:MS}{n:Nat}{σ:S3}{g:G}(hn:src.top=n)(I:Nat->S3->G->Prop)(h0:I 0 σ g)(step:∀i σ g,i<n->I i σ g->∃d σ1 σ2 g2,src.at' g i=some (some d)/\t d σ=some σ1/\body σ1 g=.nx σ2 g2/\I (i+1) σ2 g2)(stop:∀σ g,I n σ g->src.at' g n=some none):∃σ' g',forL src t body (src.top+1) 0 σ g=.nx σ' g'/\I n σ' g':=by
 rw[hn];have:=Jb (src:=src) (t:=t) (body:=body) (n:=n) I (λ_=>False) (λi σ g hi h=>by obtain⟨d,σ1,σ2,g2,a,b,c,e⟩:=step i σ g hi h;exact⟨d,σ1,a,b,.inl ⟨σ2,g2,.inl c,e⟩⟩) stop (n+1) 0 σ g (by omega) (by omega) h0;rcases this with h|h
 ·exact h
 ·exact h.2.elim
theorem YX{src:Src}{t:MG}{c:MT}{e:ME}{n:Nat}(I:Nat->S3->G->List D->Prop)(step:∀i σ g acc,i<n->I i σ g acc->∃d σ1 g1,src.at' g i=some (some d)/\t d σ=some σ1/\((∃y g2,c σ1 g=.ok true g1/\e σ1 g1=.ok y g2/\I (i+1) σ1 g2 (acc++[y]))\/(c σ1 g=.ok false g1/\I (i+1) σ1 g1 acc)))(stop:∀σ g acc,I n σ g acc->src.at' g n=some none):∀(f i:Nat)(σ:S3)(g:G)(acc:List D),n-i<f->i<=n->I i σ g acc->∃ds σ' g',Ji src t c e f i σ g acc=.ok ds g'/\I n σ' g' ds
 |0,_,_,_,_,h,_,_=>by omega
 |f+1,i,σ,g,acc,hf,hi,h=>by
  unfold Ji;by_cases q:i=n
  ·subst q;rw[stop σ g acc h];exact⟨acc,σ,g,rfl,h⟩
  ·obtain⟨d,σ1,g1,h1,h2,h3⟩:=step i σ g acc (by omega) h;rw[h1];dsimp only;rw[h2];dsimp only;rcases h3 with⟨y,g2,h3,h4,h5⟩|⟨h3,h5⟩
   ·rw[h3];dsimp only;rw[Ue rfl,h4];exact YX I step stop f (i+1) σ1 g2 _ (by omega) (by omega) h5
   ·rw[h3];dsimp only;rw[Uf Ui];exact YX I step stop f (i+1) σ1 g1 _ (by omega) (by omega) h5
theorem Qha{ds:List D}{e:ME}{no:Nat}{σ:S3}{g:G}{f:D->D}(hz:ds.length<=SZ)(he:∀d∈ds,∀g1,Keeps [] g g1->∃g2,e ((List.replicate (no+1) none++σ).set 0 (some d)) g1=.ok (f d) g2/\Keeps [] g1 g2):
  ∃g',Ji ⟨λ_ i=>some ds[i]?,ds.length⟩ (gSet 0) Qam e (ds.length+1) 0 (List.replicate (no+1) none++σ) g []=.ok (ds.map f) g'/\Keeps [] g g':=by
 obtain⟨xs,σ',g',h1,h2,h3,h4⟩:=YX (src:=⟨λ_ i=>some ds[i]?,ds.length⟩) (t:=gSet 0) (c:=Qam) (e:=e) (n:=ds.length)
  (λi σ' g1 acc=>acc=(ds.take i).map f/\Keeps [] g g1/\∃u,σ'=(List.replicate (no+1) none++σ).set 0 u) (λi σ' g1 acc hi h=>by
   obtain⟨h1,h2,u,h3⟩:=h;obtain⟨g2,k1,k2⟩:=he ds[i] (TN hi) g1 h2;refine⟨ds[i],_,g1,by simp[hi],rfl,.inl ⟨f ds[i],g2,rfl,?_,?_,h2.trans k2,some ds[i],?_⟩⟩
   ·subst h3;rw[Rs];exact k1
   ·rw[h1,Tk hi,U4];rfl
   ·subst h3;rw[Rs]) (λσ g acc _=>by simp) (ds.length+1) 0 (List.replicate (no+1) none++σ) g [] (by omega) (by omega) ⟨by simp,.refl,none,by simp[Rq]⟩
 refine⟨g',?_,h3⟩;rw[h1,h2,Rw]
end L3
namespace L3
open PySem
def QaA(d:D)(n:Int):Bool:=match d with
 |.int i=>decide (0<=i/\i<n)|_=>false
def QoX:D->Bool
 |.int _=>true|_=>false
theorem Qb4(d:D)(n:Int)(g:G)(t:Ty)(_:tyOf g d=some t)(hp:QoX d=true:=by rfl):ZD [d,.int n] g=.ok (.bl (QaA d n)) g:=by
 cases d with
 |int i=>
  have c:QcD pLe pLt (mI 0) (mVar 0) (mVar 1) [some (.int i),some (.int n)] g=.ok (.bl (decide (0<=i/\i<n))) g:=by
   unfold QcD;rw[show(mI 0) [some (D.int i),some (D.int n)] g=.ok (.int 0) g from rfl,Res.bind_ok,show mVar 0 [some (D.int i),some (D.int n)] g=.ok (.int i) g from rfl,Res.bind_ok,show pLe (.int 0) (.int i) g=.ok (.bl (decide (0<=i))) g from rfl,Res.bind_ok];by_cases h0:0<=i
   ·rw[Uq h0];show Res.ok (D.bl (decide (i<n))) g=_;by_cases h1:i<n
    ·rw[Uq h1,Uq ⟨h0,h1⟩]
    ·rw[UC h1,UC λz=>h1 z.2]
   ·rw[UC h0,UC λz=>h0 z.1]
  have a1:Qr JM (Qa (mVar 0) mNil) [some (.int i),some (.int n)] g=.ok (.bl true) g:=rfl;show(match mRet (mAnd (Qr JM (Qa (mVar 0) mNil)) (QcD pLe pLt (mI 0) (mVar 0) (mVar 1))) [some (.int i),some (.int n)] g with
   |.nx _ g'=>Res.ok D.non g'|.rt d g'=>.ok d g'|.raise e _ g'=>.raise e g'|_=>.stuck)=_
  unfold mRet mAnd;rw[a1,Res.bind_ok];dsimp only;rw[Ue rfl,c];rfl
 |_=>cases hp
theorem s_l:Str.ofString "l"=⟨#[108]⟩:=by decide +kernel
theorem s_r:Str.ofString "r"=⟨#[114]⟩:=by decide +kernel
def wayD:D->Bool
 |.str s=>s==⟨#[108]⟩||s==⟨#[114]⟩|_=>false
def entD(d:D)(states signs:Int):Bool:=match d with
 |.non=>true|.tup [a,b,c]=>QaA a signs&&wayD b&&QaA c states|_=>false
def thingD(_:G)(d:D):Prop:=d=.non\/∃(i j:Int)(w:Str),d=.tup [.int i,.str w,.int j]
theorem QmY(s:Str)(g:G):pIn false (.str s) (.tup [.str ⟨#[108]⟩,.str ⟨#[114]⟩]) g=.ok (.bl (wayD (.str s))) g:=by show Res.ok (D.bl ((⟨#[108]⟩==s)||((⟨#[114]⟩==s)||false))) g=.ok (.bl ((s==⟨#[108]⟩)||(s==⟨#[114]⟩))) g;rw[show((⟨#[108]⟩:Str)==s)=(s==⟨#[108]⟩) from BEq.comm,show((⟨#[114]⟩:Str)==s)=(s==⟨#[114]⟩) from BEq.comm,Uay]
theorem Qfq(d:D)(states signs:Int)(g:G)(h:thingD g d):Yi [d,.int states,.int signs] g=.ok (.bl (entD d states signs)) g:=by
 rcases h with rfl|⟨i,j,w,rfl⟩
 ·rfl
 ·have a1:Qr ZD (Qa (mOp2 pIx (mVar 0) (mI 0)) (Qa (mVar 2) mNil)) [some (.tup [.int i,.str w,.int j]),some (.int states),some (.int signs)] g=.ok (.bl (QaA (.int i) signs)) g:=Qb4 (.int i) signs g .int rfl;have a3:Qr ZD (Qa (mOp2 pIx (mVar 0) (mI 2)) (Qa (mVar 1) mNil)) [some (.tup [.int i,.str w,.int j]),some (.int states),some (.int signs)] g=.ok (.bl (QaA (.int j) states)) g:=Qb4 (.int j) states g .int rfl;have a2:mOp2 (pIn false) (mOp2 pIx (mVar 0) (mI 1)) (mOpA pTup (Qa (mLit (.str "l")) (Qa (mLit (.str "r")) mNil))) [some (.tup [.int i,.str w,.int j]),some (.int states),some (.int signs)] g=.ok (.bl (wayD (.str w))) g:=by rw[s_l,s_r];exact QmY w g
  show(match (mRet (mAnd (Qr ZD (Qa (mOp2 pIx (mVar 0) (mI 0)) (Qa (mVar 2) mNil))) (mAnd (mOp2 (pIn false) (mOp2 pIx (mVar 0) (mI 1)) (mOpA pTup (Qa (mLit (.str "l")) (Qa (mLit (.str "r")) mNil)))) (Qr ZD (Qa (mOp2 pIx (mVar 0) (mI 2)) (Qa (mVar 1) mNil)))))) [some (.tup [.int i,.str w,.int j]),some (.int states),some (.int signs)] g with
   |.nx _ g'=>Res.ok D.non g'|.rt d g'=>.ok d g'|.raise e _ g'=>.raise e g'|_=>.stuck)=.ok (.bl (QaA (.int i) signs&&wayD (.str w)&&QaA (.int j) states)) g
  unfold mRet mAnd;rw[a1,Res.bind_ok];dsimp only;cases QaA (.int i) signs
  ·rfl
  ·rw[Ue rfl,a2,Res.bind_ok];dsimp only;cases wayD (.str w)
   ·rfl
   ·rw[Ue rfl,a3];rfl
end L3
namespace L3
open PySem
theorem Keeps.ty(k:Keeps [] g g1)(h:tyOf g d=some t):tyOf g1 d=some t:=by
 cases d with
 |ref n=>
  unfold tyOf at h ⊢;dsimp only at h ⊢;cases hg:g[n]? with
  |none=>rw[hg]at h;cases h|some o=>rw[hg]at h;rw[k.at' n o (by simp) hg];exact h
 |_=>exact h
theorem thingD.mono(_:Keeps [] g g1)(h:thingD g d):thingD g1 d:=h
theorem Qgo(f:α->Bool):∀ts:List α,allB (ts.map λd=>D.bl (f d))=some (ts.all f)
 |[]=>rfl|t::ts=>by simp[allB,Qgo f ts]
def Yx(n m:Nat)(r:List D):Bool:=r.length==m&&r.all λd=>entD d n m
def QaB(rows:List (List D)):Bool:=match rows with
 |[]=>false|r::_=>r.length != 0&&rows.all (Yx rows.length r.length)
theorem Qi4(σ:S3)(g:G):QbJ σ g=.stuck:=rfl
theorem eq_int(i j:Int)(g:G):pEq (.int i) (.int j) g=.ok (.bl (i==j)) g:=rfl
theorem ne_int(i j:Int)(g:G):pNe (.int i) (.int j) g=.ok (.bl (!(i==j))) g:=rfl
theorem QmZ(n m:Nat)(ts:List D)(x:D)(g:G)(hz:ts.length<=SZ)(h:∀d∈ts,thingD g d):
  ∃g',Keeps [] g g'/\mOp1 pAll (J8 (QR (mVar 3)) 1 [1,2] (gSet 0) Qam (Qr Yi (Qa (mVar 0) (Qa (mVar 1) (Qa (mVar 2) mNil))))) [some x,some (.int n),some (.int m),some (.tup ts)] g=.ok (.bl (ts.all λd=>entD d n m)) g':=by
 obtain⟨g1,h1,k1⟩:=Qha (ds:=ts) (e:=Qr Yi (Qa (mVar 0) (Qa (mVar 1) (Qa (mVar 2) mNil)))) (no:=0) (σ:=[some (.int n),some (.int m)]) (g:=g) (f:=λd=>.bl (entD d n m)) hz
  (λd hd g1 k=>⟨g1,by simp[Qr,Qa,mNil,mVar,Res.bind,Qfq d n m g1 ((h d hd).mono k)],.refl⟩)
 refine⟨g1++[.lst (ts.map λd=>.bl (entD d n m))],k1.trans (.push _),?_⟩;have h1:Ji ⟨λ_ i=>some ts[i]?,ts.length⟩ (gSet 0) Qam (Qr Yi (Qa (mVar 0) (Qa (mVar 1) (Qa (mVar 2) mNil)))) (ts.length+1) 0 [none,some (.int n),some (.int m)] g []=.ok (ts.map λd=>.bl (entD d n m)) g1:=h1;simp[mOp1,J8,QR,mVar,Res.bind,JY,hz,capt,h1,pAll,Qgo]
theorem Qkz(n m:Nat)(ts:List D)(x:D)(g:G)(hz:ts.length<=SZ)(h:∀d∈ts,thingD g d):
  ∃g',Keeps [] g g'/\QX [some x,some (.int n),some (.int m),some (.tup ts)] g=if Yx n m ts=true then .nx [some x,some (.int n),some (.int m),some (.tup ts)] g' else .stuck:=by
 by_cases hl:ts.length=m
 ·obtain⟨g2,k2,e2⟩:=QmZ n m ts x g hz h;refine⟨g2,k2,?_⟩;have hl':((ts.length:Int)==(m:Int))=true:=by simp[hl]
  have gr:Yx n m ts=ts.all λd=>entD d n m:=by simp[Yx,hl]
  rw[gr];simp only[QX,mSeq,mIf,Qj,mOp2,mOp1,mVar,Res.bind,Rj,Rl,pLen,ne_int,hl',Rv,UL,TQ,QV,Yn];simp only[mOp1,Res.bind]at e2;rw[e2];cases (ts.all λd=>entD d n m)<;>simp[QbJ]
 ·refine⟨g,.refl,?_⟩;have hl':((ts.length:Int)==(m:Int))=false:=by simp;omega
  have gr:Yx n m ts=false:=by
   have:(ts.length==m)=false:=by simp[hl]
   simp only[Yx,this,Bool.false_and]
  rw[gr];simp only[QX,mSeq,mIf,Qj,mOp2,mOp1,mVar,Res.bind,Rj,Rl,pLen,ne_int,hl',Br,Wk,Qi4,UL,TQ]
theorem QdF(rows:List (List D))(g:G)(hz:∀r∈rows,r.length<=SZ)(h:∀r∈rows,∀d∈r,thingD g d):
  ∃g',Keeps [] g g'/\ZF [.tup (rows.map .tup)] g=if QaB rows=true then .ok .non g' else .stuck:=by
 cases rows with
 |nil=>exact⟨g,.refl,by simp[ZF,mDef,ZE,mSeq,mIf,Qj,mOp2,mOp1,mVar,mLit,Res.bind,pLen,eq_int,Qi4,QaB]⟩|cons r rest=>
  have e0:¬((rest.length:Int)+1=0):=by omega
  have e1:(0:Int)<(rest.length:Int)+1:=by omega
  by_cases hr:r.length=0
  ·refine⟨g,.refl,?_⟩;simp[ZF,mDef,ZE,mSeq,mIf,Qj,mOp2,mOp1,mVar,mLit,Res.bind,pLen,eq_int,Qi4,QaB,hr,e0,e1,QV,mAsg,gSet,pIx,atD,ixD]
  ·have hr':¬((r.length:Int)=0):=by omega
   have hrn:¬r=[]:=λz=>hr (by rw[z];rfl);have hd0:QaB (r::rest)=(r::rest).all (Yx (r::rest).length r.length):=by simp[QaB,hr]
   have loop:=Qey (t:=gSet 3) (ds:=(r::rest).map D.tup) (σ:=[some (.tup ((r::rest).map .tup)),some (.int (r::rest).length),some (.int r.length),none]) (g:=g) (body:=QX)
    (λi σ g1=>Keeps [] g g1/\(∃u,σ=[some (.tup ((r::rest).map .tup)),some (.int (r::rest).length),some (.int r.length),u])/\∀x∈(r::rest).take i,Yx (r::rest).length r.length x=true)
    (λo=>o=.stuck/\∃x∈r::rest,Yx (r::rest).length r.length x=false) ⟨.refl,⟨none,rfl⟩,by simp⟩ (λi d σ g1 hd ⟨k,⟨u,hσ⟩,hg⟩=>by
     rw[UJ]at hd;cases hx:(r::rest)[i]? with
     |none=>rw[hx]at hd;cases hd|some ts=>
      rw[hx]at hd;cases hd;have hm:ts∈r::rest:=Td hx;subst hσ;refine⟨_,rfl,?_⟩;obtain⟨g2,k2,e2⟩:=Qkz (r::rest).length r.length ts (.tup ((r::rest).map .tup)) g1 (hz ts hm) λd hd=>(h ts hm d hd).mono k;simp only[List.set];rw[e2];cases ha:Yx (r::rest).length r.length ts with
      |true=>
       left;refine⟨_,g2,by rw[Ue rfl],k.trans k2,⟨_,rfl⟩,λx hx'=>?_⟩;rw[List.take_succ,hx]at hx';rcases Uu.mp hx' with z|z
       ·exact hg x z
       ·have:x=ts:=by simpa using z
        rw[this];exact ha
      |false =>right;rw[Uf Ui];exact⟨trivial,rfl,ts,hm,ha⟩)
   have fin:ZE [some (.tup ((r::rest).map .tup)),none,none,none] g=forL ⟨λ_ i=>some ((r::rest).map D.tup)[i]?,((r::rest).map D.tup).length⟩ (gSet 3) QX (((r::rest).map D.tup).length+1) 0 [some (.tup ((r::rest).map .tup)),some (.int (r::rest).length),some (.int r.length),none] g:=by simp[ZE,mSeq,mIf,Qj,mOp2,mOp1,mVar,mLit,Res.bind,pLen,eq_int,e0,QV,mAsg,gSet,pIx,atD,ixD,e1,hr',hrn,mFor,QR,JY]
   have ap:ZF [.tup ((r::rest).map .tup)] g=match ZE [some (.tup ((r::rest).map .tup)),none,none,none] g with
    |.nx _ g'=>.ok .non g'|.rt d g'=>.ok d g'|.raise e _ g'=>.raise e g'|_=>.stuck:=rfl
   rw[ap,fin];rcases loop with⟨σ',g',h1,k1,_,h2⟩|⟨_,h1,x,hx,hg⟩
   ·refine⟨g',k1,?_⟩;have:QaB (r::rest)=true:=by rw[hd0,U7];intro x hx;exact h2 x (by rw[Ud,Rw];exact hx)
    rw[Ue this,h1]
   ·refine⟨g,.refl,?_⟩;have:¬QaB (r::rest)=true:=by rw[hd0,U7];intro z;rw[z x hx]at hg;cases hg
    rw[Uf this,h1]
end L3
namespace L3
open PySem
theorem Keeps.seq(k:Keeps [] g g1)(h:QF g d=some p):QF g1 d=some p:=by
 cases d with
 |ref n=>
  unfold QF at h ⊢;dsimp only at h ⊢;cases hg:g[n]? with
  |none=>rw[hg]at h;cases h|some o=>rw[hg]at h;rw[k.at' n o (by simp) hg];exact h
 |_=>exact h
theorem QoY(h:QF g d=some (b,ds)):∃src,JY d g=.ok src g/\src.top=ds.length/\∀g1 i,QF g1 d=some (b,ds)->src.at' g1 i=some ds[i]?:=by
 cases d with
 |tup es=>cases h;exact⟨_,rfl,rfl,λ_ _ _=>rfl⟩|fl es=>cases h;exact⟨_,rfl,rfl,λ_ _ _=>rfl⟩|ref n=>
  unfold QF at h;dsimp only at h;cases hg:g[n]? with
  |none=>rw[hg]at h;cases h|some o=>
   rw[hg]at h;cases o with
   |lst es=>
    cases h;refine⟨_,by unfold JY;dsimp only;rw[hg],rfl,λg1 i h1=>?_⟩;unfold QF at h1;dsimp only at h1 ⊢;cases hg1:g1[n]? with
    |none=>rw[hg1]at h1;cases h1|some o1=>
     rw[hg1]at h1;cases o1 with
     |lst es1=>cases h1;rfl|_=>cases h1
   |_=>cases h
 |_=>cases h
theorem QkA{src:Src}{ds:List D}{e:ME}{no:Nat}{σ:S3}{g:G}{f:D->D}(ht:src.top=ds.length)(hs:∀g1 i,Keeps [] g g1->src.at' g1 i=some ds[i]?)(he:∀d∈ds,∀g1,Keeps [] g g1->∃g2,e ((List.replicate (no+1) none++σ).set 0 (some d)) g1=.ok (f d) g2/\Keeps [] g1 g2):
  ∃g',Ji src (gSet 0) Qam e (src.top+1) 0 (List.replicate (no+1) none++σ) g []=.ok (ds.map f) g'/\Keeps [] g g':=by
 obtain⟨xs,σ',g',h1,h2,h3,h4⟩:=YX (src:=src) (t:=gSet 0) (c:=Qam) (e:=e) (n:=ds.length)
  (λi σ' g1 acc=>acc=(ds.take i).map f/\Keeps [] g g1/\∃u,σ'=(List.replicate (no+1) none++σ).set 0 u) (λi σ' g1 acc hi h=>by
   obtain⟨h1,h2,u,h3⟩:=h;obtain⟨g2,k1,k2⟩:=he ds[i] (TN hi) g1 h2;refine⟨ds[i],_,g1,by rw[hs g1 i h2];simp[hi],rfl,.inl ⟨f ds[i],g2,rfl,?_,?_,h2.trans k2,some ds[i],?_⟩⟩
   ·subst h3;rw[Rs];exact k1
   ·rw[h1,Tk hi,U4];rfl
   ·subst h3;rw[Rs]) (λσ g1 acc h=>by rw[hs g1 _ h.2.1];simp) (src.top+1) 0 (List.replicate (no+1) none++σ) g [] (by omega) (by omega) ⟨by simp,.refl,none,by simp[Rq]⟩
 refine⟨g',?_,h3⟩;rw[h1,h2,Rw]
def rowsOf(g:G)(d:D)(rows:List (List D)):Prop:=∃b ds,QF g d=some (b,ds)/\ds.length=rows.length/\∀(i:Nat) x r,ds[i]?=some x->rows[i]?=some r->∃c,QF g x=some (c,r)
theorem rowsOf.mono(k:Keeps [] g g1)(h:rowsOf g d rows):rowsOf g1 d rows:=by obtain⟨b,ds,h1,h2,h3⟩:=h;exact⟨b,ds,k.seq h1,h2,λi x r hx hr=>let ⟨c,q⟩:=h3 i x r hx hr;⟨c,k.seq q⟩⟩
theorem Qi5(h:QF g d=some (b,ds)):Qan d g=.ok (.tup ds) g:=by
 cases d with
 |tup es=>cases h;rfl|fl es=>cases h;rfl|ref n=>
  unfold QF at h;dsimp only at h;cases hg:g[n]? with
  |none=>rw[hg]at h;cases h|some o=>
   rw[hg]at h;cases o with
   |lst es=>cases h;simp[Qan,hg]|_=>cases h
 |_=>cases h
def Qac(rows:List (List D)):GO:=.ins 11 [(Str.ofString "table",.tup (rows.map .tup))]
theorem Qm0(m:Nat)(d:D)(rows:List (List D))(g:G)(hm:g[m]?=some (.ins 11 []))(hr:rowsOf g d rows)(hz:∀r∈rows,r.length<=SZ)(hl:rows.length<=SZ)(h:∀r∈rows,∀d∈r,thingD g d):
  ∃g',Keeps [] g g'/\Zo [.ref m,d] g=if QaB rows=true then .ok .non (g'.set m (Qac rows)) else .stuck:=by
 obtain⟨b,ds,h1,h2,h3⟩:=hr;obtain⟨src,s1,s2,s3⟩:=QoY h1;have mp:∀x∈ds,∃c r,QF g x=some (c,r):=λx hx=>by obtain⟨i,hi,rfl⟩:=RM hx;obtain⟨c,q⟩:=h3 i ds[i] (rows[i]'(by omega)) (by simp[hi]) (by simp[show i<rows.length by omega]);exact⟨c,_,q⟩
 obtain⟨g1,c1,k1⟩:=QkA (src:=src) (ds:=ds) (e:=mOp1 Qan (mVar 0)) (no:=0) (σ:=[]) (g:=g) (f:=λx=>.tup (((QF g x).map (·.2)).getD [])) s2 (λg1 i k=>s3 g1 i (k.seq h1)) (λx hx g1 k=>by obtain⟨c,r,q⟩:=mp x hx;refine⟨g1,?_,.refl⟩;simp[mOp1,mVar,Res.bind,Qi5 (k.seq q),q]);have em:(ds.map λx=>D.tup (((QF g x).map (·.2)).getD []))=rows.map .tup:=by
  apply List.ext_getElem
  ·simp[h2]
  ·intro i hi hi';simp only[Ud]at hi hi';obtain⟨c,q⟩:=h3 i ds[i] rows[i] (by simp[hi]) (by simp[hi']);simp[q]
 rw[em]at c1;have c1:Ji src (gSet 0) Qam (mOp1 Qan (mVar 0)) (src.top+1) 0 [none] g []=.ok (rows.map .tup) g1:=c1;have k2:Keeps [] g (g1++[.lst (rows.map .tup)]):=k1.trans (.push _);obtain⟨g3,k3,c3⟩:=QdF rows (g1++[.lst (rows.map .tup)]) hz λr hr d hd=>(h r hr d hd).mono k2;refine⟨g3,k2.trans k3,?_⟩;have hz2:src.top<=SZ:=by omega
 have hm3:=(k2.trans k3).at' m _ (by simp) hm;simp[Zo,mDef,J4,mSeq,mAsg,mOp1,J8,QR,mVar,Res.bind,s1,hz2,capt,c1,Qan,gSet,Yb,Qr,Qa,mNil,c3];by_cases hg:QaB rows=true
 ·simp[hg,Q4,mVar,hm3,putG,Qac]
 ·simp[hg]
theorem Qm1(d:D)(rows:List (List D))(g:G)(hr:rowsOf g d rows)(hz:∀r∈rows,r.length<=SZ)(hl:rows.length<=SZ)(h:∀r∈rows,∀d∈r,thingD g d)(a:MA)(σ:S3)(g0:G)(ha:a σ g0=.ok [d] g):
  ∃g',Keeps [] g g'/\QaO 11 Zo a σ g0=(if QaB rows=true then .ok (.ref g.length) g' else .stuck)/\(QaB rows=true->g'[g.length]?=some (Qac rows)):=by
 have kp:Keeps [] g (g++[.ins 11 []]):=.push _;obtain⟨g',k',e'⟩:=Qm0 g.length d rows (g++[.ins 11 []]) (QC _) (hr.mono kp) hz hl λr hr d hd=>(h r hr d hd).mono kp;by_cases hg:QaB rows=true
 ·rw[Ue hg]at e';refine⟨g'.set g.length (Qac rows),?_,?_,λ_=>?_⟩
  ·refine⟨by rw[UK];exact Uk kp.len k'.len,λn o _ e=>?_⟩;have hn:n<g.length:=QE e;rw[Uh (by omega)];exact(kp.trans k').at' n o (by simp) e
  ·simp[QaO,ha,Res.bind,e',hg]
  ·rw[UP];have:=k'.len;simp at this;omega
 ·rw[Uf hg]at e';exact⟨g',kp.trans k',by simp[QaO,ha,Res.bind,e',hg],λz=>absurd z hg⟩
end L3
namespace L3
open PySem
theorem Yy(h:a σ g=.nx σ' g'):mSeq a b σ g=b σ' g':=by unfold mSeq;rw[h]
theorem YY(h:a σ g=.rt d g'):mSeq a b σ g=.rt d g':=by unfold mSeq;rw[h]
theorem Qi6(h:a σ g=.raise x σ' g'):mSeq a b σ g=.raise x σ' g':=by unfold mSeq;rw[h]
theorem Qv(h:a σ g=.ok d g'):mAsg (gSet i) a σ g=.nx (σ.set i (some d)) g':=by unfold mAsg;rw[h];rfl
theorem QdG(h:c σ g=.ok true g'):mIf c a b σ g=a σ g':=by unfold mIf;rw[h];rfl
theorem Qez(h:c σ g=.ok false g'):mIf c a b σ g=b σ g':=by unfold mIf;rw[h];rfl
theorem Qw(h:a σ g=.ok ds g'):Qr f a σ g=f ds g':=by unfold Qr;rw[h];rfl
theorem Z7(h:a σ g=.ok d g'):Yb a σ g=.nx σ g':=by unfold Yb;rw[h]
theorem Q6(h:a σ g=.ok d g'):mRet a σ g=.rt d g':=by unfold mRet;rw[h]
theorem QT(hl:ds.length=k)(h:b (ds.map some++List.replicate n none) g=.rt d g'):mDef k n b ds g=.ok d g':=by unfold mDef;rw[Ue hl,h]
theorem QoZ(ns:List Int)(i:Int)(h:0<ns.length):∃x,atD (ns.map D.int) (i%ns.length)=some (.int x):=by
 have h1:0<=i % (ns.length:Int):=TJ _ (by omega);have h2:i % (ns.length:Int)<ns.length:=Te _ (by omega);have h3:(i % (ns.length:Int)).toNat<ns.length:=by omega
 refine⟨ns[(i % (ns.length:Int)).toNat],?_⟩;unfold atD ixD;rw[Ud,Ue h1,Ue h2];simp[h3]
theorem ix0(h:g[a]?=some (.lst [d])):pIx (.ref a) (.int 0) g=.ok d g:=by unfold pIx;dsimp only;rw[h];rfl
theorem ixfl(h:atD ds i=some d):pIx (.fl ds) (.int i) g=.ok d g:=by unfold pIx;dsimp only;rw[h]
theorem Qi7(c:Int)(x:D)(a:Nat)(k:Int)(g:G)(ga:g[a]?=some (.lst [.int k]))(hk:0<=k)(hk2:k<1000000001):∃m,0<=m/\m<1999999973/\(mSeq (mAsg (gSet 3) (mOp2 pMod (mOp2 pMul (mOp2 pAdd (mOp2 pAdd (mOp2 pMod (mVar 2) (mI 2147483647)) (mOp2 pMul (mOp2 pMul (mOp2 pIx (mVar 1) (mI 0)) (mOp2 pIx (mVar 1) (mI 0))) (mI 7919))) (mI 11)) (mI 48271)) (mI 2147483647)))
      (mRet (mOp2 pMod (mOp2 pMul (mVar 3) (mVar 3)) (mI 1999999973)))) [some x,some (.ref a),some (.int c),none] g=.rt (.int m) g:=by
  have c1:cM k:=⟨by omega,by omega⟩;have c2:cM 7919:=⟨by decide,by decide⟩;have c3:cM 48271:=⟨by decide,by decide⟩;have hr:=Te ((c%2147483647+k*k*7919+11)*48271) (show(0:Int)<2147483647 by decide);have hr0:=TJ ((c%2147483647+k*k*7919+11)*48271) (show(2147483647:Int)≠0 by decide);have c4:cM (((c%2147483647+k*k*7919+11)*48271) % 2147483647):=⟨by omega,by omega⟩;refine⟨((c%2147483647+k*k*7919+11)*48271) % 2147483647*(((c%2147483647+k*k*7919+11)*48271) % 2147483647) % 1999999973,TJ _ (by decide),Te _ (by decide),?_⟩;have e1:(mOp2 pMod (mOp2 pMul (mOp2 pAdd (mOp2 pAdd (mOp2 pMod (mVar 2) (mI 2147483647)) (mOp2 pMul (mOp2 pMul (mOp2 pIx (mVar 1) (mI 0)) (mOp2 pIx (mVar 1) (mI 0))) (mI 7919))) (mI 11)) (mI 48271)) (mI 2147483647)) [some x,some (.ref a),some (.int c),none] g=.ok (.int (((c%2147483647+k*k*7919+11)*48271) % 2147483647)) g:=by simp[mOp2,mVar,mLit,Res.bind,ix0 ga,pMod,pMul,pAdd,c1,c2,c3]
  rw[Yy (Qv e1)];generalize ((c%2147483647+k*k*7919+11)*48271) % 2147483647=r at c4 ⊢;refine Q6 ?_;simp[mOp2,mVar,mLit,Res.bind,pMod,pMul,c4]
theorem Qi8(ns:List Int)(a:Nat)(k:Int)(g:G)(hg:g[a]?=some (.lst [.int k]))(hk:0<=k)(hk2:k<1000000000):
  ∃m,0<=m/\m<1999999973/\Qaz [.fl (ns.map .int),.ref a] g=.ok (.int m) (g.set a (.lst [.int (k+1)])):=by
 have s1:Qek (mVar 1) (mI 0) (mOp2 pAdd (mOp2 pIx (mVar 1) (mI 0)) (mI 1)) [some (.fl (ns.map .int)),some (.ref a),none,none] g=.nx [some (.fl (ns.map .int)),some (.ref a),none,none] (g.set a (.lst [.int (k+1)])):=by simp[Qek,mOp2,mVar,mLit,Res.bind,ix0 hg,pAdd,hg,ixD]
 have ga:(g.set a (.lst [.int (k+1)]))[a]?=some (.lst [.int (k+1)]):=Z6 hg;generalize g.set a (.lst [.int (k+1)])=g1 at s1 ga ⊢;have s2:mAsg (gSet 2) (mI 0) [some (.fl (ns.map .int)),some (.ref a),none,none] g1=.nx [some (.fl (ns.map .int)),some (.ref a),some (.int 0),none] g1:=rfl;have s3:∃c,mIf (Qj (mOp2 pGt (mOp1 pLen (mVar 0)) (mI 0))) (mAsg (gSet 2) (mOp2 pIx (mVar 0) (mOp2 pMod (mOp2 pIx (mVar 1) (mI 0)) (mOp1 pLen (mVar 0))))) QV [some (.fl (ns.map .int)),some (.ref a),some (.int 0),none] g1=.nx [some (.fl (ns.map .int)),some (.ref a),some (.int c),none] g1:=by
  by_cases hl:0<ns.length
  ·obtain⟨x,hx⟩:=QoZ ns (k+1) hl;have hl':(0:Int)<(ns.length:Int):=by omega
   refine⟨x,?_⟩;rw[QdG (g':=g1) (by simp[Qj,mOp2,mOp1,mVar,mLit,Res.bind,pLen,pGt,pCmp,hl])];refine Qv ?_;simp only[mOp2,mOp1,mVar,mLit,Res.bind,Rj,Rl,ix0 ga,pLen,pMod,Ud,hl',Wk,ixfl hx]
  ·cases ns with
   |nil=>exact⟨0,rfl⟩|cons x r=>simp at hl
 obtain⟨c,s3⟩:=s3;obtain⟨m,m1,m2,m3⟩:=Qi7 c (.fl (ns.map .int)) a (k+1) g1 ga (by omega) (by omega);refine⟨m,m1,m2,QT rfl ?_⟩;show QdD [some (.fl (ns.map .int)),some (.ref a),none,none] g=_;unfold QdD;rw[Yy s1,Yy s2,Yy s3,m3]
end L3
namespace L3
open PySem
def entOk(d:D)(n m:Nat):Prop:=d=.non\/∃(i j:Int)(w:Str),d=.tup [.int i,.str w,.int j]/\0<=i/\i<m/\0<=j/\j<n/\(w=⟨#[108]⟩\/w=⟨#[114]⟩)
theorem entOk.ent(h:entOk d n m):entD d n m=true:=by
 rcases h with rfl|⟨i,j,w,rfl,h1,h2,h3,h4,h5⟩
 ·rfl
 ·rcases h5 with rfl|rfl<;>simp[entD,QaA,wayD,h1,h2,h3,h4]
theorem entOk.thing(h:entOk d n m):thingD g d:=by
 rcases h with h|⟨i,j,w,h,_⟩
 ·exact .inl h
 ·exact .inr ⟨i,j,w,h⟩
theorem s_lr:Str.ofString "lr"=⟨#[108,114]⟩:=by decide +kernel
theorem QpX(i:Int)(g:G):∃w,pIx (.str "lr") (.int (i%2)) g=.ok (.str w) g/\(w=⟨#[108]⟩\/w=⟨#[114]⟩):=by
 rw[s_lr];rcases(by omega:i%2=0\/i%2=1) with e|e
 ·rw[e];exact⟨_,rfl,.inl rfl⟩
 ·rw[e];exact⟨_,rfl,.inr rfl⟩
theorem Qb5(hi:σ[i]?=some (some (.ref n)))(hj:σ[j]?=some (some y))(h:g[n]?=some (.lst ds))(hz:ds.length<SZ):
  Yb (Yo (mVar i) (mVar j)) σ g=.nx σ (g.set n (.lst (ds++[y]))):=by
 refine Z7 (d:=.non) ?_;simp[Yo,mVar,hi,hj,Res.bind,h,hz]
theorem Qi9(ns:List Int)(a l t:Nat)(k:Int)(n m:Nat)(x5 x7 x8 x9:Option D)(row:List D)(g:G)(hn:0<n)(hm:0<m)(ga:g[a]?=some (.lst [.int k]))(gl:g[l]?=some (.lst row))(hal:a≠l)(hk:0<=k)(hk2:k<1000000000)(hz:row.length<SZ):
  ∃d x8',entOk d n m/\Q9 [some (.fl (ns.map .int)),some (.ref a),some (.int n),some (.int m),some (.ref t),x5,some (.ref l),x7,x8,x9] g=.nx [some (.fl (ns.map .int)),some (.ref a),some (.int n),some (.int m),some (.ref t),x5,some (.ref l),x7,x8',some d] ((g.set a (.lst [.int (k+1)])).set l (.lst (row++[d]))):=by
 obtain⟨mm,m1,m2,e⟩:=Qi8 ns a k g ga hk hk2;have gl1:(g.set a (.lst [.int (k+1)]))[l]?=some (.lst row):=by rw[Uh hal];exact gl
 generalize g.set a (.lst [.int (k+1)])=g1 at e gl1 ⊢;obtain⟨w,hw,ww⟩:=QpX (mm/100) g1;have hm':(0:Int)<m:=by omega
 have hn':(0:Int)<n:=by omega
 have s1:mAsg (gSet 8) (Qr Qaz (Qa (mVar 0) (Qa (mVar 1) mNil))) [some (.fl (ns.map .int)),some (.ref a),some (.int n),some (.int m),some (.ref t),x5,some (.ref l),x7,x8,x9] g=.nx [some (.fl (ns.map .int)),some (.ref a),some (.int n),some (.int m),some (.ref t),x5,some (.ref l),x7,some (.int mm),x9] g1:=Qv (by rw[Qw (ds:=[.fl (ns.map .int),.ref a]) (g':=g) rfl];exact e)
 have v2:(mOpA pTup (Qa (mOp2 pMod (mOp2 Ye (mVar 8) (mI 9)) (mVar 3)) (Qa (mOp2 pIx (mLit (.str "lr")) (mOp2 pMod (mOp2 Ye (mVar 8) (mI 100)) (mI 2))) (Qa (mOp2 pMod (mOp2 Ye (mVar 8) (mI 300)) (mVar 2)) mNil)))) [some (.fl (ns.map .int)),some (.ref a),some (.int n),some (.int m),some (.ref t),x5,some (.ref l),x7,some (.int mm),x9] g1=.ok (.tup [.int (mm/9%m),.str w,.int (mm/300%n)]) g1:=by simp[mOpA,Qa,mNil,mOp2,mVar,mLit,Res.bind,Ye,pMod,hm',hn',hw,pTup,SZ,hm,hn]
 have s2:mAsg (gSet 9) (mOpA pTup (Qa (mOp2 pMod (mOp2 Ye (mVar 8) (mI 9)) (mVar 3)) (Qa (mOp2 pIx (mLit (.str "lr")) (mOp2 pMod (mOp2 Ye (mVar 8) (mI 100)) (mI 2))) (Qa (mOp2 pMod (mOp2 Ye (mVar 8) (mI 300)) (mVar 2)) mNil)))) [some (.fl (ns.map .int)),some (.ref a),some (.int n),some (.int m),some (.ref t),x5,some (.ref l),x7,some (.int mm),x9] g1=.nx [some (.fl (ns.map .int)),some (.ref a),some (.int n),some (.int m),some (.ref t),x5,some (.ref l),x7,some (.int mm),some (.tup [.int (mm/9%m),.str w,.int (mm/300%n)])] g1:=Qv v2;have t3:Qj (mOp2 pEq (mOp2 pMod (mVar 8) (mI 9)) (mI 0)) [some (.fl (ns.map .int)),some (.ref a),some (.int n),some (.int m),some (.ref t),x5,some (.ref l),x7,some (.int mm),some (.tup [.int (mm/9%m),.str w,.int (mm/300%n)])] g1=.ok (mm%9==0) g1:=by simp[Qj,mOp2,mVar,mLit,Res.bind,pMod,eq_int]
 unfold Q9;by_cases h9:mm%9=0
 ·refine⟨.non,some (.int mm),.inl rfl,?_⟩;rw[Yy s1,Yy s2,Yy (σ':=[some (.fl (ns.map .int)),some (.ref a),some (.int n),some (.int m),some (.ref t),x5,some (.ref l),x7,some (.int mm),some .non]) (g':=g1) ?_]
  ·exact Qb5 rfl rfl gl1 hz
  ·rw[QdG (g':=g1) (t3.trans (by simp[h9]))];rfl
 ·refine⟨.tup [.int (mm/9%m),.str w,.int (mm/300%n)],some (.int mm),.inr ⟨_,_,w,rfl,TJ _ (by omega),Te _ hm',TJ _ (by omega),Te _ hn',ww⟩,?_⟩;rw[Yy s1,Yy s2,Yy (σ':=[some (.fl (ns.map .int)),some (.ref a),some (.int n),some (.int m),some (.ref t),x5,some (.ref l),x7,some (.int mm),some (.tup [.int (mm/9%m),.str w,.int (mm/300%n)])]) (g':=g1) ?_]
  ·exact Qb5 rfl rfl gl1 hz
  ·rw[Qez (g':=g1) (t3.trans (by simp[h9]))];rfl
end L3
namespace L3
open PySem
theorem Qhb(h:n<=1000):n<SZ:=Nat.lt_of_le_of_lt h (by decide)
theorem Qja{n:Nat}(h:n<=1000):inR (n:Int):=by
 have:(n:Int)<=1000:=by exact_mod_cast h
 constructor<;>omega
theorem Qb6{a:ME}{n:Nat}{σ:S3}{g g':G}(h:a σ g=.ok (.int n) g')(hr:inR (n:Int)):ZH a σ g=.ok (Yd 0 n) g':=by unfold ZH;rw[h,Res.bind_ok];dsimp only;rw[Ue hr,Wd]
theorem Qb7(h:it σ g=.ok src g'):mFor it t body σ g=forL src t body (src.top+1) 0 σ g':=by unfold mFor;rw[h]
theorem QkB(ns:List Int)(a l t:Nat)(k:Int)(n m:Nat)(x5 x7 x8 x9:Option D)(g:G)(hn:0<n)(hm:0<m)(hm8:m<=8)(ga:g[a]?=some (.lst [.int k]))(gl:g[l]?=some (.lst []))(hal:a≠l)(hk:0<=k)(hk2:k+m<1000000000):
  ∃row y7 y8 y9 g',mFor (ZH (mVar 3)) (gSet 7) Q9 [some (.fl (ns.map .int)),some (.ref a),some (.int n),some (.int m),some (.ref t),x5,some (.ref l),x7,x8,x9] g=.nx [some (.fl (ns.map .int)),some (.ref a),some (.int n),some (.int m),some (.ref t),x5,some (.ref l),y7,y8,y9] g'/\row.length=m/\(∀d∈row,entOk d n m)/\Keeps [a,l] g g'/\g'[a]?=some (.lst [.int (k+m)])/\g'[l]?=some (.lst row):=by
 have hr:inR (m:Int):=Qja (by omega);have hf:mFor (ZH (mVar 3)) (gSet 7) Q9 [some (.fl (ns.map .int)),some (.ref a),some (.int n),some (.int m),some (.ref t),x5,some (.ref l),x7,x8,x9] g=forL (Yd 0 m) (gSet 7) Q9 (m+1) 0 [some (.fl (ns.map .int)),some (.ref a),some (.int n),some (.int m),some (.ref t),x5,some (.ref l),x7,x8,x9] g:=Qb7 (Qb6 rfl hr);rw[hf];obtain⟨σ',g',e,row,y7,y8,y9,h1,h2,h3,h4,h5,h6⟩:=Qb3 (t:=gSet 7) (body:=Q9) (lo:=0) (n:=m) (σ:=[some (.fl (ns.map .int)),some (.ref a),some (.int n),some (.int m),some (.ref t),x5,some (.ref l),x7,x8,x9]) (g:=g)
  (λi σ g1=>∃row y7 y8 y9,σ=[some (.fl (ns.map .int)),some (.ref a),some (.int n),some (.int m),some (.ref t),x5,some (.ref l),y7,y8,y9]/\row.length=i/\(∀d∈row,entOk d n m)/\Keeps [a,l] g g1/\g1[a]?=some (.lst [.int (k+i)])/\g1[l]?=some (.lst row))
  ⟨[],x7,x8,x9,rfl,rfl,by simp,.refl,by simpa using ga,gl⟩ (λi σ g1 hi ⟨row,y7,y8,y9,h1,h2,h3,h4,h5,h6⟩=>by
   subst h1;obtain⟨d,x8',hd,e⟩:=Qi9 ns a l t (k+i) n m x5 (some (.int (0+i))) y8 y9 row g1 hn hm h5 h6 hal (by omega) (by omega) (Qhb (by omega));refine⟨_,_,_,rfl,e,row++[d],_,x8',_,rfl,by simp[h2],?_,?_,?_,?_⟩
   ·intro x hx;rcases Uu.mp hx with z|z
    ·exact h3 x z
    ·rw[Uj.mp z];exact hd
   ·exact h4.trans (((Keeps.set a _).mono (by simp)).trans ((Keeps.set l _).mono (by simp)))
   ·rw[Uh (Ne.symm hal),Z6 h5];simp;omega
   ·refine Z6 (o:=.lst row) ?_;rw[Uh hal];exact h6)
 exact⟨row,y7,y8,y9,g',by rw[e,h1],h2,h3,h4,h5,h6⟩
end L3
namespace L3
open PySem
theorem om1{a b c:Nat}(h1:a<b)(h2:b<c):a≠c:=by omega
theorem om2{k x:Int}(h1:0<=k)(h2:0<=x):0<=k+x:=by omega
theorem om3{k x:Int}{m:Nat}(h1:k<900000000)(h2:x<=96)(h3:m<=8):k+x+m<1000000000:=by omega
theorem om7{a b c:Nat}{ds:List D}(h2:ds.length=a)(hi:a<b)(h3:b<=12):ds.length<=1000:=by omega
def tabOf(N:Nat)(g:G)(t:Nat)(rows:List (List D)):Prop:=N<=t/\∃ds,g[t]?=some (.lst ds)/\ds.length=rows.length/\∀(i:Nat) x r,ds[i]?=some x->rows[i]?=some r->∃n,x=.ref n/\N<=n/\n≠t/\g[n]?=some (.lst r)
theorem tabOf.rows{N:Nat}{g:G}{t:Nat}{rows:List (List D)}(h:tabOf N g t rows):rowsOf g (.ref t) rows:=by obtain⟨_,ds,h1,h2,h3⟩:=h;refine⟨true,ds,by simp[QF,h1],h2,λi x r hx hr=>?_⟩;obtain⟨n,rfl,_,_,h4⟩:=h3 i x r hx hr;exact⟨true,by simp[QF,h4]⟩
theorem tabOf.mono{N:Nat}{S:List Nat}{g g1:G}{t:Nat}{rows:List (List D)}(h:tabOf N g t rows)(k:Keeps S g g1)(hS:∀n∈S,n<N):tabOf N g1 t rows:=by obtain⟨h0,ds,h1,h2,h3⟩:=h;refine⟨h0,ds,k.at' t _ (λz=>by have:=hS t z;omega) h1,h2,λi x r hx hr=>?_⟩;obtain⟨n,h4,h5,h6,h7⟩:=h3 i x r hx hr;exact⟨n,h4,h5,h6,k.at' n _ (λz=>by have:=hS n z;omega) h7⟩
theorem QkC(ns:List Int)(a:Nat)(k:Int)(n m:Nat)(g:G)(hn:0<n)(hm:0<m)(hn12:n<=12)(hm8:m<=8)(ga:g[a]?=some (.lst [.int k]))(hk:0<=k)(hk2:k<900000000):
  ∃rows g',Qb1 [.fl (ns.map .int),.ref a,.int n,.int m] g=.ok (.ref g.length) g'/\Keeps [a] g g'/\g'[a]?=some (.lst [.int (k+n*m)])/\tabOf g.length g' g.length rows/\rows.length=n/\(∀r∈rows,r.length=m)/\∀r∈rows,∀d∈r,entOk d n m:=by
 have hr:inR (n:Int):=Qja (by omega);have hal:a<g.length:=QE ga;have hz0:([]:List D).length<=SZ:=by simp
 have s1:mAsg (gSet 4) (mOpA newL mNil) [some (.fl (ns.map .int)),some (.ref a),some (.int n),some (.int m),none,none,none,none,none,none] g=.nx [some (.fl (ns.map .int)),some (.ref a),some (.int n),some (.int m),some (.ref g.length),none,none,none,none,none] (g++[.lst []]):=Qv (by simp[mOpA,mNil,Res.bind,newL])
 have kp:Keeps [a] g (g++[.lst []]):=.push _;have ga1:(g++[.lst []])[a]?=some (.lst [.int k]):=(Keeps.push (S:=[]) (.lst [])).at' a _ (by simp) ga;have gt1:(g++[.lst []])[g.length]?=some (.lst []):=QC _;have hl1:g.length<(g++[GO.lst []]).length:=by simp
 generalize g++[.lst []]=g1 at s1 kp ga1 gt1 hl1;obtain⟨σ',g',e,ds,rows,y5,y6,y7,y8,y9,h1,h2,h3,h4,h5,h6,h7,h8,h9⟩:=Qb3 (t:=gSet 5) (body:=YF) (lo:=0) (n:=n) (σ:=[some (.fl (ns.map .int)),some (.ref a),some (.int n),some (.int m),some (.ref g.length),none,none,none,none,none]) (g:=g1)
  (λi σ g2=>∃ds rows y5 y6 y7 y8 y9,σ=[some (.fl (ns.map .int)),some (.ref a),some (.int n),some (.int m),some (.ref g.length),y5,y6,y7,y8,y9]/\ds.length=i/\rows.length=i/\Keeps [a,g.length] g1 g2/\g2[a]?=some (.lst [.int (k+i*m)])/\g2[g.length]?=some (.lst ds)/\(∀(i:Nat) x r,ds[i]?=some x->rows[i]?=some r->∃n,x=.ref n/\g.length<n/\g2[n]?=some (.lst r))/\(∀r∈rows,r.length=m)/\∀r∈rows,∀d∈r,entOk d n m)
  ⟨[],[],none,none,none,none,none,rfl,rfl,rfl,.refl,by simpa using ga1,gt1,by simp,by simp,by simp⟩ (λi σ g2 hi ⟨ds,rows,y5,y6,y7,y8,y9,h1,h2,h3,h4,h5,h6,h7,h8,h9⟩=>by
   subst h1;have hl2:g.length<g2.length:=QE h6;have q1:mAsg (gSet 6) (mOpA newL mNil) [some (.fl (ns.map .int)),some (.ref a),some (.int n),some (.int m),some (.ref g.length),some (.int (0+i)),y6,y7,y8,y9] g2=.nx [some (.fl (ns.map .int)),some (.ref a),some (.int n),some (.int m),some (.ref g.length),some (.int (0+i)),some (.ref g2.length),y7,y8,y9] (g2++[.lst []]):=Qv (by simp[mOpA,mNil,Res.bind,newL])
   have k3:Keeps [] g2 (g2++[.lst []]):=.push _;have gl3:(g2++[.lst []])[g2.length]?=some (.lst []):=QC _;generalize g2++[.lst []]=g3 at q1 k3 gl3;have him:(i:Int)*m<=96:=by
    have:i*m<=12*8:=Nat.mul_le_mul (by omega) hm8
    exact_mod_cast this
   have him0:(0:Int)<=(i:Int)*m:=Int.mul_nonneg (by omega) (by omega);obtain⟨row,z7,z8,z9,g4,e4,r1,r2,r3,r4,r5⟩:=QkB ns a g2.length g.length (k+i*m) n m (some (.int (0+i))) y7 y8 y9 g3 hn hm hm8 (k3.at' a _ (by simp) h5) gl3 (om1 hal hl2) (om2 hk him0) (om3 hk2 him hm8);have gt4:g4[g.length]?=some (.lst ds):=r3.at' _ _ (by simp;omega) (k3.at' _ _ (by simp) h6);refine⟨_,[some (.fl (ns.map .int)),some (.ref a),some (.int n),some (.int m),some (.ref g.length),some (.int (0+i)),some (.ref g2.length),z7,z8,z9],g4.set g.length (.lst (ds++[.ref g2.length])),rfl,?_,ds++[.ref g2.length],rows++[row],_,_,z7,z8,z9,rfl,by simp[h2],by simp[h3],?_,?_,?_,?_,?_,?_⟩
   ·show YF [some (.fl (ns.map .int)),some (.ref a),some (.int n),some (.int m),some (.ref g.length),some (.int (0+i)),y6,y7,y8,y9] g2=_;unfold YF;rw[Yy q1,Yy e4];exact Qb5 rfl rfl gt4 (Qhb (om7 (c:=0) h2 hi hn12))
   ·refine⟨by rw[UK];exact Uk h4.len (Uk k3.len r3.len),λb o hb eb=>?_⟩;have hb':b≠a/\b≠g.length:=by simpa using hb
    have e2:=h4.at' b o hb eb;have:b<g2.length:=QE e2;rw[Uh (Ne.symm hb'.2)];exact r3.at' b o (by simp;omega) (k3.at' b o (by simp) e2)
   ·rw[Uh (by omega),r4];have:k+(i:Int)*m+m=k+((i+1:Nat):Int)*m:=by rw[Int.natCast_add,Int.add_mul];simp;omega
    rw[this]
   ·exact Z6 gt4
   ·intro j x r hx hr';have key:∀b o,g.length<b->g2[b]?=some o->(g4.set g.length (.lst (ds++[.ref g2.length])))[b]?=some o:=λb o hb eb=>by have:b<g2.length:=QE eb;rw[Uh (by omega)];exact r3.at' b o (by simp;omega) (k3.at' b o (by simp) eb)
    by_cases hj:j<i
    ·rw[Ul (by omega)]at hx hr';obtain⟨b,hb1,hb2,hb3⟩:=h7 j x r hx hr';exact⟨b,hb1,hb2,key b _ hb2 hb3⟩
    ·have hji:j=i:=by have:=(Um.mp hx).1;simp at this;omega
     subst hji;rw[UE (by omega),h2]at hx;rw[UE (by omega),h3]at hr';simp at hx hr';subst hx hr';exact⟨g2.length,rfl,hl2,by rw[Uh (by omega)];exact r5⟩
   ·intro r hr';rcases Uu.mp hr' with z|z
    ·exact h8 r z
    ·rw[Uj.mp z];exact r1
   ·intro r hr';rcases Uu.mp hr' with z|z
    ·exact h9 r z
    ·rw[Uj.mp z];exact r2)
 refine⟨rows,g',?_,?_,h5,⟨Ug _,ds,h6,by omega,λi x r hx hr'=>?_⟩,h3,h8,h9⟩
 ·refine QT rfl ?_;show Qb0 [some (.fl (ns.map .int)),some (.ref a),some (.int n),some (.int m),none,none,none,none,none,none] g=_;unfold Qb0;rw[Yy s1,Yy (σ':=σ') (g':=g') ?_]
  ·subst h1;rfl
  ·rw[<-e];exact Qb7 (Qb6 rfl hr)
 ·refine⟨Uk kp.len h4.len,λb o hb eb=>?_⟩;have:b<g.length:=QE eb;exact h4.at' b o (by simp at hb ⊢;omega) (kp.at' b o hb eb)
 ·obtain⟨b,hb1,hb2,hb3⟩:=h7 i x r hx hr';exact⟨b,hb1,by omega,by omega,hb3⟩
end L3
namespace L3
open PySem
theorem Qh(σ':S3)(g':G)(h:a σ g=.nx σ' g')(h2:b σ' g'=R):mSeq a b σ g=R:=(Yy h).trans h2
theorem ift(g':G)(h:c σ g=.ok true g')(h2:a σ g'=R):mIf c a b σ g=R:=(QdG h).trans h2
theorem iff'(g':G)(h:c σ g=.ok false g')(h2:b σ g'=R):mIf c a b σ g=R:=(Qez h).trans h2
end L3
namespace L3
open PySem
theorem eq_str(s t:Str)(g:G):pEq (.str s) (.str t) g=.ok (.bl (s==t)) g:=rfl
theorem modP(h:0<j):pMod (.int i) (.int j) g=.ok (.int (i%j)) g:=Ue h
theorem divP(h:0<j)(h2:j<=1000000):Ye (.int i) (.int j) g=.ok (.int (i/j)) g:=Ue ⟨h,by omega⟩
theorem Qb8(hl:ds.length=k)(h:b (ds.map some++List.replicate n none) g=.nx σ g'):mDef k n b ds g=.ok .non g':=by unfold mDef;rw[Ue hl,h]
theorem Qjb(hl:ds.length=k)(h:b (ds.map some++List.replicate n none) g=.raise x σ g'):mDef k n b ds g=.raise x g':=by unfold mDef;rw[Ue hl,h]
theorem Qi(ha:a σ g=.ok x g1)(hb:b σ g1=.ok y g2)(h:f x y g2=R):mOp2 f a b σ g=R:=by unfold mOp2;rw[ha,Res.bind_ok,hb,Res.bind_ok,h]
theorem Ze(ha:a σ g=.ok x g1)(h:f x g1=R):mOp1 f a σ g=R:=by unfold mOp1;rw[ha,Res.bind_ok,h]
theorem Qn(ha:a σ g=.ok (.bl b) g1):Qj a σ g=.ok b g1:=by unfold Qj;rw[ha,Res.bind_ok]
theorem Qf(h:a σ g=.ok x g1)(h2:r σ g1=.ok xs g2):Qa a r σ g=.ok (x::xs) g2:=by unfold Qa;rw[h,Res.bind_ok,h2];rfl
theorem QkD  : (g++[o]).set g.length u=g++[u]:=by simp
theorem entOk.good(hn:0<n)(hm:0<m)(h1:rows.length=n)(h2:∀r∈rows,r.length=m)(h3:∀r∈rows,∀d∈r,entOk d n m):QaB rows=true:=by
 cases rows with
 |nil=>simp at h1;omega|cons q rest =>have hq:=h2 q (UD ..);unfold QaB;rw[UN,U7];refine⟨by simp;intro z;rw[z]at hq;simp at hq;omega,λx hx=>?_⟩;unfold Yx;rw[UN,U7];exact⟨by simp[h2 x hx,hq],λd hd=>by rw[h1,hq];exact(h3 x hx d hd).ent⟩
theorem Qjc(h1:it σ g=.ok src g1)(hz:src.top<=SZ)(hc:capt n cap σ=σ0)(h2:Ji src t c e (src.top+1) 0 σ0 g1 []=.ok ds g2):J8 it n cap t c e σ g=.ok (.ref g2.length) (g2++[.lst ds]):=by simp only[J8,h1,hz,hc,h2,Wk]
theorem Qm2(h1:QF g d1=some (b1,xs))(h2:QF g d2=some (b2,ys))(hl:xs.length=ys.length):
  ∃src,QfW d1 d2 g=.ok src g/\src.top=xs.length/\∀g1,QF g1 d1=some (b1,xs)->QF g1 d2=some (b2,ys)->src.at' g1 xs.length=some none/\∀(i:Nat) x y,xs[i]?=some x->ys[i]?=some y->src.at' g1 i=some (some (.tup [x,y])):=by
 unfold QfW;rw[h1,h2];refine⟨_,rfl,by simp[hl],λg1 q1 q2=>⟨?_,λi x y hx hy=>?_⟩⟩
 ·dsimp only;rw[q1,q2];dsimp only;rw[RE (Ug _)]
 ·dsimp only;rw[q1,q2];dsimp only;rw[hx,hy]
def srcL(a:Nat)(n:Nat):Src:=⟨λg i=>(match g[a]? with|some (.lst es)=>some es[i]? | _=>none),n⟩
end L3
namespace L3
open PySem
theorem QpY(h1:a σ g=.ok false g1)(h2:b σ g1=.ok false g2):mOrT a b σ g=.ok false g2:=by unfold mOrT;rw[h1,Res.bind_ok,Uf Ui,h2]
theorem Qgp{α:Type}{xs:List α}{i:Nat}{z:α}(h:i<xs.length):xs.getD i z=xs[i]:=by rw[List.getD_eq_getElem?_getD,U1 h];rfl
theorem Qo0{t p:Nat}{ds:List D}{d:D}{g:G}(h:g[t]?=some (.lst ds))(hp:ds[p]?=some d):pIx (.ref t) (.int p) g=.ok d g:=by have hl:p<ds.length:=(Um.mp hp).1;unfold pIx;dsimp only;rw[h];dsimp only;unfold atD ixD;rw[Ue (by omega),Ue (by omega)];simp[hp]
theorem QcN{t:Nat}{i:Int}{ds:List D}{d:D}{g:G}(h:g[t]?=some (.lst ds))(h0:0<=i)(hp:ds[i.toNat]?=some d):pIx (.ref t) (.int i) g=.ok d g:=by
 have e:((i.toNat:Nat):Int)=i:=by omega
 rw[<-e];exact Qo0 h hp
theorem Qjd(h:g[l]?=some (.lst ds)):QF g (.ref l)=some (true,ds):=by unfold QF;dsimp only;rw[h]
end L3
namespace L3
open PySem
@[simp] theorem Qp9:mSeq a b σ g=(match a σ g with | .nx σ' g'=>b σ' g'|o=>o):=rfl
@[simp] theorem Qqa  : mAsg (gSet i) a σ g=(match a σ g with | .ok d g'=>.nx (σ.set i (some d)) g' | .raise e g'=>.raise e σ g' | .stuck=>.stuck):=rfl
@[simp] theorem Qqf  : mIf c a b σ g=(match c σ g with | .ok t g'=>if t=true then a σ g' else b σ g' | .raise e g'=>.raise e σ g' | .stuck=>.stuck):=rfl
@[simp] theorem Qqb:mRet a σ g=(match a σ g with | .ok d g'=>.rt d g' | .raise e g'=>.raise e σ g' | .stuck=>.stuck):=rfl
@[simp] theorem Qm3:Yb a σ g=(match a σ g with | .ok _ g'=>.nx σ g' | .raise e g'=>.raise e σ g' | .stuck=>.stuck):=rfl
@[simp] theorem QpZ:Qmm σ g=.rt .non g:=rfl
@[simp] theorem Qp0:QV σ g=.nx σ g:=rfl
@[simp] theorem Qje:mVar i σ g=(match σ[i]? with|some (some d)=>.ok d g|_=>.stuck):=rfl
@[simp] theorem Qjf:mLit d σ g=.ok d g:=rfl
@[simp] theorem Qqc  : mOp1 f a σ g=(match a σ g with | .ok x g1=>f x g1 | .raise e g'=>.raise e g' | .stuck=>.stuck):=by unfold mOp1 Res.bind;cases a σ g<;>rfl
@[simp] theorem Qlz  : mOp2 f a b σ g=(match a σ g with | .ok x g1=>(match b σ g1 with | .ok y g2=>f x y g2 | .raise e g'=>.raise e g' | .stuck=>.stuck) | .raise e g'=>.raise e g' | .stuck=>.stuck):=by unfold mOp2 Res.bind;cases a σ g with|ok x g1=>dsimp only;cases b σ g1<;>rfl|_=>rfl
@[simp] theorem QcO:mNil σ g=.ok [] g:=rfl
@[simp] theorem Qb9  : Qa a r σ g=(match a σ g with | .ok x g1=>(match r σ g1 with | .ok xs g2=>.ok (x::xs) g2 | .raise e g'=>.raise e g' | .stuck=>.stuck) | .raise e g'=>.raise e g' | .stuck=>.stuck):=by unfold Qa Res.bind;cases a σ g with|ok x g1=>dsimp only;cases r σ g1<;>rfl|_=>rfl
@[simp] theorem QaC  : mOpA f a σ g=(match a σ g with | .ok x g1=>f x g1 | .raise e g'=>.raise e g' | .stuck=>.stuck):=by unfold mOpA Res.bind;cases a σ g<;>rfl
@[simp] theorem Qp1  : Qr f a σ g=(match a σ g with | .ok x g1=>f x g1 | .raise e g'=>.raise e g' | .stuck=>.stuck):=by unfold Qr Res.bind;cases a σ g<;>rfl
@[simp] theorem Qp2:Qj a σ g=(match a σ g with | .ok (.bl b) g1=>.ok b g1 | .raise e g'=>.raise e g'|_=>.stuck):=by unfold Qj Res.bind;cases a σ g with|ok d g1=>cases d<;>rfl|_=>rfl
@[simp] theorem Qm4:Qco a b σ g=(match a σ g with | .ok c g1=>if c=true then b σ g1 else .ok false g1 | .raise e g'=>.raise e g' | .stuck=>.stuck):=by unfold Qco Res.bind;cases a σ g<;>rfl
@[simp] theorem Qbc:mOrT a b σ g=(match a σ g with | .ok c g1=>if c=true then .ok true g1 else b σ g1 | .raise e g'=>.raise e g' | .stuck=>.stuck):=by unfold mOrT Res.bind;cases a σ g<;>rfl
@[simp] theorem QaX:Yn a σ g=(match a σ g with | .ok c g1=>.ok (!c) g1 | .raise e g'=>.raise e g' | .stuck=>.stuck):=by unfold Yn Res.bind;cases a σ g<;>rfl
@[simp] theorem QlA  : mIfE c a b σ g=(match c σ g with | .ok t g1=>if t=true then a σ g1 else b σ g1 | .raise e g'=>.raise e g' | .stuck=>.stuck):=by unfold mIfE Res.bind;cases c σ g<;>rfl
@[simp] theorem Qqd:mAnd a b σ g=(match a σ g with | .ok (.bl c) g1=>if c=true then b σ g1 else .ok (.bl false) g1 | .raise e g'=>.raise e g'|_=>.stuck):=by unfold mAnd Res.bind;cases a σ g with|ok d g1=>cases d<;>rfl|_=>rfl
@[simp] theorem QcP:pAdd (.int i) (.int j) g=.ok (.int (i+j)) g:=rfl
@[simp] theorem Qo1:pSub (.int i) (.int j) g=.ok (.int (i-j)) g:=rfl
@[simp] theorem Qo2:pNeg (.int i) g=.ok (.int (-i)) g:=rfl
@[simp] theorem QkE:pLt (.int i) (.int j) g=.ok (.bl (decide (i<j))) g:=rfl
@[simp] theorem Qp3:pLe (.int i) (.int j) g=.ok (.bl (decide (i<=j))) g:=rfl
@[simp] theorem Qm5:pGt (.int i) (.int j) g=.ok (.bl (decide (j<i))) g:=rfl
@[simp] theorem Qqg:pGe (.int i) (.int j) g=.ok (.bl (decide (j<=i))) g:=rfl
@[simp] theorem Qo3:pEq (.int i) (.int j) g=.ok (.bl (i==j)) g:=rfl
@[simp] theorem Qqh:pNe (.int i) (.int j) g=.ok (.bl (!(i==j))) g:=rfl
theorem Qjg(h:g[n]?=some (.lst ds)):pLen (.ref n) g=.ok (.int ds.length) g:=by simp[pLen,h]
theorem ix_tup{ds:List D}{n:Nat}{d:D}(h:ds[n]?=some d):pIx (.tup ds) (.int n) g=.ok d g:=by obtain⟨this,e⟩:=Um.mp h;simp[pIx,atD,ixD,this,e]
@[simp] theorem Qo4{d:D}{ds:List D}:pIx (.tup (d::ds)) (.int 0) g=.ok d g:=ix_tup (n:=0) rfl
@[simp] theorem QlB{c d:D}{ds:List D}:pIx (.tup (c::d::ds)) (.int 1) g=.ok d g:=ix_tup (n:=1) rfl
@[simp] theorem QlC{b c d:D}{ds:List D}:pIx (.tup (b::c::d::ds)) (.int 2) g=.ok d g:=ix_tup (n:=2) rfl
@[simp] theorem Qqe{a b c d:D}{ds:List D}:pIx (.tup (a::b::c::d::ds)) (.int 3) g=.ok d g:=ix_tup (n:=3) rfl
end L3
namespace L3
open PySem
inductive Sm(g:G):Nat->D->D->Prop
 |int (f:Nat) (i:Int):Sm g (f+1) (.int i) (.int i)
 |str (f:Nat) (s:Str):Sm g (f+1) (.str s) (.str s)
 |seq (f:Nat) (x y:D) (b:Bool) (xs ys:List D) (h1:QF g x=some (b,xs)) (h2:QF g y=some (b,ys)) (hl:xs.length=ys.length) (hz:xs.length<=100000) (hi:∀(i:Nat) u v,xs[i]?=some u->ys[i]?=some v->Sm g f u v):Sm g (f+1) x y
theorem Yj(h:QF g x=some p)(k:Keeps [] g g1):QF g1 x=some p:=by
 cases x with
 |ref n=>
  unfold QF at h ⊢;dsimp only at h ⊢;cases hg:g[n]? with
  |none=>rw[hg]at h;cases h|some o =>rw[hg]at h;rw[k.at' _ _ (by simp) hg];exact h
 |_=>exact h
theorem Qgq(h:QF g x=some (b,xs)):tyOf g x=some (if b then .list else .tuple):=by
 cases x with
 |ref n=>
  unfold QF at h;unfold tyOf;dsimp only at h ⊢;cases hg:g[n]? with
  |none=>rw[hg]at h;cases h|some o=>
   rw[hg]at h;cases o with
   |lst ds=>cases h;rfl|_=>cases h
 |tup ds=>cases h;rfl|fl ds=>cases h;rfl|_=>cases h
theorem QkF(s:Str):(s==s)=true:=by simp
theorem Qjh(h:QF g x=some (b,xs)):pLen x g=.ok (.int xs.length) g:=by
 cases x with
 |ref n=>
  unfold QF at h;unfold pLen;dsimp only at h ⊢;cases hg:g[n]? with
  |none=>rw[hg]at h;cases h|some o=>
   rw[hg]at h;cases o with
   |lst ds=>cases h;rfl|_=>cases h
 |tup ds=>cases h;rfl|fl ds=>cases h;rfl|_=>cases h
theorem QeA:∀n:Nat,allB (List.replicate n (.bl true))=some true
 |0=>rfl|n+1=>by rw[Rq];unfold allB;rw[QeA n];rfl
theorem Qfr:∀{f:Nat}{x y:D},Sm g f x y->∀g1,Keeps [] g g1->∃g2,Zv f [x,y] g1=.ok (.bl true) g2/\Keeps [] g1 g2
 |0,_,_,h,_,_=>by cases h
 |f+1,x,y,h,g1,k=>by
  cases h with
  |int _ i=>
   refine⟨g1,QT rfl ?_,.refl⟩;show Ja (Zv f) [some (.int i),some (.int i)] g1=_;unfold Ja;refine Qh [some (.int i),some (.int i)] g1 rfl (Qh [some (.int i),some (.int i)] g1 rfl (Qh [some (.int i),some (.int i)] g1 rfl (Q6 ?_)));have e:pEq (.int i) (.int i) g1=.ok (.bl true) g1:=by rw[eq_int,BL]
   show mOp2 pEq (mVar 0) (mVar 1) [some (.int i),some (.int i)] g1=_;exact Qi (x:=.int i) (y:=.int i) (g1:=g1) (g2:=g1) rfl rfl e
  |str _ s=>
   refine⟨g1,QT rfl ?_,.refl⟩;show Ja (Zv f) [some (.str s),some (.str s)] g1=_;unfold Ja;refine Qh [some (.str s),some (.str s)] g1 rfl (Qh [some (.str s),some (.str s)] g1 rfl (YY (ift g1 rfl (Q6 ?_))));have e:pEq (.str s) (.str s) g1=.ok (.bl true) g1:=by rw[eq_str,QkF]
   show mOp2 pEq (mVar 0) (mVar 1) [some (.str s),some (.str s)] g1=_;exact Qi (x:=.str s) (y:=.str s) (g1:=g1) (g2:=g1) rfl rfl e
  |seq _ _ _ b xs ys h1 h2 hl hz hi=>
   have s1:=Yj h1 k;have s2:=Yj h2 k;obtain⟨src,e1,e2,e3⟩:=Qm2 s1 s2 hl;obtain⟨ds,σ',g2,c1,c2,c3,_⟩:=YX (src:=src) (t:=QgT [gSet 0,gSet 1]) (c:=Qam) (e:=Qr (Zv f) (Qa (mVar 0) (Qa (mVar 1) mNil))) (n:=xs.length)
    (λi σ' g4 acc=>acc=List.replicate i (.bl true)/\Keeps [] g1 g4/\∃u v,σ'=[u,v]) (λi σ' g4 acc hi' hQ=>by
     obtain⟨q1,q2,u,v,q3⟩:=hQ;subst q3;have hy:i<ys.length:=by omega
     obtain⟨g5,a1,a2⟩:=Qfr (hi i xs[i] ys[i] (by simp[hi']) (by simp[hy])) g4 (k.trans q2);refine⟨.tup [xs[i],ys[i]],[some xs[i],some ys[i]],g4,(e3 g4 (Yj s1 q2) (Yj s2 q2)).2 i _ _ (by simp[hi']) (by simp[hy]),rfl,.inl ⟨.bl true,g5,rfl,?_,?_,q2.trans a2,_,_,rfl⟩⟩
     ·rw[Qw (ds:=[xs[i],ys[i]]) (g':=g4) rfl];exact a1
     ·rw[q1,List.replicate_succ']) (λσ g4 acc hQ=>(e3 g4 (Yj s1 hQ.2.1) (Yj s2 hQ.2.1)).1) (src.top+1) 0 [none,none] g1 [] (by omega) (by omega) ⟨rfl,.refl,none,none,rfl⟩
   subst c2;have c4:=Qjc (it:=Qel (mVar 0) (mVar 1)) (n:=2) (cap:=[]) (σ:=[some x,some y]) (t:=QgT [gSet 0,gSet 1]) (c:=Qam) (σ0:=[none,none]) (g:=g1) (by unfold Qel;rw[show mVar 0 [some x,some y] g1=.ok x g1 from rfl,Res.bind_ok,show mVar 1 [some x,some y] g1=.ok y g1 from rfl,Res.bind_ok];exact e1) (by rw[e2];exact Uk hz (by decide)) rfl c1;have kk:Keeps [] g2 (g2++[.lst (List.replicate xs.length (.bl true))]):=.push _;refine⟨_,QT rfl ?_,c3.trans kk⟩;show Ja (Zv f) [some x,some y] g1=_;have ty1:=Qgq s1;have ty2:=Qgq s2;have is0:∀c:Ty,mOp1 (ZX c) (mVar 0) [some x,some y] g1=.ok (.bl (tyLe (if b then .list else .tuple) c)) g1:=λc=>Ze (x:=x) (g1:=g1) rfl (by unfold ZX;rw[ty1]);have is1:∀c:Ty,mOp1 (ZX c) (mVar 1) [some x,some y] g1=.ok (.bl (tyLe (if b then .list else .tuple) c)) g1:=λc=>Ze (x:=y) (g1:=g1) rfl (by unfold ZX;rw[ty2]);have t1:mOrT (Qj (mOp1 (ZX .list) (mVar 1))) (Qj (mOp1 (ZX .tuple) (mVar 1))) [some x,some y] g1=.ok true g1:=by unfold mOrT;rw[Qn (is1 .list),Res.bind_ok,Qn (is1 .tuple)];cases b<;>rfl
   have e5:Qj (mOp2 pNe (mOp1 pLen (mVar 0)) (mOp1 pLen (mVar 1))) [some x,some y] g1=.ok false g1:=Qn (Qi (x:=.int xs.length) (y:=.int ys.length) (g1:=g1) (g2:=g1) (Ze (x:=x) (g1:=g1) rfl (Qjh s1)) (Ze (x:=y) (g1:=g1) rfl (Qjh s2)) (by rw[ne_int,hl,BL];rfl));have an:∀c:Ty,Qco (Qj (mOp1 (ZX c) (mVar 1))) (Yn (Qj (mOp1 (ZX c) (mVar 0)))) [some x,some y] g1=.ok false g1:=λc=>by unfold Qco Yn;rw[Qn (is1 c),Res.bind_ok,Qn (is0 c),Res.bind_ok];cases (tyLe (if b then .list else .tuple) c)<;>rfl
   unfold Ja;have td:Qj (mOp1 (ZX .dict) (mVar 1)) [some x,some y] g1=.ok false g1:=by rw[Qn (is1 .dict)];cases b<;>rfl
   refine Qh [some x,some y] g1 (iff' g1 td rfl) (YY (ift g1 t1 (Qh [some x,some y] g1 (iff' g1 (an .list) rfl) (Qh [some x,some y] g1 (iff' g1 (QpY (an .tuple) e5) rfl) (Q6 ?_)))));refine Ze c4 ?_;unfold pAll;dsimp only;rw[QC];dsimp only;rw[QeA]
theorem QlD(hz:ds.length<=100000)(h:∀u∈ds,Sm g f u u):Sm g (f+1) (.tup ds) (.tup ds):=.seq _ _ _ false ds ds rfl rfl rfl hz (λi u v h1 h2=>by rw[h1]at h2;cases h2;exact h u (Td h1))
theorem Qm6(g:G)(f:Nat){w:List Int}(hz:w.length<=100000):Sm g (f+2) (.tup (w.map .int)) (.tup (w.map .int)):=QlD (by rw[Ud];exact hz) λu hu=>by obtain⟨i,_,rfl⟩:=US.mp hu;exact .int _ _
end L3
namespace L3
open PySem
abbrev vR(n:Nat):Option D:=some (.ref n)
abbrev vI(i:Int):Option D:=some (.int i)
abbrev Ct:=List Int×Int×Int×List Int
def gmD(u:List Int):D:=.tup (u.map .int)
abbrev vM(u:List Int):Option D:=some (gmD u)
def ctD(c:Ct):D:=.tup [gmD c.1,.int c.2.1,.int c.2.2.1,gmD c.2.2.2]
theorem JP:∀u:List Int,rowI (u.map .int)=some u
 |[]=>rfl|x::u=>by show(rowI (u.map .int)).map (x :: ·)=_;rw[JP u];rfl
theorem sk_g(u:List Int):skOf false (gmD u)=some (.inl u):=by show(rowI (u.map .int)).map Sum.inl=_;rw[JP];rfl
theorem sk_c(c:Ct):skOf true (ctD c)=some (.inr c):=by obtain⟨l,p,q,r⟩:=c;show(match rowI (l.map .int),rowI (r.map .int) with|some x,some y=>some (Sum.inr (x,p,q,y))|_,_=>none)=_;rw[JP,JP]
theorem QdH:∀us:List (List Int),YC false (us.map gmD)=some (us.map .inl)
 |[]=>rfl|u::us=>by rw[UO];unfold YC;rw[sk_g,QdH us];rfl
theorem Qji:∀cs:List Ct,YC true (cs.map ctD)=some (cs.map .inr)
 |[]=>rfl|c::cs=>by rw[UO];unfold YC;rw[sk_c,Qji cs];rfl
theorem QkG(ds:List α):cutD ds none (some (-1))=ds.dropLast:=by unfold cutD sIxD;rw[RZ];simp only[Uak,Nat.sub_zero];rw[Ue (by omega)];congr 1;omega
theorem QkH(ds:List α):cutD ds (some 1) none=ds.tail:=by
 cases ds with
 |nil=>rfl|cons d ds=>
  have e:sIxD (d::ds).length 0 (some 1)=1:=by unfold sIxD;dsimp only;rw[Uf (by omega),UH];omega
  unfold cutD;rw[e];show List.take (ds.length+1-1) ds=ds;simp
theorem Qjj(ds:List α):cutD ds none (some ((ds.length:Int) - 1))=ds.dropLast:=by
 unfold cutD sIxD;rw[RZ];simp only[Uak,Nat.sub_zero];cases ds with
 |nil=>rfl|cons d ds =>rw[Uf (by simp)];congr 1;simp only[UH];omega
def wS(b:Bool):Str:=if b=true then ⟨#[114]⟩ else ⟨#[108]⟩
def enD(i:Int)(b:Bool)(j:Int):D:=.tup [.int i,.str (wS b),.int j]
def entO:D->Option (Int×Bool×Int)
 |.tup [.int i,.str w,.int j]=>some (i,decide (w=⟨#[114]⟩),j)|_=>none
def eAt(rows:List (List D))(p q:Int):D:=(rows.getD p.toNat []).getD q.toNat .non
structure Tb(rows:List (List D))(n m:Nat):Prop where
 ln:rows.length=n
 lm:∀r∈rows,r.length=m
 ok:∀r∈rows,∀d∈r,entOk d n m
theorem Tb.at'{rows:List (List D)}{n m:Nat}(h:Tb rows n m){p q:Int}(h0:0<=p)(h1:p<n)(h2:0<=q)(h3:q<m):∃r,rows[p.toNat]?=some r/\r[q.toNat]?=some (eAt rows p q)/\entOk (eAt rows p q) n m:=by
 have l1:p.toNat<rows.length:=by rw[h.ln];omega
 have hr:rows[p.toNat]∈rows:=TN l1;have l2:q.toNat<rows[p.toNat].length:=by rw[h.lm _ hr];omega
 have e:eAt rows p q=rows[p.toNat][q.toNat]:=by unfold eAt;rw[Qgp l1,Qgp l2]
 refine⟨rows[p.toNat],by simp[l1],by rw[e];simp[l2],?_⟩;rw[e];exact h.ok _ hr _ (TN l2)
theorem entOk.cases(h:entOk d n m):(d=.non/\entO d=none)\/∃i b j,d=enD i b j/\entO d=some (i,b,j)/\0<=i/\i<m/\0<=j/\j<n:=by
 rcases h with rfl|⟨i,j,w,rfl,h1,h2,h3,h4,rfl|rfl⟩
 ·exact .inl ⟨rfl,rfl⟩
 ·exact .inr ⟨i,false,j,rfl,by unfold entO;rfl,h1,h2,h3,h4⟩
 ·exact .inr ⟨i,true,j,rfl,by unfold entO;rfl,h1,h2,h3,h4⟩
def okG(w m:Nat)(u:List Int):Prop:=u.length=w/\∀x∈u,0<=x/\x<m
def okC(w n m:Nat)(c:Ct):Prop:=okG w m c.1/\(0<=c.2.1/\c.2.1<n)/\(0<=c.2.2.1/\c.2.2.1<m)/\okG w m c.2.2.2
def bhd(b:Bool)(c:Ct):List Int:=if b=true then c.1 else c.2.2.2
def ahd(b:Bool)(c:Ct):List Int:=if b=true then c.2.2.2 else c.1
def nxC(i:Int)(b:Bool)(j:Int)(c:Ct)(u:List Int):Ct:=if b=true then (i::c.1.dropLast,j,c.2.2.2.headD 0,u) else (u,j,c.1.headD 0,i::c.2.2.2.dropLast)
theorem okC.b(h:okC w n m c)(b:Bool):okG w m (bhd b c):=by cases b;exact h.2.2.2;exact h.1
theorem okC.a(h:okC w n m c)(b:Bool):okG w m (ahd b c):=by cases b;exact h.1;exact h.2.2.2
theorem okG.cons{w m:Nat}{u:List Int}{i:Int}(hw:1<=w)(h:okG w m u)(h0:0<=i)(h1:i<m):okG w m (i::u.dropLast):=by
 refine⟨?_,λx hx=>?_⟩
 ·rw[UH,Rc,h.1];omega
 ·rcases UG.mp hx with rfl|hx
  ·exact⟨h0,h1⟩
  ·exact h.2 x (W1 _ hx)
theorem okG.head(hw:1<=w)(h:okG w m u):0<=u.headD 0/\u.headD 0<m:=by
 cases u with
 |nil=>have:=h.1;simp at this;omega|cons x r=>exact h.2 x (UD ..)
theorem okC.nx{w n m:Nat}{c:Ct}{i j:Int}{b:Bool}{u:List Int}(hw:1<=w)(h:okC w n m c)(hu:okG w m u)(h0:0<=i)(h1:i<m)(h2:0<=j)(h3:j<n):okC w n m (nxC i b j c u):=by
 cases b with
 |false=>exact⟨hu,⟨h2,h3⟩,h.1.head hw,h.2.2.2.cons hw h0 h1⟩|true=>exact⟨h.1.cons hw h0 h1,⟨h2,h3⟩,h.2.2.2.head hw,hu⟩
theorem wS_r(b:Bool):(wS b==(⟨#[114]⟩:Str))=b:=by cases b<;>decide
theorem eq_w(b:Bool)(g:G):pEq (.str (wS b)) (.str ⟨#[114]⟩) g=.ok (.bl b) g:=by rw[eq_str,wS_r]
theorem QkI(b:Bool)(g:G):Y9 [.str (wS b)] g=.ok (.str (wS !b)) g:=by cases b<;>simp[Y9,QbZ,mDef,eq_w,s_l,s_r]<;>rfl
theorem QeB(i:Int)(b:Bool)(j:Int)(c:Ct)(g:G):ZI [enD i b j,ctD c] g=.ok (gmD (bhd b c)) g:=by cases b<;>simp[ZI,Qax,mDef,enD,ctD,eq_w,s_r,bhd]
theorem Qgr(i:Int)(b:Bool)(j:Int)(c:Ct)(g:G):ZY [enD i b j,ctD c] g=.ok (gmD (ahd b c)) g:=by cases b<;>simp[ZY,Qbb,mDef,enD,ctD,eq_w,s_r,ahd]
@[simp] theorem ZV    : QW a lo hi σ g=(match a σ g with | .ok x g1=>(match lo σ g1 with | .ok l g2=>(match hi σ g2 with | .ok h g3=>QbL x l h g3 | .raise e g'=>.raise e g' | .stuck=>.stuck) | .raise e g'=>.raise e g' | .stuck=>.stuck) | .raise e g'=>.raise e g' | .stuck=>.stuck):=by
 unfold QW Res.bind;cases a σ g with
 |ok x g1=>
  dsimp only;cases lo σ g1 with
  |ok l g2 =>dsimp only;cases hi σ g2<;>rfl|_=>rfl
 |_=>rfl
@[simp] theorem ZK  : QD σ g=.ok none g:=rfl
@[simp] theorem Jc   : ZM a σ g=(match a σ g with | .ok (.int i) g1=>.ok (some i) g1 | .raise e g'=>.raise e g'|_=>.stuck):=by
 unfold ZM Res.bind;cases a σ g with
 |ok d g1=>cases d<;>rfl|_=>rfl
@[simp] theorem Qqi   : QbL (.tup ds) lo hi g=.ok (.tup (cutD ds lo hi)) g:=rfl
theorem QaY(u:List Int)(g:G):QbL (gmD u) none (some (-1)) g=.ok (gmD u.dropLast) g:=by show Res.ok (D.tup (cutD _ _ _)) g=_;rw[QkG,<-List.map_dropLast];rfl
theorem Qjk(u:List Int)(g:G):QbL (gmD u) (some 1) none g=.ok (gmD u.tail) g:=by show Res.ok (D.tup (cutD _ _ _)) g=_;rw[QkH,<-List.map_tail];rfl
theorem QkJ(u:List Int)(g:G):QbL (gmD u) none (some ((u.length:Int) - 1)) g=.ok (gmD u.dropLast) g:=by have:=Qjj (u.map D.int);rw[Ud]at this;show Res.ok (D.tup (cutD _ _ _)) g=_;rw[this,<-List.map_dropLast];rfl
theorem Qfs(u:List Int)(g:G)(h:1<=u.length):pIx (gmD u) (.int 0) g=.ok (.int (u.headD 0)) g:=by
 cases u with
 |nil=>simp at h|cons x r=>exact Qo4
theorem Qp4(u:List Int)(g:G):pLen (gmD u) g=.ok (.int u.length) g:=by show Res.ok (D.int ((u.map D.int).length:Nat)) g=_;rw[Ud]
theorem Qo5(i:Int)(u:List Int)(g:G)(h:u.length<=1000):pAdd (.tup [.int i]) (gmD u) g=.ok (gmD (i::u)) g:=by show(if _ then _ else _)=_;rw[Ue (by rw[Ud];exact Uk (Tx h 1) (by decide))];rfl
@[simp] theorem QcQ(xs:List D)(g:G)(h:xs.length<=100:=by decide):pTup xs g=.ok (.tup xs) g:=Ue (Uk h (by decide))
theorem Qgs(i:Int)(b:Bool)(j:Int)(c:Ct)(u:List Int)(g:G)(hw:1<=w)(hw2:w<=100)(h:okC w n m c):Q3 [enD i b j,ctD c,gmD u] g=.ok (ctD (nxC i b j c u)) g:=by
 have ha:1<=(ahd b c).length:=by rw[(h.a b).1];exact hw
 have hb:(bhd b c).dropLast.length<=1000:=by rw[Rc,(h.b b).1];omega
 refine QT rfl ?_;show YM [some (enD i b j),some (ctD c),some (gmD u),none,none] g=_;unfold YM;refine Qh [some (enD i b j),some (ctD c),some (gmD u),vI ((ahd b c).headD 0),none] g (Qv (Qi (g1:=g) (g2:=g) ((Qw (ds:=[enD i b j,ctD c]) (g':=g) rfl).trans (Qgr i b j c g)) rfl (Qfs _ g ha))) ?_;refine Qh [some (enD i b j),some (ctD c),some (gmD u),vI ((ahd b c).headD 0),some (gmD (i::(bhd b c).dropLast))] g (Qv (Qi (x:=.tup [.int i]) (y:=gmD (bhd b c).dropLast) (g1:=g) (g2:=g) (by simp[enD]) ?_ (Qo5 i _ g hb))) ?_
 ·simp only[ZV,ZK,Jc];rw[(Qw (ds:=[enD i b j,ctD c]) (g':=g) rfl).trans (QeB i b j c g)];exact QaY _ g
 ·cases b<;>simp[enD,eq_w,s_r,ctD,nxC,ahd,bhd]
theorem Qad{M:Nat}{rows:List (List D)}{n m w:Nat}{g:G}{c:Ct}(hM:g[M]?=some (Qac rows))(ht:Tb rows n m)(h:okC w n m c):YV [.ref M,ctD c] g=.ok (eAt rows c.2.1 c.2.2.1) g:=by
 obtain⟨r,h1,h2,_⟩:=ht.at' h.2.1.1 h.2.1.2 h.2.2.1.1 h.2.2.1.2;have e1:pIx (.tup (rows.map .tup)) (.int c.2.1) g=.ok (.tup r) g:=by have:((c.2.1.toNat:Nat):Int)=c.2.1:=Ws h.2.1.1;rw[<-this];exact ix_tup (by rw[UJ,h1];rfl)
 have e2:pIx (.tup r) (.int c.2.2.1) g=.ok (eAt rows c.2.1 c.2.2.1) g:=by
  have:((c.2.2.1.toNat:Nat):Int)=c.2.2.1:=Ws h.2.2.1.1
  conv=>lhs;rw[<-this]
  exact ix_tup h2
 refine QT rfl (Q6 (Qi (g1:=g) (g2:=g) (Qi (g1:=g) (g2:=g) (x:=.tup (rows.map .tup)) ?_ ?_ e1) ?_ e2))
 ·unfold Qz;refine Ze (x:=.ref M) (g1:=g) rfl ?_;dsimp only;rw[hM];show(if 11∈[11] then _ else _)=_;rw[Ue (by decide)];simp[List.lookup]
 ·simp[ctD]
 ·simp[ctD]
end L3
namespace L3
open PySem
inductive Ky where
 |W|S|A|C|P|G (y:Bool)|B (x y:Bool)|L (x y:Bool) (k:List Int)
structure PSt where
 gs:Bool->List (List Int)
 cs:List Ct
 pd:List Ct
 dn:List Ct
abbrev TT3:=Int->Int->Option (Int×Bool×Int)
def YZ(T:TT3)(y:Bool)(k:List Int)(c:Ct):Bool:=match T c.2.1 c.2.2.1 with
 |some (_,b,_)=>decide (b=y/\(ahd b c).tail=k)|none=>false
def Jv(T:TT3)(s:PSt):Bool->Bool->List Int->List D
 |false,y,k=>((s.gs y).filter λu=>decide (u.dropLast=k)).map gmD|true,y,k=>(s.dn.filter (YZ T y k)).map ctD
def wF(M S C P A:Nat):List (Str×D):=[(Str.ofString "machine",.ref M),(Str.ofString "sides",.ref S),(Str.ofString "contexts",.ref C),(Str.ofString "pending",.ref P),(Str.ofString "asking",.ref A)]
def twoD(a b:Nat):List (DK×D):=[(.inr (wS false),.ref a),(.inr (wS true),.ref b)]
def grF(b:Nat):List (Str×D):=[(Str.ofString "by_seen",.ref b)]
abbrev GK:=Bool->Bool->List (List Int)
def ctn(T:TT3)(M:Nat)(ad:Ky->Nat)(s:PSt)(gk:GK):Ky->GO
 |.W=>.ins 15 (wF M (ad .S) (ad .C) (ad .P) (ad .A))|.S=>.dct (twoD (ad (.G false)) (ad (.G true)))|.A=>.dct (twoD (ad (.B true false)) (ad (.B true true)))|.C=>.dcn true (s.cs.map λc=>(.inr c,.bl true))|.P=>.lst (s.pd.map ctD)|.G y=>.ins 14 (grF (ad (.B false y)))|.B x y=>.dcn false ((gk x y).map λk=>(.inl k,.ref (ad (.L x y k))))|.L x y k=>.lst (Jv T s x y k)
def alo(gk:GK):Ky->Prop
 |.L x y k=>k∈gk x y|_=>True
structure Rp(T:TT3)(g0:G)(M:Nat)(g:G)(ad:Ky->Nat)(s:PSt)(gk:GK):Prop where
 old:Keeps [] g0 g
 at':∀k,alo gk k->g[ad k]?=some (ctn T M ad s gk k)
 ge:∀k,alo gk k->g0.length<=ad k
 inj:∀k k',alo gk k->alo gk k'->ad k=ad k'->k=k'
 nd:∀x y,(gk x y).Nodup
 kg:∀y u,u∈s.gs y->u.dropLast∈gk false y
 ka:∀y c k,c∈s.dn->YZ T y k c=true->k∈gk true y
theorem Rp.lt(h:Rp T g0 M g ad s gk)(ha:alo gk k):ad k<g.length:=QE (h.at' k ha)
theorem Rp.push(h:Rp T g0 M g ad s gk)(o:GO):Rp T g0 M (g++[o]) ad s gk:=⟨h.old.trans (.push o),λk ha=>by rw[Ul (h.lt ha)];exact h.at' k ha,h.ge,h.inj,h.nd,h.kg,h.ka⟩
theorem Rp.set(h:Rp T g0 M g ad s gk)(ha:alo gk k)(hne:∀k',alo gk k'->k'≠k->ctn T M ad s' gk k'=ctn T M ad s gk k')(kg:∀y u,u∈s'.gs y->u.dropLast∈gk false y)(ka:∀y c k,c∈s'.dn->YZ T y k c=true->k∈gk true y):Rp T g0 M (g.set (ad k) (ctn T M ad s' gk k)) ad s' gk:=by
 refine⟨⟨by rw[UK];exact h.old.len,λn o hn e=>?_⟩,λk' ha'=>?_,h.ge,h.inj,h.nd,kg,ka⟩
 ·have hl:n<g0.length:=QE e;have:=h.ge k ha;rw[Uh (by omega)];exact h.old.at' n o hn e
 ·by_cases e:k'=k
  ·subst e;exact Z6 (h.at' k' ha)
  ·rw[Uh (λz=>e (h.inj _ _ ha' ha z.symm)),hne k' ha' e];exact h.at' k' ha'
theorem QeC(h:Rp T g0 M g ad s gk)(hk:k∉gk x y):Jv T s x y k=[]:=by
 cases x with
 |false =>show List.map _ (List.filter _ _)=[];rw[BT.mpr λu hu z=>hk (by have:=h.kg y u hu;rw[UA z]at this;exact this)];rfl|true =>show List.map _ (List.filter _ _)=[];rw[BT.mpr λc hc z=>hk (h.ka y c k hc z)];rfl
theorem Qbw{f:List Int->D}:∀{ks:List (List Int)}{k:List Int},nGet (ks.map λk=>(.inl k,f k)) (.inl k)=if k∈ks then some (f k) else none
 |[],k=>rfl|c::ks,k=>by
  have ih:=Qbw (f:=f) (ks:=ks) (k:=k);unfold nGet at ih ⊢;rw[UO,TH];by_cases e:c=k
  ·subst e;rw[Uq rfl];simp
  ·rw[UC (λz=>e (Sum.inl.inj z))];dsimp only;rw[ih];simp[Ne.symm e]
def adN(ad:Ky->Nat)(x y:Bool)(k:List Int)(n:Nat):Ky->Nat
 |.L x' y' k'=>if x'=x/\y'=y/\k'=k then n else ad (.L x' y' k')
 |.W=>ad .W | .S=>ad .S | .A=>ad .A | .C=>ad .C | .P=>ad .P | .G y=>ad (.G y) | .B x y=>ad (.B x y)
def gkN(gk:GK)(x y:Bool)(k:List Int):GK:=λx' y'=>if x'=x/\y'=y then gk x' y'++[k] else gk x' y'
theorem mem_gkN  : k'∈gkN gk x y k x' y'↔k'∈gk x' y'\/(x'=x/\y'=y/\k'=k):=by
 unfold gkN;split
 ·next h=>simp[h]
 ·next h=>exact⟨.inl,λz=>z.elim id λw=>absurd ⟨w.1,w.2.1⟩ h⟩
theorem Rp.new(h:Rp T g0 M g ad s gk)(hk:k∉gk x y):Rp T g0 M ((g++[GO.lst []]).set (ad (.B x y)) (GO.dcn false (((gk x y).map λk=>(Sum.inl k,D.ref (ad (.L x y k))))++[(Sum.inl k,D.ref g.length)]))) (adN ad x y k g.length) s (gkN gk x y k):=by
 have hp:=h.push (.lst []);have hB:ad (.B x y)<g.length:=h.lt (k:=.B x y) trivial;have old:∀{k':Ky},alo gk k'->adN ad x y k g.length k'=ad k':=λ{k'} ha=>by
  cases k' with
  |L x' y' k' =>refine Uf ?_;rintro ⟨rfl,rfl,rfl⟩;exact hk ha
  |_=>rfl
 have cas:∀k',alo (gkN gk x y k) k'->alo gk k'\/k'=.L x y k:=λk' ha=>by
  cases k' with
  |L x' y' k'=>
   rcases mem_gkN.mp ha with z|⟨rfl,rfl,rfl⟩
   ·exact .inl z
   ·exact .inr rfl
  |_=>exact .inl trivial
 have newA:adN ad x y k g.length (.L x y k)=g.length:=Ue ⟨rfl,rfl,rfl⟩;have cts:∀k',alo gk k'->k'≠.B x y->ctn T M (adN ad x y k g.length) s (gkN gk x y k) k'=ctn T M ad s gk k':=λk' ha hne=>by
  cases k' with
  |B x' y' =>have hxy:¬(x'=x/\y'=y):=λz=>hne (by rw[z.1,z.2]);show GO.dcn false _=GO.dcn false _;unfold gkN;rw[Uf hxy];congr 1;refine Wr λc hc=>?_;rw[old (k':=.L x' y' c) hc]
  |_=>rfl
 refine⟨⟨by rw[UK];exact hp.old.len,λn o hn e=>?_⟩,λk' ha=>?_,λk' ha=>?_,λk1 k2 h1 h2 e=>?_,λx' y'=>?_,λy' u hu=>mem_gkN.mpr (.inl (h.kg y' u hu)),λy' c k' hc z=>mem_gkN.mpr (.inl (h.ka y' c k' hc z))⟩
 ·have:=h.ge (.B x y) trivial;have hl:n<g0.length:=QE e;rw[Uh (by omega)];exact hp.old.at' n o hn e
 ·rcases cas k' ha with z|rfl
  ·rw[old z];by_cases e:k'=.B x y
   ·subst e;rw[Z6 (hp.at' (.B x y) trivial)];show some (GO.dcn false _)=some (GO.dcn false _);congr 2;unfold gkN;rw[Ue ⟨rfl,rfl⟩,U4];congr 1
    ·refine Wr λc hc=>?_;rw[old (k':=.L x y c) hc]
    ·rw[UO,newA];rfl
   ·rw[Uh (λw=>e (h.inj k' (.B x y) z trivial w.symm)),cts k' z e];exact hp.at' k' z
  ·rw[newA,Uh (by omega),QC];show some (GO.lst [])=some (GO.lst (Jv T s x y k));rw[QeC h hk]
 ·rcases cas k' ha with z|rfl
  ·rw[old z];exact h.ge k' z
  ·rw[newA];exact h.old.len
 ·rcases cas k1 h1 with z1|rfl<;>rcases cas k2 h2 with z2|rfl
  ·rw[old z1,old z2]at e;exact h.inj _ _ z1 z2 e
  ·rw[old z1,newA]at e;have:=h.lt z1;omega
  ·rw[old z2,newA]at e;have:=h.lt z2;omega
  ·rfl
 ·unfold gkN;split
  ·next hh =>obtain⟨rfl,rfl⟩:=hh;exact Rm.mpr ⟨h.nd _ _,by simp,λa ha b hb z=>hk (by rw[Uj.mp hb]at z;rw[<-z];exact ha)⟩
  ·exact h.nd _ _
end L3
namespace L3
open PySem
theorem Yz(ho:o σ g=.ok (.ref n) g)(h:g[n]?=some (.ins c fs))(hc:c∈cs)(hf:fs.lookup f=some d):Qz cs f o σ g=.ok d g:=by unfold Qz;refine Ze ho ?_;dsimp only;rw[h];dsimp only;rw[Ue hc,hf]
theorem Q1(ho:o σ g=.ok (.ref n) g1)(h:g1[n]?=some (.ins cc fs))(hm:fs.lookup m=none)(ha:a σ g1=.ok xs g2):Yc cc m f o a σ g=f (.ref n::xs) g2:=by unfold Yc;rw[ho,Res.bind_ok];dsimp only;rw[h];dsimp only;rw[Ue ⟨rfl,hm⟩,ha,Res.bind_ok]
theorem QcR:mOpA newL mNil σ g=.ok (.ref g.length) (g++[.lst []]):=by simp only[QaC,QcO];exact Ue (TC _)
theorem Qbx(ho:o σ g=.ok (.ref n) g)(h:g[n]?=some (.dcn τ ks))(hk:k σ g=.ok y g)(hx:x σ g=.ok z g1)(h1:g1[n]?=some (.dcn τ ks))(hs:skOf τ y=some kk):QiL o k x f σ g=f n τ ks kk z g1:=by unfold QiL;rw[ho,Res.bind_ok];dsimp only;rw[h];dsimp only;rw[hk,Res.bind_ok,hx,Res.bind_ok,h1];dsimp only;rw[hs]
theorem Q7(h:σ[i]?=some (some d)):mVar i σ g=.ok d g:=by unfold mVar;rw[h]
theorem Y0(ho:o σ g=.ok (.ref n) g1)(h:g1[n]?=some (.lst ds))(he:e σ g1=.ok y g1)(hz:ds.length<=1000):Yo o e σ g=.ok .non (g1.set n (.lst (ds++[y]))):=by unfold Yo;rw[ho,Res.bind_ok];dsimp only;rw[h];dsimp only;rw[he,Res.bind_ok,h];dsimp only;rw[Ue (Qhb hz)]
theorem lk1{a:Str}{v:D}{r:List (Str×D)}:List.lookup a ((a,v)::r)=some v:=by simp[List.lookup]
theorem lk2{a b:Str}{v:D}{r:List (Str×D)}(h:(a==b)=false):List.lookup a ((b,v)::r)=List.lookup a r:=by simp[List.lookup,h]
theorem Rp.atG(h:Rp T g0 M g ad s gk)(y:Bool):g[ad (.G y)]?=some (.ins 14 (grF (ad (.B false y)))):=h.at' (.G y) trivial
theorem Rp.atB(h:Rp T g0 M g ad s gk)(x y:Bool):g[ad (.B x y)]?=some (.dcn false ((gk x y).map λk=>(.inl k,.ref (ad (.L x y k))))):=h.at' (.B x y) trivial
theorem Qjl(h:Rp T g0 M g ad s gk){y:Bool}{i:Nat}(hv:σ[i]?=some (vR (ad (.G y)))):Qz [14] "by_seen" (mVar i) σ g=.ok (.ref (ad (.B false y))) g:=Yz (Q7 hv) (h.atG y) (by decide) lk1
theorem QlE(h:Rp T g0 M g ad s gk)(ho:o σ g=.ok (.ref (ad (.B x y))) g)(he:e σ g=.ok (gmD k) g):∃a,Qgg o e (mOpA newL mNil) σ g=.ok (.ref a) (g++[.lst []])/\(g++[GO.lst []])[a]?=some (.lst (Jv T s x y k))/\((a=ad (.L x y k)/\k∈gk x y)\/a=g.length):=by
 have hp:=h.push (.lst []);have e1:=Qbx (f:=λ_ _ ks k z g=>.ok ((nGet ks k).getD z) g) ho (h.atB x y) he QcR (hp.atB x y) (sk_g k);rw[Qbw]at e1;by_cases hk:k∈gk x y
 ·rw[Ue hk]at e1;exact⟨_,e1,hp.at' (.L x y k) hk,.inl ⟨rfl,hk⟩⟩
 ·rw[Uf hk]at e1;refine⟨_,e1,?_,.inr rfl⟩;rw[QC,QeC h hk]
theorem QeD(h:Rp T g0 M g ad s gk)(hz:(gk x y).length<=1000)(ho:o σ g=.ok (.ref (ad (.B x y))) g)(he:e σ g=.ok (gmD k) g):∃g' ad' gk',JJ o e (mOpA newL mNil) σ g=.ok (.ref (ad' (.L x y k))) g'/\Rp T g0 M g' ad' s gk'/\k∈gk' x y/\(∀k0,alo gk k0->ad' k0=ad k0)/\(gk'=gk\/gk'=gkN gk x y k):=by
 have hp:=h.push (.lst []);have e1:=Qbx (f:=λn τ ks k z g=>if ks.length<SZ then (match nGet ks k with|some v=>.ok v g|none=>.ok z (g.set n (.dcn τ (ks++[(k,z)])))) else .stuck) ho (h.atB x y) he QcR (hp.atB x y) (sk_g k);have e1:JJ o e (mOpA newL mNil) σ g=_:=e1;rw[Ue (by rw[Ud];exact Qhb hz),Qbw]at e1;by_cases hk:k∈gk x y
 ·rw[Ue hk]at e1;exact⟨_,ad,gk,e1,hp,hk,λ_ _=>rfl,.inl rfl⟩
 ·rw[Uf hk]at e1;refine⟨_,adN ad x y k g.length,gkN gk x y k,?_,h.new hk,mem_gkN.mpr (.inr ⟨rfl,rfl,rfl⟩),λk0 ha=>?_,.inr rfl⟩
  ·rw[e1,show adN ad x y k g.length (.L x y k)=g.length from Ue ⟨rfl,rfl,rfl⟩]
  ·cases k0 with
   |L x' y' k' =>refine Uf ?_;rintro ⟨rfl,rfl,rfl⟩;exact hk ha
   |_=>rfl
theorem Qbd(h:Rp T g0 M g ad s gk)(y:Bool)(k:List Int):∃a,QJ [.ref (ad (.G y)),gmD k] g=.ok (.ref a) (g++[.lst []])/\(g++[GO.lst []])[a]?=some (.lst (Jv T s false y k))/\((a=ad (.L false y k)/\k∈gk false y)\/a=g.length):=by obtain⟨a,h1,h2,h3⟩:=QlE (σ:=[vR (ad (.G y)),vM k]) h (x:=false) (y:=y) (k:=k) (Qjl h (i:=0) rfl) (e:=mVar 1) rfl;exact⟨a,QT rfl (Q6 h1),h2,h3⟩
theorem Qjm(b:Nat):(grF b).lookup (Str.ofString "beginning")=none:=by unfold grF;rw[lk2 (by decide +kernel)];rfl
theorem Qjn(b:Nat):(grF b).lookup (Str.ofString "has")=none:=by unfold grF;rw[lk2 (by decide +kernel)];rfl
theorem QlF(b:Nat):(grF b).lookup (Str.ofString "put_in")=none:=by unfold grF;rw[lk2 (by decide +kernel)];rfl
theorem QlG(b:Nat):(grF b).lookup (Str.ofString "in_order")=none:=by unfold grF;rw[lk2 (by decide +kernel)];rfl
theorem Qjo(u:List Int):∀us:List (List Int),((us.map (Sum.inl:List Int->SKd)).any λc=>decide (c=.inl u))=decide (u∈us)
 |[]=>rfl|v::us=>by
  rw[UO,TY,Qjo u us];by_cases e:v=u
  ·subst e;simp
  ·rw[UC (λz=>e (Sum.inl.inj z))];simp[Ne.symm e]
theorem QlH(h:Rp T g0 M g ad s gk)(y:Bool)(u:List Int):Zw [.ref (ad (.G y)),gmD u] g=.ok (.bl (decide (u∈s.gs y))) (g++[.lst []]):=by
 obtain⟨a,h1,h2,_⟩:=Qbd h y u.dropLast;refine QT rfl (Q6 (Qi (x:=gmD u) (y:=.ref a) (g1:=g) rfl ((Q1 (n:=ad (.G y)) (g1:=g) (xs:=[gmD u.dropLast]) (g2:=g) rfl (h.atG y) (Qjm _) ?_).trans h1) ?_))
 ·simp only[Qb9,ZV,ZK,Jc,QcO];exact RL (λr=>match r with|Res.ok x g1=>Res.ok [x] g1 | .raise e g'=>.raise e g' | .stuck=>.stuck) (QaY u g)
 ·unfold pInG;rw[sk_g];dsimp only;rw[h2];dsimp only;show(match YC false (((s.gs y).filter λv=>decide (v.dropLast=u.dropLast)).map gmD) with|some ks=>_|none=>_)=_;rw[QdH];dsimp only;rw[Qjo];congr 2;exact TM.mpr (by simp)
end L3
namespace L3
open PySem
theorem YG:∀{l m:List α},l.Nodup->(∀x∈l,x∈m)->l.length<=m.length
 |[],_,_,_=>TC _|a::l,m,h,hs=>by
  have h':=T0.mp h;obtain⟨p,q,e⟩:=List.append_of_mem (hs a (UD ..));subst e;have:l.length<=(p++q).length:=YG h'.2 λx hx=>by
   have hx':=hs x (Uz _ hx);rcases Uu.mp hx' with z|z
   ·exact Uu.mpr (.inl z)
   ·rcases UG.mp z with rfl|z
    ·exact absurd hx h'.1
    ·exact Uu.mpr (.inr z)
  simp only[Us,UH]at this ⊢;omega
def intR(m:Nat):List Int:=(List.range m).map Int.ofNat
theorem QdI{m:Nat}{x:Int}(h0:0<=x)(h1:x<m):x∈intR m:=US.mpr ⟨x.toNat,Wi.mpr (by omega),Ws h0⟩
def allG(m:Nat):Nat->List (List Int)
 |0=>[[]]|w+1=>(intR m).flatMap λx=>(allG m w).map (x :: ·)
theorem JQ{m:Nat}:∀{w:Nat}{u:List Int},okG w m u->u∈allG m w
 |0,u,h=>by rw[Wy.mp h.1];exact UD ..
 |w+1,[],h=>by have:=h.1;simp at this
 |w+1,x::u,h=>RP.mpr ⟨x,QdI (h.2 x (UD ..)).1 (h.2 x (UD ..)).2,US.mpr ⟨u,JQ ⟨by have:=h.1;rw[UH]at this;omega,λy hy=>h.2 y (Uz _ hy)⟩,rfl⟩⟩
def allC(w n m:Nat):List Ct:=(allG m w).flatMap λl=>(intR n).flatMap λp=>(intR m).flatMap λq=>(allG m w).map λr=>(l,p,q,r)
theorem Qgt{w n m:Nat}{c:Ct}(h:okC w n m c):c∈allC w n m:=by obtain⟨l,p,q,r⟩:=c;exact RP.mpr ⟨l,JQ h.1,RP.mpr ⟨p,QdI h.2.1.1 h.2.1.2,RP.mpr ⟨q,QdI h.2.2.1.1 h.2.2.1.2,US.mpr ⟨r,JQ h.2.2.2,rfl⟩⟩⟩⟩
structure Few(w n m:Nat):Prop where
 w1:1<=w
 w3:w<=3
 n1:1<=n
 n3:n<=3
 m2:2<=m
 m3:m<=3
 g:(allG m w).length<=900
 k:(allG m (w-1)).length<=900
 c:(allC w n m).length<=900
structure okS(w n m:Nat)(T:TT3)(s:PSt):Prop where
 g:∀y u,u∈s.gs y->okG w m u
 gn:∀y,(s.gs y).Nodup
 c:∀c∈s.cs,okC w n m c
 cn:s.cs.Nodup
 p:∀c∈s.pd,c∈s.cs
 d:∀c∈s.dn,c∈s.cs/\T c.2.1 c.2.2.1≠none
 l:s.dn.length+s.pd.length<=s.cs.length
def KB(w m:Nat)(gk:GK):Prop:=∀x y k,k∈gk x y->okG (w-1) m k
theorem okS.gl(h:okS w n m T s)(f:Few w n m)(y:Bool):(s.gs y).length<=900:=Uk (YG (h.gn y) λu hu=>JQ (h.g y u hu)) f.g
theorem okS.cl(h:okS w n m T s)(f:Few w n m):s.cs.length<=900:=Uk (YG h.cn λc hc=>Qgt (h.c c hc)) f.c
theorem okS.contl(h:okS w n m T s)(f:Few w n m)(x y:Bool)(k:List Int):(Jv T s x y k).length<=900:=by
 cases x with
 |false=>exact Uk (by show(List.map _ (List.filter _ _)).length<=_;rw[Ud];exact List.length_filter_le ..) (h.gl f y)|true=>exact Uk (by show(List.map _ (List.filter _ _)).length<=_;rw[Ud];exact List.length_filter_le ..) (Uk (Uk (U6 _ _) h.l) (h.cl f))
theorem KB.len(h:KB w m gk)(nd:∀x y,(gk x y).Nodup)(f:Few w n m)(x y:Bool):(gk x y).length<=900:=Uk (YG (nd x y) λk hk=>JQ (h x y k hk)) f.k
theorem KB.new(h:KB w m gk)(hk:okG (w-1) m k):KB w m (gkN gk x y k):=λx' y' k' hh=>by
 rcases mem_gkN.mp hh with z|⟨_,_,rfl⟩
 ·exact h x' y' k' z
 ·exact hk
theorem okG.init(h:okG w m u):okG (w-1) m u.dropLast:=⟨by rw[Rc,h.1],λx hx=>h.2 x (W1 _ hx)⟩
theorem okG.tail(h:okG w m u):okG (w-1) m u.tail:=⟨by rw[List.length_tail,h.1],λx hx=>h.2 x (List.mem_of_mem_tail hx)⟩
def addG(s:PSt)(y:Bool)(u:List Int):PSt:={s with gs:=λy'=>if y'=y then s.gs y'++[u] else s.gs y'}
def ask(s:PSt)(c:Ct):PSt:=if c∈s.cs then s else {s with cs:=s.cs++[c],pd:=s.pd++[c]}
def askL(s:PSt)(cs:List Ct):PSt:=cs.foldl ask s
def nxT(T:TT3)(c:Ct)(u:List Int):Ct:=match T c.2.1 c.2.2.1 with
 |some (i,b,j)=>nxC i b j c u|none=>c
def Zc(T:TT3)(s:PSt)(y:Bool)(u:List Int):PSt:=if u∈s.gs y then s else askL (addG s y u) ((s.dn.filter (YZ T y u.dropLast)).map λc=>nxT T c u)
def Qft(s:PSt)(c:Ct):PSt:={s with dn:=s.dn++[c]}
def popW(s:PSt):PSt:={s with pd:=s.pd.dropLast}
def gF(s:PSt)(b:Bool)(k:List Int):List (List Int):=(s.gs b).filter λu=>decide (u.dropLast=k)
def Yg(T:TT3)(s:PSt)(c:Ct)(i:Int)(b:Bool)(j:Int):PSt:=
 let s3:=Qft (Zc T (popW s) (!b) (bhd b c)) c
 askL s3 ((gF s3 b (ahd b c).tail).map λu=>nxC i b j c u)
theorem okS.addG(h:okS w n m T s)(hu:okG w m u)(hn:u∉s.gs y):okS w n m T (addG s y u):=by
 refine⟨λy' v hv=>?_,λy'=>?_,h.c,h.cn,h.p,h.d,h.l⟩
 ·have hv:v∈(if y'=y then s.gs y'++[u] else s.gs y'):=hv;split at hv
  ·rcases Uu.mp hv with z|z
   ·exact h.g y' v z
   ·rw[Uj.mp z];exact hu
  ·exact h.g y' v hv
 ·show(if y'=y then s.gs y'++[u] else s.gs y').Nodup;split
  ·next e =>subst e;exact Rm.mpr ⟨h.gn _,by simp,λa ha b hb z=>hn (by rw[Uj.mp hb]at z;rw[<-z];exact ha)⟩
  ·exact h.gn _
theorem okS.ask(h:okS w n m T s){c:Ct}(hc:okC w n m c):okS w n m T (ask s c):=by
 unfold L3.ask;split
 ·exact h
 ·next hn=>
  refine⟨h.g,h.gn,λx hx=>?_,?_,λx hx=>?_,λx hx=>⟨Uu.mpr (.inl (h.d x hx).1),(h.d x hx).2⟩,?_⟩
  ·rcases Uu.mp hx with z|z
   ·exact h.c x z
   ·rw[Uj.mp z];exact hc
  ·exact Rm.mpr ⟨h.cn,by simp,λa ha b hb z=>hn (by rw[Uj.mp hb]at z;rw[<-z];exact ha)⟩
  ·rcases Uu.mp hx with z|z
   ·exact Uu.mpr (.inl (h.p x z))
   ·exact Uu.mpr (.inr z)
  ·have:=h.l;simp only[Us,Ti];omega
theorem okS.askL:∀{cs:List Ct}{s:PSt},okS w n m T s->(∀c∈cs,okC w n m c)->okS w n m T (askL s cs)
 |[],_,h,_=>h|c::cs,s,h,hc=>okS.askL (s:=L3.ask s c) (cs:=cs) (h.ask (hc c (UD ..))) λx hx=>hc x (Uz _ hx)
end L3
namespace L3
open PySem
theorem QdJ{t:MG}{body:MS}{a:Nat}{ds:List D}{e:ME}{σ:S3}{g g1:G}(he:e σ g=.ok (.ref a) g1)(hg:g1[a]?=some (.lst ds))(I:Nat->S3->G->Prop)(h0:I 0 σ g1)(hI:∀i σ g,I i σ g->g[a]?=some (.lst ds))(step:∀i d σ g,ds[i]?=some d->I i σ g->∃σ1 σ2 g2,t d σ=some σ1/\body σ1 g=.nx σ2 g2/\I (i+1) σ2 g2):∃σ' g',mFor (QR e) t body σ g=.nx σ' g'/\I ds.length σ' g':=by
 have es:QR e σ g=.ok (srcL a ds.length) g1:=by unfold QR;rw[he,Res.bind_ok];show JY (.ref a) g1=_;unfold JY;dsimp only;rw[hg];rfl
 rw[Qb7 es];refine QmX (src:=srcL a ds.length) (n:=ds.length) rfl I h0 (λi σ g hi h=>?_) λσ g h=>?_
 ·obtain⟨σ1,σ2,g2,h1,h2,h3⟩:=step i ds[i] σ g (by simp[hi]) h;refine⟨ds[i],σ1,σ2,g2,?_,h1,h2,h3⟩;show(match g[a]? with|some (.lst es)=>some es[i]? | _=>none)=_;rw[hI i σ g h];simp[hi]
 ·show(match g[a]? with|some (.lst es)=>some es[ds.length]? | _=>none)=_;rw[hI _ σ g h];simp
theorem QeE(h:¬(x'=false/\y'=y/\k'=u.dropLast)):Jv T (addG s y u) x' y' k'=Jv T s x' y' k':=by
 cases x' with
 |true=>rfl|false=>
  show List.map _ (List.filter _ (if y'=y then s.gs y'++[u] else s.gs y'))=List.map _ (List.filter _ (s.gs y'));split
  ·next e =>rw[RC,Wz (by simp;exact λz=>h ⟨rfl,e,z.symm⟩)];simp
  ·rfl
theorem Qjp  : Jv T (addG s y u) false y u.dropLast=Jv T s false y u.dropLast++[gmD u]:=by show List.map _ (List.filter _ (if y=y then s.gs y++[u] else s.gs y))=List.map _ (List.filter _ (s.gs y))++_;rw[Ue rfl,RC,RO (by simp),U4];rfl
theorem Qjq(h:Rp T g0 M g ad s gk)(ok:okS w n m T s)(f:Few w n m)(kb:KB w m gk)(hu:okG w m u)(hn:u∉s.gs y):∃g' ad' gk',Zq [.ref (ad (.G y)),gmD u] g=.ok .non g'/\Rp T g0 M g' ad' (addG s y u) gk'/\KB w m gk'/\(∀k0,alo gk k0->ad' k0=ad k0)/\(∀x y k,k∈gk x y->k∈gk' x y):=by
 have h1:=h.push (.lst []);obtain⟨g2,ad',gk',e1,h2,hk,old,gkc⟩:=QeD (σ:=[vR (ad (.G y)),vM u]) h1 (o:=Qz [14] "by_seen" (mVar 0)) (e:=QW (mVar 1) QD (ZM (mOp1 pNeg (mI 1)))) (x:=false) (y:=y) (k:=u.dropLast) (Uk (kb.len h.nd f _ _) (by decide)) (Qjl h1 (i:=0) rfl) (by simp only[ZV,ZK,Jc];exact QaY u _);have ha:alo gk' (.L false y u.dropLast):=hk;have hget:=h2.at' (.L false y u.dropLast) ha;have h3:=h2.set (s':=addG s y u) ha (λk' hk' hne=>by
  cases k' with
  |L x' y' k'=>exact RL GO.lst (QeE λz=>hne (by rw[z.1,z.2.1,z.2.2]))|_=>rfl) (λy' v hv=>by
   have hv:v∈(if y'=y then s.gs y'++[u] else s.gs y'):=hv;split at hv
   ·next e=>
    rcases Uu.mp hv with z|z
    ·exact h2.kg y' v z
    ·rw[Uj.mp z,e];exact hk
   ·exact h2.kg y' v hv) h2.ka
 have ap:=Y0 (σ:=[vR (ad (.G y)),vM u]) (e:=mVar 1) (y:=gmD u) e1 hget rfl (Uk (ok.contl f false y u.dropLast) (by decide));rw[<-Qjp (T:=T) (s:=s)]at ap;refine⟨_,ad',gk',Qb8 (σ:=[vR (ad (.G y)),vM u]) rfl ?_,h3,?_,old,?_⟩
 ·show Zp [vR (ad (.G y)),vM u] g=_;unfold Zp;refine ift (g++[.lst []]) ?_ (Z7 (d:=.non) ap);have e2:Yc 14 (Str.ofString "has") Zw (mVar 0) (Qa (mVar 1) mNil) [vR (ad (.G y)),vM u] g=.ok (.bl false) (g++[.lst []]):=by rw[Q1 (n:=ad (.G y)) (g1:=g) (xs:=[gmD u]) (g2:=g) rfl (h.atG y) (Qjn _) rfl,QlH h y u,UC hn]
  show Yn _ [vR (ad (.G y)),vM u] g=_;unfold Yn;rw[Qn e2];rfl
 ·rcases gkc with rfl|rfl
  ·exact kb
  ·exact kb.new hu.init
 ·rcases gkc with rfl|rfl
  ·exact λ_ _ _ z=>z
  ·exact λ_ _ _ z=>mem_gkN.mpr (.inl z)
theorem Qhc(M S C P A:Nat):(wF M S C P A).lookup (Str.ofString "machine")=vR M:=lk1
theorem Qgu(M S C P A:Nat):(wF M S C P A).lookup (Str.ofString "sides")=vR S:=by unfold wF;rw[lk2 (by decide +kernel)];exact lk1
theorem Qca(M S C P A:Nat):(wF M S C P A).lookup (Str.ofString "contexts")=vR C:=by unfold wF;rw[lk2 (by decide +kernel),lk2 (by decide +kernel)];exact lk1
theorem Qhd(M S C P A:Nat):(wF M S C P A).lookup (Str.ofString "pending")=vR P:=by unfold wF;rw[lk2 (by decide +kernel),lk2 (by decide +kernel),lk2 (by decide +kernel)];exact lk1
theorem Qjr(M S C P A:Nat):(wF M S C P A).lookup (Str.ofString "asking")=vR A:=by unfold wF;rw[lk2 (by decide +kernel),lk2 (by decide +kernel),lk2 (by decide +kernel),lk2 (by decide +kernel)];exact lk1
theorem no_W(M S C P A:Nat)(h1:(x==Str.ofString "machine")=false)(h2:(x==Str.ofString "sides")=false)(h3:(x==Str.ofString "contexts")=false)(h4:(x==Str.ofString "pending")=false)(h5:(x==Str.ofString "asking")=false):(wF M S C P A).lookup x=none:=by unfold wF;rw[lk2 h1,lk2 h2,lk2 h3,lk2 h4,lk2 h5];rfl
theorem QlI(M S C P A:Nat):(wF M S C P A).lookup (Str.ofString "ask_for")=none:=no_W _ _ _ _ _ (by decide +kernel) (by decide +kernel) (by decide +kernel) (by decide +kernel) (by decide +kernel)
theorem Qm7(M S C P A:Nat):(wF M S C P A).lookup (Str.ofString "put_gram")=none:=no_W _ _ _ _ _ (by decide +kernel) (by decide +kernel) (by decide +kernel) (by decide +kernel) (by decide +kernel)
theorem Qm8(M S C P A:Nat):(wF M S C P A).lookup (Str.ofString "went_on")=none:=no_W _ _ _ _ _ (by decide +kernel) (by decide +kernel) (by decide +kernel) (by decide +kernel) (by decide +kernel)
theorem QkK(M S C P A:Nat):(wF M S C P A).lookup (Str.ofString "paper")=none:=no_W _ _ _ _ _ (by decide +kernel) (by decide +kernel) (by decide +kernel) (by decide +kernel) (by decide +kernel)
theorem Rp.atW(h:Rp T g0 M g ad s gk):g[ad .W]?=some (.ins 15 (wF M (ad .S) (ad .C) (ad .P) (ad .A))):=h.at' .W trivial
theorem Rp.atC(h:Rp T g0 M g ad s gk):g[ad .C]?=some (.dcn true (s.cs.map λc=>(.inr c,.bl true))):=h.at' .C trivial
theorem Rp.atP(h:Rp T g0 M g ad s gk):g[ad .P]?=some (.lst (s.pd.map ctD)):=h.at' .P trivial
theorem a_contexts(h:Rp T g0 M g ad s gk)(hv:σ[i]?=some (vR (ad .W))):Qz [15] "contexts" (mVar i) σ g=.ok (.ref (ad .C)) g:=Yz (Q7 hv) h.atW (by decide) (Qca ..)
theorem a_pending(h:Rp T g0 M g ad s gk)(hv:σ[i]?=some (vR (ad .W))):Qz [15] "pending" (mVar i) σ g=.ok (.ref (ad .P)) g:=Yz (Q7 hv) h.atW (by decide) (Qhd ..)
theorem a_machine(h:Rp T g0 M g ad s gk)(hv:σ[i]?=some (vR (ad .W))):Qz [15] "machine" (mVar i) σ g=.ok (.ref M) g:=Yz (Q7 hv) h.atW (by decide) (Qhc ..)
theorem a_sides(h:Rp T g0 M g ad s gk)(hv:σ[i]?=some (vR (ad .W))):Qz [15] "sides" (mVar i) σ g=.ok (.ref (ad .S)) g:=Yz (Q7 hv) h.atW (by decide) (Qgu ..)
theorem a_asking(h:Rp T g0 M g ad s gk)(hv:σ[i]?=some (vR (ad .W))):Qz [15] "asking" (mVar i) σ g=.ok (.ref (ad .A)) g:=Yz (Q7 hv) h.atW (by decide) (Qjr ..)
theorem QdK:∀{cs:List Ct},nGet (cs.map λc=>(Sum.inr c,D.bl true)) (.inr c)=if c∈cs then some (.bl true) else none
 |[]=>rfl|d::cs=>by
  have ih:=QdK (c:=c) (cs:=cs);unfold nGet at ih ⊢;rw[UO,TH];by_cases e:d=c
  ·subst e;rw[Uq rfl];simp
  ·rw[UC (λz=>e (Sum.inr.inj z))];dsimp only;rw[ih];simp[Ne.symm e]
theorem QcS(h:Rp T g0 M g ad s gk)(ok:okS w n m T s)(f:Few w n m)(c:Ct):∃g',QA [.ref (ad .W),ctD c] g=.ok .non g'/\Rp T g0 M g' ad (ask s c) gk/\(∀a,a≠ad .C->a≠ad .P->g'[a]?=g[a]?):=by
 have e0:Qj (mOp2 QbU (mVar 1) (Qz [15] "contexts" (mVar 0))) [vR (ad .W),some (ctD c)] g=.ok (!(if c∈s.cs then some (D.bl true) else none).isSome) g:=by refine Qn (Qi (x:=ctD c) (y:=.ref (ad .C)) (g1:=g) (g2:=g) rfl (a_contexts h rfl) ?_);unfold QbU nAt;dsimp only;rw[h.atC];dsimp only;rw[sk_c];dsimp only;rw[QdK]
 by_cases hc:c∈s.cs
 ·rw[Ue hc]at e0;refine⟨g,Qb8 rfl (iff' g e0 rfl),?_,λ_ _ _=>rfl⟩;unfold ask;rw[Ue hc];exact h
 ·rw[Uf hc]at e0;have hne:ad .C≠ad .P:=λz=>by have:=h.inj .C .P trivial trivial z;cases this
  have s1:({s with cs:=s.cs++[c]}:PSt).cs=s.cs++[c]:=rfl;have h1:=h.set (k:=.C) trivial (s':={s with cs:=s.cs++[c]}) (λk' _ hk=>by cases k' with|C=>exact absurd rfl hk|L x y k=>cases x<;>rfl|_=>rfl) h.kg h.ka;have h2:=h1.set (k:=.P) trivial (s':={s with cs:=s.cs++[c],pd:=s.pd++[c]}) (λk' _ hk=>by cases k' with|P=>exact absurd rfl hk|L x y k=>cases x<;>rfl|_=>rfl) h.kg h.ka;refine⟨_,Qb8 (σ:=[vR (ad .W),some (ctD c)]) rfl ?_,by unfold ask;rw[Uf hc];exact h2,λa a1 a2=>by rw[Uh (Ne.symm a2),Uh (Ne.symm a1)]⟩;show Zx [vR (ad .W),some (ctD c)] g=_;unfold Zx;refine ift g e0 (Qh [vR (ad .W),some (ctD c)] (g.set (ad .C) (ctn T M ad {s with cs:=s.cs++[c]} gk .C)) ?_ (Z7 (d:=.non) ?_))
  ·show JZ _ _ _ [vR (ad .W),some (ctD c)] g=_;unfold JZ;rw[show mLit (.bl true) [vR (ad .W),some (ctD c)] g=.ok (.bl true) g from rfl];dsimp only;rw[a_contexts h rfl];dsimp only;rw[show mVar 1 [vR (ad .W),some (ctD c)] g=.ok (ctD c) g from rfl];dsimp only;rw[h.atC];dsimp only;rw[sk_c];dsimp only;rw[Ue (by rw[Ud];exact Qhb (Uk (ok.cl f) (by decide)))];have:nPut (s.cs.map λc=>(Sum.inr c,D.bl true)) (.inr c) (.bl true)=(s.cs++[c]).map λc=>(Sum.inr c,D.bl true):=by unfold nPut;rw[QdK,Uf hc,U4];rfl
   rw[this];rfl
  ·refine(Y0 (o:=Qz [15] "pending" (mVar 0)) (e:=mVar 1) (n:=ad .P) (y:=ctD c) (a_pending h1 rfl) h1.atP rfl ?_).trans ?_
   ·rw[Ud];have:=ok.l;have:=ok.cl f;show s.pd.length<=1000;omega
   ·rw[show ctn T M ad {s with cs:=s.cs++[c],pd:=s.pd++[c]} gk .P=.lst (s.pd.map ctD++[ctD c]) by show GO.lst _=_;rw[U4];rfl]
end L3
namespace L3
open PySem
def TR(rows:List (List D)):TT3:=λp q=>entO (eAt rows p q)
theorem QdL(h:g[t]?=some (.dct (twoD a b))):Qs (.ref t) (.str (wS y)) g=.ok (.ref (if y=true then b else a)) g:=by unfold Qs;dsimp only;rw[h];dsimp only;cases y<;>rfl
theorem Qjs(h:Rp T g0 M g ad s gk)(hv:σ[i]?=some (vR (ad .W)))(hj:σ[j]?=some (some (.str (wS y)))):mOp2 Qs (Qz [15] "sides" (mVar i)) (mVar j) σ g=.ok (.ref (ad (.G y))) g:=by rw[Qi (a_sides h hv) (Q7 hj) (QdL (h.at' .S trivial))];cases y<;>rfl
theorem Qgv(h:Rp T g0 M g ad s gk)(hv:σ[i]?=some (vR (ad .W)))(hj:σ[j]?=some (some (.str (wS y)))):mOp2 Qs (Qz [15] "asking" (mVar i)) (mVar j) σ g=.ok (.ref (ad (.B true y))) g:=by rw[Qi (a_asking h hv) (Q7 hj) (QdL (h.at' .A trivial))];cases y<;>rfl
theorem QlJ(h:Rp T g0 M g ad s gk)(ha:(a=ad (.L x y k)/\k∈gk x y)\/a=g.length):a≠ad .C/\a≠ad .P:=by
 rcases ha with⟨rfl,hk⟩|rfl
 ·exact⟨λz=>(by have:=h.inj (.L x y k) .C hk trivial z;cases this),λz=>(by have:=h.inj (.L x y k) .P hk trivial z;cases this)⟩
 ·have h1:=h.lt (k:=.C) trivial;have h2:=h.lt (k:=.P) trivial;omega
theorem Qby(ht:Tb rows n m)(h:okC w n m c)(hT:TR rows c.2.1 c.2.2.1≠none):∃i b j,TR rows c.2.1 c.2.2.1=some (i,b,j)/\eAt rows c.2.1 c.2.2.1=enD i b j/\0<=i/\i<m/\0<=j/\j<n:=by
 obtain⟨r,h1,h2,h3⟩:=ht.at' h.2.1.1 h.2.1.2 h.2.2.1.1 h.2.2.1.2;rcases h3.cases with⟨_,e⟩|⟨i,b,j,e1,e2,e3⟩
 ·exact absurd e hT
 ·exact⟨i,b,j,e2,e1,e3⟩
theorem Qgw(h:Rp (TR rows) g0 M g ad s gk)(ok:okS w n m (TR rows) s)(f:Few w n m)(ho:o σ g=.ok (.ref (ad .W)) g)(ha:a σ g=.ok [ctD c] g):∃g',Yb (Yc 15 (Str.ofString "ask_for") QA o a) σ g=.nx σ g'/\Rp (TR rows) g0 M g' ad (ask s c) gk/\(∀a,a≠ad .C->a≠ad .P->g'[a]?=g[a]?):=by obtain⟨g',e1,h1,k1⟩:=QcS h ok f c;exact⟨g',Z7 ((Q1 ho h.atW (QlI ..) ha).trans e1),h1,k1⟩
theorem QaD(s:PSt)(cs:List Ct)(c:Ct):askL s (cs++[c])=ask (askL s cs) c:=by unfold askL;rw[List.foldl_append];rfl
theorem Y1{α:Type}{l:List α}{i:Nat}{x:α}(h:l[i]?=some x):l.take (i+1)=l.take i++[x]:=by obtain⟨hi,e⟩:=Um.mp h;rw[Tk hi,e]
theorem Qfu(hM:g0[M]?=some (Qac rows))(ht:Tb rows n m)(h:Rp (TR rows) g0 M g ad s gk)(ok:okS w n m (TR rows) s)(f:Few w n m)(kb:KB w m gk)(y:Bool){u:List Int}(hu:okG w m u):∃g' ad' gk',Zg [.ref (ad .W),.str (wS y),gmD u] g=.ok .non g'/\Rp (TR rows) g0 M g' ad' (Zc (TR rows) s y u) gk'/\okS w n m (TR rows) (Zc (TR rows) s y u)/\KB w m gk'/\(∀k0,alo gk k0->ad' k0=ad k0):=by
 have h1:=h.push (.lst []);have e1:Qj (Yc 14 (Str.ofString "has") Zw (mOp2 Qs (Qz [15] "sides" (mVar 0)) (mVar 1)) (Qa (mVar 2) mNil)) [vR (ad .W),some (.str (wS y)),vM u,none] g=.ok (decide (u∈s.gs y)) (g++[.lst []]):=Qn ((Q1 (xs:=[gmD u]) (g2:=g) (Qjs h rfl rfl) (h.atG y) (Qjn _) rfl).trans (QlH h y u))
 by_cases hn:u∈s.gs y
 ·rw[Uq hn]at e1;refine⟨_,ad,gk,QT rfl (YY (ift _ e1 rfl)),?_,?_,kb,λ_ _=>rfl⟩
  ·unfold Zc;rw[Ue hn];exact h1
  ·unfold Zc;rw[Ue hn];exact ok
 ·rw[UC hn]at e1;obtain⟨g2,ad',gk',e2,h2,kb',old,gks⟩:=Qjq h1 ok f kb hu hn;have ok2:=ok.addG hu hn;have oW:ad' .W=ad .W:=old .W trivial;have oG:ad' (.G y)=ad (.G y):=old (.G y) trivial;obtain⟨a,e3,e4,e5⟩:=QlE (σ:=[vR (ad .W),some (.str (wS y)),vM u,none]) h2 (o:=mOp2 Qs (Qz [15] "asking" (mVar 0)) (mVar 1)) (e:=QW (mVar 2) QD (ZM (mOp1 pNeg (mI 1)))) (x:=true) (y:=y) (k:=u.dropLast) (Qgv h2 (by rw[oW];rfl) rfl) (by simp only[ZV,ZK,Jc];exact QaY u _);have h3:=h2.push (.lst []);have hne:=QlJ h2 e5;have hL:∀c∈s.dn.filter (YZ (TR rows) y u.dropLast),okC w n m c/\∃i j,TR rows c.2.1 c.2.2.1=some (i,y,j)/\eAt rows c.2.1 c.2.2.1=enD i y j/\0<=i/\i<m/\0<=j/\j<n:=λc hc=>by obtain⟨c1,c2⟩:=U3.mp hc;have okc:=ok.c c (ok.d c c1).1;obtain⟨i,b,j,q1,q2,q3⟩:=Qby ht okc (ok.d c c1).2;unfold YZ at c2;rw[q1]at c2;have:=(UA c2).1;subst this;exact⟨okc,i,j,q1,q2,q3⟩
  obtain⟨σ',g',e6,x3,q1,q2,q3,q4⟩:=QdJ (t:=gSet 3) (body:=ZJ) e3 e4 (λi σ' g'=>∃x3,σ'=[vR (ad .W),some (.str (wS y)),vM u,x3]/\Rp (TR rows) g0 M g' ad' (askL (addG s y u) (((s.dn.filter (YZ (TR rows) y u.dropLast)).take i).map λc=>nxT (TR rows) c u)) gk'/\okS w n m (TR rows) (askL (addG s y u) (((s.dn.filter (YZ (TR rows) y u.dropLast)).take i).map λc=>nxT (TR rows) c u))/\g'[a]?=some (.lst (Jv (TR rows) (addG s y u) true y u.dropLast)))
   ⟨none,rfl,h3,ok2,e4⟩ (λi σ' g' hh=>hh.elim λ_ q=>q.2.2.2) (λi d σ' g' hd hh=>by
    obtain⟨x3,q1,q2,q3,q4⟩:=hh;subst q1;have hd:((s.dn.filter (YZ (TR rows) y u.dropLast)).map ctD)[i]?=some d:=hd;rw[UJ]at hd;obtain⟨c,hc,rfl⟩:=UW.mp hd;obtain⟨okc,ii,jj,t1,t2,t3,t4,t5,t6⟩:=hL c (Td hc);have nx:nxT (TR rows) c u=nxC ii y jj c u:=by unfold nxT;rw[t1]
    have hM':g'[M]?=some (Qac rows):=q2.old.at' M _ (by simp) hM;obtain⟨g3,a1,a2,a3⟩:=Qgw (σ:=[vR (ad .W),some (.str (wS y)),vM u,some (ctD c)]) q2 q3 f (c:=nxC ii y jj c u) (o:=mVar 0) (a:=Qa (Qr Q3 (Qa (Qr YV (Qa (Qz [15] "machine" (mVar 0)) (Qa (mVar 3) mNil))) (Qa (mVar 3) (Qa (mVar 2) mNil)))) mNil) (by rw[oW];rfl)
     (Qf ((Qw (ds:=[enD ii y jj,ctD c,gmD u]) (g':=g') (Qf (g1:=g') ((Qw (ds:=[.ref M,ctD c]) (g':=g') (Qf (g1:=g') (a_machine q2 (by rw[oW];rfl)) rfl)).trans (by rw[Qad hM' ht okc,t2])) rfl)).trans (Qgs ii y jj c u g' f.w1 (Uk f.w3 (by decide)) okc)) rfl)
    rw[<-nx,<-QaD]at a2;have e7:((s.dn.filter (YZ (TR rows) y u.dropLast)).take i).map (λc=>nxT (TR rows) c u)++[nxT (TR rows) c u]=((s.dn.filter (YZ (TR rows) y u.dropLast)).take (i+1)).map λc=>nxT (TR rows) c u:=by rw[Y1 hc,U4];rfl
    rw[e7]at a2;have ok3:=q3.ask (okc.nx (b:=y) f.w1 hu t3 t4 t5 t6);rw[<-nx,<-QaD,e7]at ok3;exact⟨_,_,g3,rfl,a1,some (ctD c),rfl,a2,ok3,by rw[a3 a hne.1 hne.2];exact q4⟩)
  have fin:(s.dn.filter (YZ (TR rows) y u.dropLast)).take (Jv (TR rows) (addG s y u) true y u.dropLast).length=s.dn.filter (YZ (TR rows) y u.dropLast):=RT (by show _<=(List.map ctD _).length;rw[Ud];exact Ug _);rw[fin]at q2 q3;have pe:Zc (TR rows) s y u=askL (addG s y u) ((s.dn.filter (YZ (TR rows) y u.dropLast)).map λc=>nxT (TR rows) c u):=Uf hn;refine⟨g',ad',gk',Qb8 (σ:=σ') rfl ?_,by rw[pe];exact q2,by rw[pe];exact q3,kb',old⟩;show Zf [vR (ad .W),some (.str (wS y)),vM u,none] g=_;unfold Zf;refine Qh [vR (ad .W),some (.str (wS y)),vM u,none] (g++[.lst []]) (iff' _ e1 rfl) ?_;refine Qh [vR (ad .W),some (.str (wS y)),vM u,none] g2 (Z7 (d:=.non) ((Q1 (xs:=[gmD u]) (g2:=g++[.lst []]) (Qjs h1 rfl rfl) (h1.atG y) (QlF _) rfl).trans e2)) e6
end L3
namespace L3
open PySem
theorem okS.pop(h:okS w n m T s):okS w n m T (popW s):=⟨h.g,h.gn,h.c,h.cn,λc hc=>h.p c (W1 _ hc),h.d,by have:=h.l;show s.dn.length+s.pd.dropLast.length<=s.cs.length;rw[Rc];omega⟩
theorem okS.done{T:TT3}(h:okS w n m T s){c:Ct}(hc:c∈s.cs)(hT:T c.2.1 c.2.2.1≠none)(hl:s.dn.length+s.pd.length+1<=s.cs.length):okS w n m T (Qft s c):=⟨h.g,h.gn,h.c,h.cn,h.p,λx hx=>by
 rcases Uu.mp hx with z|z
 ·exact h.d x z
 ·rw[Uj.mp z];exact⟨hc,hT⟩,by
 show(s.dn++[c]).length+s.pd.length<=s.cs.length;rw[Us,Ti];omega⟩
theorem Qm9(s:PSt)(c:Ct):(ask s c).dn=s.dn/\(ask s c).gs=s.gs/\(ask s c).cs.length+s.pd.length=s.cs.length+(ask s c).pd.length/\(∀x∈s.cs,x∈(ask s c).cs):=by
 unfold ask;split
 ·exact⟨rfl,rfl,rfl,λ_ z=>z⟩
 ·refine⟨rfl,rfl,?_,λx z=>Uu.mpr (.inl z)⟩;show(s.cs++[c]).length+_=_+(s.pd++[c]).length;rw[Us,Us];simp only[Ti];omega
theorem Jd:∀(cs:List Ct)(s:PSt),(askL s cs).dn=s.dn/\(askL s cs).gs=s.gs/\(askL s cs).cs.length+s.pd.length=s.cs.length+(askL s cs).pd.length/\(∀x∈s.cs,x∈(askL s cs).cs)
 |[],_=>⟨rfl,rfl,rfl,λ_ z=>z⟩|c::cs,s=>by obtain⟨a1,a2,a3,a4⟩:=Qm9 s c;obtain⟨b1,b2,b3,b4⟩:=Jd cs (ask s c);show(askL (ask s c) cs).dn=_/\_;refine⟨b1.trans a1,b2.trans a2,?_,λx z=>b4 x (a4 x z)⟩;show(askL (ask s c) cs).cs.length+_=_+(askL (ask s c) cs).pd.length;omega
theorem Qbz(T:TT3)(s:PSt)(y:Bool)(u:List Int):(Zc T s y u).dn=s.dn/\(Zc T s y u).cs.length+s.pd.length=s.cs.length+(Zc T s y u).pd.length/\(∀x∈s.cs,x∈(Zc T s y u).cs):=by
 unfold Zc;split
 ·exact⟨rfl,rfl,λ_ z=>z⟩
 ·obtain⟨a1,_,a3,a4⟩:=Jd ((s.dn.filter (YZ T y u.dropLast)).map λc=>nxT T c u) (addG s y u);exact⟨a1,a3,a4⟩
theorem QeF(h:¬(x'=true/\YZ T y' k' c=true)):Jv T (Qft s c) x' y' k'=Jv T s x' y' k':=by
 cases x' with
 |false=>rfl|true =>show List.map _ (List.filter _ (s.dn++[c]))=List.map _ (List.filter _ s.dn);rw[RC,Wz λz=>h ⟨rfl,z⟩];simp
theorem QlK(h:Rp T g0 M g ad s gk)(hp:s.pd=r++[c])(hv:σ[i]?=some (vR (ad .W))):mOp1 pPop (Qz [15] "pending" (mVar i)) σ g=.ok (ctD c) (g.set (ad .P) (ctn T M ad (popW s) gk .P)):=by refine Ze (a_pending h hv) ?_;unfold pPop;dsimp only;rw[h.atP];dsimp only;rw[hp];simp only[U4,UO,List.map_nil,Us,Ud,Ti,Nat.add_sub_cancel];rw[UE (by rw[Ud];exact Ug _),Ud,Nat.sub_self];show Res.ok (ctD c) (g.set (ad .P) (GO.lst (r.map ctD++[ctD c]).dropLast))=_;congr 2;show GO.lst _=GO.lst (List.map ctD s.pd.dropLast);rw[hp];simp
theorem Rp.pop(h:Rp T g0 M g ad s gk):Rp T g0 M (g.set (ad .P) (ctn T M ad (popW s) gk .P)) ad (popW s) gk:=h.set (k:=.P) trivial (s':=popW s) (λk' _ hk=>by cases k' with|P=>exact absurd rfl hk|L x y k=>cases x<;>rfl|_=>rfl) h.kg h.ka
theorem Qjt(hM:g0[M]?=some (Qac rows))(ht:Tb rows n m)(h:Rp (TR rows) g0 M g ad s gk)(ok:okS w n m (TR rows) s)(hp:s.pd=r++[c])(hT:TR rows c.2.1 c.2.2.1=none):∃g',QB [.ref (ad .W)] g=.ok (.bl false) g'/\Keeps [] g0 g':=by
 have hc:c∈s.cs:=ok.p c (by rw[hp];simp);have okc:=ok.c c hc;have h1:=h.pop;obtain⟨_,_,_,h3⟩:=ht.at' okc.2.1.1 okc.2.1.2 okc.2.2.1.1 okc.2.2.1.2;have en:eAt rows c.2.1 c.2.2.1=.non:=by
  rcases h3.cases with⟨e,_⟩|⟨i,b,j,_,e2,_⟩
  ·exact e
  ·exact absurd (hT.symm.trans e2) (λz=>by cases z)
 refine⟨_,QT rfl ?_,h1.old⟩;show QL [vR (ad .W),none,none,none,none,none] g=_;unfold QL;refine Qh [vR (ad .W),some (ctD c),none,none,none,none] _ (Qv (QlK h hp rfl)) ?_;refine Qh [vR (ad .W),some (ctD c),some .non,none,none,none] _ (Qv ((Qw (ds:=[.ref M,ctD c]) (Qf (a_machine h1 rfl) rfl)).trans (by rw[Qad (h1.old.at' M _ (by simp) hM) ht okc,en]))) ?_;exact YY (ift _ (Qn (Qi (x:=.non) (y:=.non) rfl rfl rfl)) rfl)
theorem QdM(hT:T c.2.1 c.2.2.1=some (i,b,j)):YZ T y k c=decide (b=y/\(ahd b c).tail=k):=by unfold YZ;rw[hT]
theorem Qju(hM:g0[M]?=some (Qac rows))(ht:Tb rows n m)(h:Rp (TR rows) g0 M g ad s gk)(ok:okS w n m (TR rows) s)(f:Few w n m)(kb:KB w m gk){c:Ct}{r:List Ct}(hp:s.pd=r++[c]){i j:Int}{b:Bool}(hT:TR rows c.2.1 c.2.2.1=some (i,b,j)):
  ∃g' ad' gk',QB [.ref (ad .W)] g=.ok (.bl true) g'/\Rp (TR rows) g0 M g' ad' (Yg (TR rows) s c i b j) gk'/\okS w n m (TR rows) (Yg (TR rows) s c i b j)/\KB w m gk'/\ad' .W=ad .W:=by
 have hc:c∈s.cs:=ok.p c (by rw[hp];simp);have okc:=ok.c c hc;have h1:=h.pop;have ok1:=ok.pop;have hTn:TR rows c.2.1 c.2.2.1≠none:=by rw[hT];exact λz=>by cases z
 obtain⟨i',b',j',t1,t2,t3,t4,t5,t6⟩:=Qby ht okc hTn;rw[hT]at t1;cases t1;have hM1:(g.set (ad .P) (ctn (TR rows) M ad (popW s) gk .P))[M]?=some (Qac rows):=h1.old.at' M _ (by simp) hM;have oA:=okc.a b
 -- the gram behind
 obtain⟨g2,ad2,gk2,e2,h2,ok2,kb2,old2⟩:=Qfu hM ht h1 ok1 f kb (!b) (okc.b b);have oW2:ad2 .W=ad .W:=old2 .W trivial;obtain⟨l1,l2,l3⟩:=Qbz (TR rows) (popW s) (!b) (bhd b c)
 -- asking
 obtain⟨g3,ad3,gk3,e3,h3,hk3,old3,gkc⟩:=QeD (σ:=[vR (ad .W),some (ctD c),some (enD i b j),some (.str (wS b)),some (gmD (ahd b c).tail),none]) h2 (o:=mOp2 Qs (Qz [15] "asking" (mVar 0)) (mVar 3)) (e:=mVar 4) (x:=true) (y:=b) (k:=(ahd b c).tail) (Uk (kb2.len h2.nd f _ _) (by decide)) (Qgv h2 (by rw[oW2];rfl) rfl) rfl;have oW3:ad3 .W=ad .W:=(old3 .W trivial).trans oW2;have kb3:KB w m gk3:=by
  rcases gkc with rfl|rfl
  ·exact kb2
  ·exact kb2.new oA.tail
 have ha3:alo gk3 (.L true b (ahd b c).tail):=hk3;have as1:YZ (TR rows) b (ahd b c).tail c=true:=by rw[QdM hT];simp
 have h4:=h3.set ha3 (s':=Qft (Zc (TR rows) (popW s) (!b) (bhd b c)) c) (λk' hk' hne=>by
  cases k' with
  |L x' y' k' =>refine RL GO.lst (QeF λz=>hne ?_);obtain⟨z1,z2⟩:=z;rw[QdM hT]at z2;obtain⟨z3,z4⟩:=UA z2;rw[z1,<-z3,<-z4]|_=>rfl) h3.kg (λy' x k' hx hy=>by
   rcases Uu.mp (show x∈_++[c] from hx) with z|z
   ·exact h3.ka y' x k' z hy
   ·rw[Uj.mp z,QdM hT]at hy;obtain⟨z3,z4⟩:=UA hy;rw[<-z3,<-z4];exact hk3)
 have ap:=Y0 (σ:=[vR (ad .W),some (ctD c),some (enD i b j),some (.str (wS b)),some (gmD (ahd b c).tail),none]) (e:=mVar 1) (y:=ctD c) e3 (h3.at' _ ha3) rfl (Uk (ok2.contl f true b _) (by decide));have ce:GO.lst (Jv (TR rows) (Zc (TR rows) (popW s) (!b) (bhd b c)) true b (ahd b c).tail++[ctD c])=ctn (TR rows) M ad3 (Qft (Zc (TR rows) (popW s) (!b) (bhd b c)) c) gk3 (.L true b (ahd b c).tail):=by show _=GO.lst (List.map ctD (List.filter _ (_++[c])));rw[RC,RO as1,U4];rfl
 rw[ce]at ap;have ok4:okS w n m (TR rows) (Qft (Zc (TR rows) (popW s) (!b) (bhd b c)) c):=ok2.done (l3 c hc) hTn (by
  rw[l1];have q1:=ok.l;have q2:s.pd.length=s.pd.dropLast.length+1:=by rw[hp];simp
  have q3:(Zc (TR rows) (popW s) (!b) (bhd b c)).cs.length+s.pd.dropLast.length=s.cs.length+(Zc (TR rows) (popW s) (!b) (bhd b c)).pd.length:=l2;show s.dn.length+_+1<=_;omega)
 generalize hs3:Qft (Zc (TR rows) (popW s) (!b) (bhd b c)) c=s3 at h4 ok4 ap;generalize hg4:g3.set (ad3 (.L true b (ahd b c).tail)) (ctn (TR rows) M ad3 s3 gk3 (.L true b (ahd b c).tail))=g4 at h4 ap
 -- the grams ahead
 obtain⟨a,e5,e6,e7⟩:=Qbd h4 b (ahd b c).tail;have h5:=h4.push (.lst []);have hne:=QlJ h4 e7;have e8:Yc 14 (Str.ofString "beginning") QJ (mOp2 Qs (Qz [15] "sides" (mVar 0)) (mVar 3)) (Qa (mVar 4) mNil) [vR (ad .W),some (ctD c),some (enD i b j),some (.str (wS b)),some (gmD (ahd b c).tail),none] g4=.ok (.ref a) (g4++[.lst []]):=(Q1 (xs:=[gmD (ahd b c).tail]) (g2:=g4) (Qjs h4 (by rw[oW3];rfl) rfl) (h4.atG b) (Qjm _) rfl).trans e5;obtain⟨σ',g',e9,x5,q1,q2,q3,q4⟩:=QdJ (t:=gSet 5) (body:=ZO) e8 e6 (λk σ' g'=>∃x5,σ'=[vR (ad .W),some (ctD c),some (enD i b j),some (.str (wS b)),some (gmD (ahd b c).tail),x5]/\Rp (TR rows) g0 M g' ad3 (askL s3 (((gF s3 b (ahd b c).tail).take k).map λu=>nxC i b j c u)) gk3/\okS w n m (TR rows) (askL s3 (((gF s3 b (ahd b c).tail).take k).map λu=>nxC i b j c u))/\g'[a]?=some (.lst (Jv (TR rows) s3 false b (ahd b c).tail)))
  ⟨none,rfl,h5,ok4,e6⟩ (λi σ' g' hh=>hh.elim λ_ q=>q.2.2.2) (λk d σ' g' hd hh=>by
   obtain⟨x5,q1,q2,q3,q4⟩:=hh;subst q1;have hd:((gF s3 b (ahd b c).tail).map gmD)[k]?=some d:=hd;rw[UJ]at hd;obtain⟨u,hu,rfl⟩:=UW.mp hd;have oku:okG w m u:=ok4.g b u (U3.mp (Td hu)).1;obtain⟨g6,a1,a2,a3⟩:=Qgw (σ:=[vR (ad .W),some (ctD c),some (enD i b j),some (.str (wS b)),some (gmD (ahd b c).tail),vM u]) q2 q3 f (c:=nxC i b j c u) (o:=mVar 0) (a:=Qa (Qr Q3 (Qa (mVar 2) (Qa (mVar 1) (Qa (mVar 5) mNil)))) mNil) (by rw[oW3];rfl)
    (Qf ((Qw (ds:=[enD i b j,ctD c,gmD u]) (g':=g') rfl).trans (Qgs i b j c u g' f.w1 (Uk f.w3 (by decide)) okc)) rfl)
   rw[<-QaD]at a2;have e7:(((gF s3 b (ahd b c).tail).take k).map λu=>nxC i b j c u)++[nxC i b j c u]=(((gF s3 b (ahd b c).tail).take (k+1)).map λu=>nxC i b j c u):=by rw[Y1 hu,U4];rfl
   rw[e7]at a2;have ok6:=q3.ask (okc.nx (b:=b) f.w1 oku t3 t4 t5 t6);rw[<-QaD,e7]at ok6;exact⟨_,_,g6,rfl,a1,vM u,rfl,a2,ok6,by rw[a3 a hne.1 hne.2];exact q4⟩)
 have fin:(gF s3 b (ahd b c).tail).take (Jv (TR rows) s3 false b (ahd b c).tail).length=gF s3 b (ahd b c).tail:=RT (by show _<=(List.map gmD _).length;rw[Ud];exact Ug _);rw[fin]at q2 q3;have pe:Yg (TR rows) s c i b j=askL s3 ((gF s3 b (ahd b c).tail).map λu=>nxC i b j c u):=by unfold Yg;rw[hs3]
 refine⟨g',ad3,gk3,QT rfl ?_,by rw[pe];exact q2,by rw[pe];exact q3,kb3,oW3⟩;show QL [vR (ad .W),none,none,none,none,none] g=_;unfold QL;refine Qh [vR (ad .W),some (ctD c),none,none,none,none] _ (Qv (QlK h hp rfl)) ?_;refine Qh [vR (ad .W),some (ctD c),some (enD i b j),none,none,none] _ (Qv ((Qw (ds:=[.ref M,ctD c]) (Qf (a_machine h1 rfl) rfl)).trans (by rw[Qad hM1 ht okc,t2]))) ?_;refine Qh [vR (ad .W),some (ctD c),some (enD i b j),none,none,none] _ (iff' _ (Qn (Qi (x:=enD i b j) (y:=.non) rfl rfl rfl)) rfl) ?_;refine Qh [vR (ad .W),some (ctD c),some (enD i b j),some (.str (wS b)),none,none] _ (Qv (Qi (x:=enD i b j) (y:=.int 1) rfl rfl QlB)) ?_;refine Qh [vR (ad .W),some (ctD c),some (enD i b j),some (.str (wS b)),none,none] g2 (Z7 (d:=.non) ((Q1 (xs:=[.str (wS !b),gmD (bhd b c)]) rfl h1.atW (Qm7 ..) (Qf ((Qw (ds:=[.str (wS b)]) rfl).trans (QkI b _)) (Qf ((Qw (ds:=[enD i b j,ctD c]) rfl).trans (QeB i b j c _)) rfl))).trans e2)) ?_;refine Qh [vR (ad .W),some (ctD c),some (enD i b j),some (.str (wS b)),some (gmD (ahd b c).tail),none] g2 (Qv ?_) ?_
 ·simp only[ZV,ZK,Jc];rw[(Qw (ds:=[enD i b j,ctD c]) (g':=g2) rfl).trans (Qgr i b j c g2)];exact Qjk _ g2
 refine Qh [vR (ad .W),some (ctD c),some (enD i b j),some (.str (wS b)),some (gmD (ahd b c).tail),none] g4 (Z7 (d:=.non) ap) ?_;refine Qh σ' g' e9 ?_;exact Q6 rfl
end L3
namespace L3
open PySem
theorem getx{g l:G}{i:Nat}{o:GO}(h:l[i]?=some o):(g++l)[g.length+i]?=some o:=by rw[UE (U6 _ _),Ri];exact h
theorem setx{g l:G}{i:Nat}{o:GO}:(g++l).set (g.length+i) o=g++l.set i o:=by rw[B8 _ _ (U6 _ _),Ri]
theorem get0  : (g++o::l)[g.length]?=some o:=by simp
theorem set0  : (g++o::l).set g.length u=g++u::l:=by simp
theorem QdN:YE [.ref g.length] (g++[.ins 14 []])=.ok .non (g++[.ins 14 (grF (g.length+1)),.dcn false []]):=by
 refine Qb8 (σ:=[vR g.length]) rfl ?_;show Q4 [14] "by_seen" (mVar 0) (Jr false) [vR g.length] (g++[.ins 14 []])=_;unfold Q4 Jr;dsimp only;rw[show mVar 0 [some (D.ref g.length)] (g++[GO.ins 14 []]++[GO.dcn false []])=.ok (.ref g.length) (g++[GO.ins 14 []]++[GO.dcn false []]) from rfl];dsimp only;rw[Ut,show [GO.ins 14 []]++[GO.dcn false []]=[GO.ins 14 [],.dcn false []] from rfl,get0];dsimp only;rw[Ue ⟨by decide,by decide⟩,set0];have e:(g++[GO.ins 14 []]).length=g.length+1:=by simp
 rw[e];rfl
theorem Qfv{g:G}{t:Nat}{u:List Int}(ht:g[t]?=some (.lst [gmD u])):ZR [.ref t] g=.ok (.ref g.length) (g++[.ins 14 (grF (g.length+1)),.dcn false [(.inl u.dropLast,.ref (g.length+3))],.lst [],.lst [gmD u]]):=by
 have e1:QaO 14 YE mNil [vR t,none,none] g=.ok (.ref g.length) (g++[.ins 14 (grF (g.length+1)),.dcn false []]):=by unfold QaO;rw[show mNil [some (D.ref t),none,none] g=.ok [] g from rfl,Res.bind_ok,QdN,Res.bind_ok]
 have hl:(g++[GO.ins 14 (grF (g.length+1)),.dcn false []]).length=g.length+2:=by simp
 have hl2:(g++[GO.ins 14 (grF (g.length+1)),.dcn false [],.lst []]).length=g.length+3:=by simp
 have beg:QJ [.ref g.length,gmD u.dropLast] (g++[.ins 14 (grF (g.length+1)),.dcn false []])=.ok (.ref (g.length+2)) (g++[.ins 14 (grF (g.length+1)),.dcn false [],.lst []]):=by refine QT rfl (Q6 ?_);refine(Qbx (n:=g.length+1) (τ:=false) (ks:=[]) (y:=gmD u.dropLast) (z:=.ref (g.length+2)) (kk:=.inl u.dropLast) (g1:=g++[.ins 14 (grF (g.length+1)),.dcn false [],.lst []]) (Yz (n:=g.length) rfl get0 (by decide) lk1) (getx rfl) rfl ?_ (getx rfl) (sk_g _)).trans rfl;rw[QcR];simp[grF]
 have has:Zw [.ref g.length,gmD u] (g++[.ins 14 (grF (g.length+1)),.dcn false []])=.ok (.bl false) (g++[.ins 14 (grF (g.length+1)),.dcn false [],.lst []]):=by
  refine QT rfl (Q6 (Qi (x:=gmD u) (y:=.ref (g.length+2)) rfl ((Q1 (n:=g.length) (xs:=[gmD u.dropLast]) rfl get0 (Qjm _) ?_).trans beg) ?_))
  ·simp only[Qb9,ZV,ZK,Jc,QcO];exact RL (λr=>match r with|Res.ok x g1=>Res.ok [x] g1 | .raise e g'=>.raise e g' | .stuck=>.stuck) (QaY u _)
  ·unfold pInG;rw[sk_g];dsimp only;rw[show g.length+2=g.length+2 from rfl,getx (i:=2) rfl];rfl
 have put:Zq [.ref g.length,gmD u] (g++[.ins 14 (grF (g.length+1)),.dcn false []])=.ok .non (g++[.ins 14 (grF (g.length+1)),.dcn false [(.inl u.dropLast,.ref (g.length+3))],.lst [],.lst [gmD u]]):=by
  refine Qb8 (σ:=[vR g.length,vM u]) rfl ?_;show Zp [vR g.length,vM u] _=_;unfold Zp;refine ift (g++[.ins 14 (grF (g.length+1)),.dcn false [],.lst []]) ?_ (Z7 (d:=.non) ?_)
  ·unfold Yn;rw[Qn (b:=false) ((Q1 (n:=g.length) (xs:=[gmD u]) rfl get0 (Qjn _) rfl).trans has)];rfl
  ·have sd:JJ (Qz [14] "by_seen" (mVar 0)) (QW (mVar 1) QD (ZM (mOp1 pNeg (mI 1)))) (mOpA newL mNil) [vR g.length,vM u] (g++[.ins 14 (grF (g.length+1)),.dcn false [],.lst []])=.ok (.ref (g.length+3)) (g++[.ins 14 (grF (g.length+1)),.dcn false [(.inl u.dropLast,.ref (g.length+3))],.lst [],.lst []]):=by
    refine(Qbx (n:=g.length+1) (τ:=false) (ks:=[]) (y:=gmD u.dropLast) (z:=.ref (g.length+3)) (kk:=.inl u.dropLast) (g1:=g++[.ins 14 (grF (g.length+1)),.dcn false [],.lst [],.lst []]) (Yz (n:=g.length) rfl get0 (by decide) lk1) (getx rfl) ?_ ?_ (getx rfl) (sk_g _)).trans ?_
    ·simp only[ZV,ZK,Jc];exact QaY u _
    ·rw[QcR];simp[grF]
    ·show Res.ok _ ((g++_).set (g.length+1) _)=_;rw[setx];rfl
   rw[Y0 (n:=g.length+3) (ds:=[]) (y:=gmD u) sd (getx rfl) rfl (by decide),setx];rfl
 refine QT rfl ?_;show QaT [vR t,none,none] g=_;unfold QaT;refine Qh [vR t,vR g.length,none] _ (Qv e1) ?_;have ht':(g++[GO.ins 14 (grF (g.length+1)),.dcn false []])[t]?=some (.lst [gmD u]):=by rw[Ul (QE ht)];exact ht
 obtain⟨σ',g',e2,q⟩:=QdJ (t:=gSet 2) (body:=Qay) (e:=mVar 0) (σ:=[vR t,vR g.length,none]) (g:=g++[GO.ins 14 (grF (g.length+1)),.dcn false []]) rfl ht' (λi σ' g'=>(i=0/\σ'=[vR t,vR g.length,none]/\g'=g++[.ins 14 (grF (g.length+1)),.dcn false []])\/(i=1/\σ'=[vR t,vR g.length,vM u]/\g'=g++[.ins 14 (grF (g.length+1)),.dcn false [(.inl u.dropLast,.ref (g.length+3))],.lst [],.lst [gmD u]]))
  (.inl ⟨rfl,rfl,rfl⟩) (λi σ' g' hh=>by
   rcases hh with⟨_,_,rfl⟩|⟨_,_,rfl⟩
   ·exact ht'
   ·rw[Ul (QE ht)];exact ht) (λi d σ' g' hd hh=>by
   rcases hh with⟨rfl,rfl,rfl⟩|⟨rfl,_,_⟩
   ·cases hd;exact⟨_,_,_,rfl,Z7 ((Q1 (n:=g.length) (xs:=[gmD u]) rfl get0 (QlF _) rfl).trans put),.inr ⟨rfl,rfl,rfl⟩⟩
   ·cases hd)
 rcases q with⟨q,_⟩|⟨_,rfl,rfl⟩
 ·cases q
 ·exact Qh _ _ e2 (Q6 rfl)
end L3
namespace L3
open PySem
theorem Qhe:mLit (.str "l") σ g=.ok (.str (wS false)) g:=by rw[s_l];rfl
theorem Qfw:mLit (.str "r") σ g=.ok (.str (wS true)) g:=by rw[s_r];rfl
theorem Qna(a b:Nat):putS [] [(wS false,D.ref a),(wS true,.ref b)]=twoD a b:=rfl
theorem Qgx(a b:Nat)(l:G):Qfi g.length [D.str (wS false),.ref a,.str (wS true),.ref b] (g++GO.dct []::l)=.ok (.ref g.length) (g++GO.dct (twoD a b)::l):=by unfold Qfi;have e:QbY [D.str (wS false),.ref a,.str (wS true),.ref b]=some [(wS false,.ref a),(wS true,.ref b)]:=rfl;rw[e,get0];show(if [(wS false,D.ref a),(wS true,.ref b)].length<=15 then _ else _)=_;rw[Ue (by show 2<=15;decide),Qna,set0]
theorem QkL(h3:σ[3]?=some (vM b)):J0 (Qa (mLit (.str "l")) (Qa (Qr ZR (Qa (mOpA newL (Qa (mVar 3) mNil)) mNil)) (Qa (mLit (.str "r")) (Qa (Qr ZR (Qa (mOpA newL (Qa (mVar 3) mNil)) mNil)) mNil)))) σ g =
  .ok (.ref g.length) (g++[.dct (twoD (g.length+2) (g.length+7)),.lst [gmD b],.ins 14 (grF (g.length+3)),.dcn false [(.inl b.dropLast,.ref (g.length+5))],.lst [],.lst [gmD b],.lst [gmD b],.ins 14 (grF (g.length+8)),.dcn false [(.inl b.dropLast,.ref (g.length+10))],.lst [],.lst [gmD b]]):=by
 have one:∀(l:G),Qr ZR (Qa (mOpA newL (Qa (mVar 3) mNil)) mNil) σ (g++l)=.ok (.ref (g.length+l.length+1)) (g++(l++[.lst [gmD b],.ins 14 (grF (g.length+l.length+2)),.dcn false [(.inl b.dropLast,.ref (g.length+l.length+4))],.lst [],.lst [gmD b]])):=λl=>by
  have e:Qa (mOpA newL (Qa (mVar 3) mNil)) mNil σ (g++l)=.ok [.ref (g.length+l.length)] (g++l++[.lst [gmD b]]):=by simp only[Qb9,QaC,Qje,QcO,h3];rw[show newL [gmD b] (g++l)=.ok (.ref (g++l).length) (g++l++[.lst [gmD b]]) from Ue (by show 1<=_;decide),Us]
  have hl:(g++l++[GO.lst [gmD b]]).length=g.length+l.length+1:=by simp[Wa]
  rw[Qw e,Qfv (u:=b) (by rw[show g.length+l.length=(g++l).length by simp];exact QC _),hl];simp
 have a1:=one [.dct []];have a2:=one ([.dct []]++[.lst [gmD b],.ins 14 (grF (g.length+1+2)),.dcn false [(.inl b.dropLast,.ref (g.length+1+4))],.lst [],.lst [gmD b]]);unfold J0;rw[Qf Qhe (Qf a1 (Qf Qfw (Qf a2 rfl))),Res.bind_ok];exact Qgx (g.length+2) (g.length+7) [.lst [gmD b],.ins 14 (grF (g.length+3)),.dcn false [(.inl b.dropLast,.ref (g.length+5))],.lst [],.lst [gmD b],.lst [gmD b],.ins 14 (grF (g.length+8)),.dcn false [(.inl b.dropLast,.ref (g.length+10))],.lst [],.lst [gmD b]]
theorem Qjv:J0 (Qa (mLit (.str "l")) (Qa (Jr false) (Qa (mLit (.str "r")) (Qa (Jr false) mNil)))) σ g=.ok (.ref g.length) (g++[.dct (twoD (g.length+1) (g.length+2)),.dcn false [],.dcn false []]):=by
 have one:∀(l:G),Jr false σ (g++l)=.ok (.ref (g.length+l.length)) (g++(l++[.dcn false []])):=λl=>by unfold Jr;simp
 unfold J0;rw[Qf Qhe (Qf (one [.dct []]) (Qf Qfw (Qf (one [.dct [],.dcn false []]) rfl))),Res.bind_ok];exact Qgx (g.length+1) (g.length+2) [.dcn false [],.dcn false []]
theorem setattr_ok(h0:σ[0]?=some (vR n))(hv:v σ g=.ok y g1)(h:g1[n]?=some (.ins 15 fs))(hl:fs.length<100):Q4 [15] f (mVar 0) v σ g=.nx σ (g1.set n (.ins 15 (putG f y fs))):=by unfold Q4;rw[hv];dsimp only;rw[Q7 h0];dsimp only;rw[h];dsimp only;rw[Ue ⟨by decide,hl⟩]
theorem Qcq(h:x≠f):putG f v ((x,y)::r)=(x,y)::putG f v r:=Uf h
def iniS(b:List Int):PSt:=⟨λ_=>[b],[],[],[]⟩
def iniK(b:List Int):GK:=λx _=>if x=true then [] else [b.dropLast]
def iniA(N:Nat):Ky->Nat
 |.W=>N | .S=>N+1 | .A=>N+14 | .C=>N+12 | .P=>N+13|.G y=>if y=true then N+8 else N+3
 |.B x y=>if x=true then (if y=true then N+16 else N+15) else (if y=true then N+9 else N+4)
 |.L _ y _=>if y=true then N+11 else N+6
def iniH(N M:Nat)(b:List Int):G:=[.ins 15 (wF M (N+1) (N+12) (N+13) (N+14)),.dct (twoD (N+3) (N+8)),.lst [gmD b],.ins 14 (grF (N+4)),.dcn false [(.inl b.dropLast,.ref (N+6))],.lst [],.lst [gmD b],.lst [gmD b],.ins 14 (grF (N+9)),.dcn false [(.inl b.dropLast,.ref (N+11))],.lst [],.lst [gmD b],.dcn true [],.lst [],.dct (twoD (N+15) (N+16)),.dcn false [],.dcn false []]
def iniB(b:List Int):Nat->Ky
 |1=>.S|14=>.A|12=>.C|13=>.P|3=>.G false|8=>.G true|4=>.B false false|9=>.B false true|15=>.B true false|16=>.B true true|6=>.L false false b.dropLast|11=>.L false true b.dropLast|_=>.W
theorem Qjw(h:alo (iniK b) k):iniB b (iniA 0 k)=k:=by
 cases k with
 |L x y k=>
  cases x
  ·have hk:k=b.dropLast:=Uj.mp h;subst hk;cases y<;>rfl
  ·exact absurd h (by show ¬k∈[];simp)
 |G y=>cases y<;>rfl|B x y=>cases x<;>cases y<;>rfl|_=>rfl
theorem Qjx(N:Nat)(k:Ky):iniA N k=N+iniA 0 k:=by
 cases k with
 |L x y k=>cases y<;>simp[iniA]|G y=>cases y<;>simp[iniA]|B x y=>cases x<;>cases y<;>simp[iniA]|_=>simp[iniA]
theorem QlL(T:TT3)(g0:G)(M:Nat)(b:List Int):Rp T g0 M (g0++iniH g0.length M b) (iniA g0.length) (iniS b) (iniK b):=by
 refine⟨⟨by simp,λn o _ e=>by rw[Ul (QE e)];exact e⟩,λk ha=>?_,λk ha=>?_,λk k' ha ha' e=>?_,λx y=>?_,λy u hu=>?_,λy c k hc=>by cases hc⟩
 ·cases k with
  |W=>exact getx (i:=0) rfl|S=>exact getx (i:=1) rfl|A=>exact getx (i:=14) rfl|C=>exact getx (i:=12) rfl|P=>exact getx (i:=13) rfl|G y=>
   cases y
   ·exact getx (i:=3) rfl
   ·exact getx (i:=8) rfl
  |B x y=>
   cases x<;>cases y
   ·exact getx (i:=4) rfl
   ·exact getx (i:=9) rfl
   ·exact getx (i:=15) rfl
   ·exact getx (i:=16) rfl
  |L x y k=>
   cases x
   ·have hk:k=b.dropLast:=Uj.mp ha;subst hk;have e:ctn T M (iniA g0.length) (iniS b) (iniK b) (.L false y b.dropLast)=.lst [gmD b]:=by show GO.lst (List.map gmD (List.filter _ [b]))=_;rw[RO (by simp)];rfl
    rw[e];cases y
    ·exact getx (i:=6) rfl
    ·exact getx (i:=11) rfl
   ·exact absurd ha (by show ¬k∈[];simp)
 ·cases k with
  |G y=>cases y<;>exact U6 _ _|B x y=>cases x<;>cases y<;>exact U6 _ _|L x y k=>cases y<;>exact U6 _ _|W=>exact Ug _|_=>exact U6 _ _
 ·rw[Qjx,Qjx _ k']at e;rw[<-Qjw ha,<-Qjw ha',Nat.add_left_cancel e]
 ·unfold iniK;cases x<;>simp
 ·rw[Uj.mp (show u∈[b] from hu)];exact Uj.mpr rfl
end L3
namespace L3
open PySem
def blG(w:Nat):List Int:=List.replicate w 0
def c00(w:Nat):Ct:=(blG w,0,0,blG w)
theorem QeG(hm:1<=m):okG w m (blG w):=⟨by simp[blG],λx hx=>by rw[List.eq_of_mem_replicate hx];omega⟩
section
variable{w n m:Nat}{T:TT3}
theorem QlM(f:Few w n m):okC w n m (c00 w):=⟨QeG (by have:=f.m2;omega),⟨T4 0,by have:=f.n1;show(0:Int)<n;omega⟩,⟨T4 0,by have:=f.m2;show(0:Int)<m;omega⟩,QeG (by have:=f.m2;omega)⟩
theorem QlN(f:Few w n m):okS w n m T (iniS (blG w)):=⟨λy u hu=>(by rw[Uj.mp (show u∈[blG w] from hu)];exact QeG (by have:=f.m2;omega)),λy=>(by show [blG w].Nodup;simp),λc hc=>(by cases hc),.nil,λc hc=>(by cases hc),λc hc=>(by cases hc),Ug _⟩
theorem Qo6(f:Few w n m):KB w m (iniK (blG w)):=λx y k hk=>by
 cases x
 ·rw[Uj.mp (show k∈[(blG w).dropLast] from hk)];exact(QeG (by have:=f.m2;omega)).init
 ·exact absurd (show k∈[] from hk) (by simp)
theorem Qjy(g:G)(h1:1<=w)(h2:w<=100):QiV (.tup [.int 0]) (.int w) g=.ok (gmD (blG w)) g:=by show(if 1<=(w:Int)/\(w:Int)<=1000 then Res.ok (D.tup (List.replicate (w:Int).toNat (.int 0))) g else .stuck)=_;rw[Ue ⟨by omega,by omega⟩];show Res.ok (D.tup (List.replicate w (.int 0))) g=Res.ok (D.tup ((List.replicate w 0).map .int)) g;rw[List.map_replicate]
theorem QkM(f:Few w n m):∃g',Zu [.ref g0.length,.ref M,.int w] (g0++[.ins 15 []])=.ok .non g'/\Rp T g0 M g' (iniA g0.length) (ask (iniS (blG w)) (c00 w)) (iniK (blG w)):=by
 obtain⟨g',e1,h1,_⟩:=QcS (QlL T g0 M (blG w)) (QlN f) f (c00 w);refine⟨g',Qb8 (σ:=[vR g0.length,vR M,vI w,vM (blG w)]) rfl ?_,h1⟩;show Z5 [vR g0.length,vR M,vI w,none] (g0++[.ins 15 []])=_;unfold Z5;refine Qh [vR g0.length,vR M,vI w,vM (blG w)] (g0++[.ins 15 []]) (Qv (Qi (x:=.tup [.int 0]) (y:=.int w) (by simp) rfl (Qjy _ f.w1 (Uk f.w3 (by decide))))) ?_;refine Qh [vR g0.length,vR M,vI w,vM (blG w)] (g0++[.ins 15 [(Str.ofString "machine",.ref M)]]) ((setattr_ok (y:=.ref M) (fs:=[]) rfl rfl get0 (by decide)).trans (by rw[set0];rfl)) ?_;have hl:(g0++[GO.ins 15 [(Str.ofString "machine",D.ref M)]]).length=g0.length+1:=by simp
 refine Qh [vR g0.length,vR M,vI w,vM (blG w)] (g0++[.ins 15 [(Str.ofString "machine",.ref M),(Str.ofString "sides",.ref (g0.length+1))],.dct (twoD (g0.length+3) (g0.length+8)),.lst [gmD (blG w)],.ins 14 (grF (g0.length+4)),.dcn false [(.inl (blG w).dropLast,.ref (g0.length+6))],.lst [],.lst [gmD (blG w)],.lst [gmD (blG w)],.ins 14 (grF (g0.length+9)),.dcn false [(.inl (blG w).dropLast,.ref (g0.length+11))],.lst [],.lst [gmD (blG w)]]) ?_ ?_
 ·refine(setattr_ok (n:=g0.length) (fs:=[(Str.ofString "machine",.ref M)]) rfl (QkL (b:=blG w) rfl) ?_ (by show 1<100;decide)).trans ?_
  ·rw[Ut];exact get0
  ·rw[Ut,hl];show Out.nx _ ((g0++_::_).set g0.length _)=_;rw[set0,Qcq (by decide +kernel)];rfl
 have hl2:∀l:G,(g0++l).length=g0.length+l.length:=λl=>by simp
 refine Qh [vR g0.length,vR M,vI w,vM (blG w)] (g0++[.ins 15 [(Str.ofString "machine",.ref M),(Str.ofString "sides",.ref (g0.length+1)),(Str.ofString "contexts",.ref (g0.length+12))],.dct (twoD (g0.length+3) (g0.length+8)),.lst [gmD (blG w)],.ins 14 (grF (g0.length+4)),.dcn false [(.inl (blG w).dropLast,.ref (g0.length+6))],.lst [],.lst [gmD (blG w)],.lst [gmD (blG w)],.ins 14 (grF (g0.length+9)),.dcn false [(.inl (blG w).dropLast,.ref (g0.length+11))],.lst [],.lst [gmD (blG w)],.dcn true []]) ?_ ?_
 ·refine(setattr_ok (n:=g0.length) (fs:=[(Str.ofString "machine",.ref M),(Str.ofString "sides",.ref (g0.length+1))]) rfl rfl ?_ (by show 2<100;decide)).trans ?_
  ·rw[Ut];exact get0
  ·rw[hl2,Ut];show Out.nx _ ((g0++_::_).set g0.length _)=_;rw[set0,Qcq (by decide +kernel),Qcq (by decide +kernel)];rfl
 refine Qh [vR g0.length,vR M,vI w,vM (blG w)] (g0++[.ins 15 [(Str.ofString "machine",.ref M),(Str.ofString "sides",.ref (g0.length+1)),(Str.ofString "contexts",.ref (g0.length+12)),(Str.ofString "pending",.ref (g0.length+13))],.dct (twoD (g0.length+3) (g0.length+8)),.lst [gmD (blG w)],.ins 14 (grF (g0.length+4)),.dcn false [(.inl (blG w).dropLast,.ref (g0.length+6))],.lst [],.lst [gmD (blG w)],.lst [gmD (blG w)],.ins 14 (grF (g0.length+9)),.dcn false [(.inl (blG w).dropLast,.ref (g0.length+11))],.lst [],.lst [gmD (blG w)],.dcn true [],.lst []]) ?_ ?_
 ·refine(setattr_ok (n:=g0.length) (fs:=[(Str.ofString "machine",.ref M),(Str.ofString "sides",.ref (g0.length+1)),(Str.ofString "contexts",.ref (g0.length+12))]) rfl QcR ?_ (by show 3<100;decide)).trans ?_
  ·rw[Ut];exact get0
  ·rw[hl2,Ut];show Out.nx _ ((g0++_::_).set g0.length _)=_;rw[set0,Qcq (by decide +kernel),Qcq (by decide +kernel),Qcq (by decide +kernel)];rfl
 refine Qh [vR g0.length,vR M,vI w,vM (blG w)] (g0++iniH g0.length M (blG w)) ?_ ?_
 ·refine(setattr_ok (n:=g0.length) (fs:=[(Str.ofString "machine",.ref M),(Str.ofString "sides",.ref (g0.length+1)),(Str.ofString "contexts",.ref (g0.length+12)),(Str.ofString "pending",.ref (g0.length+13))]) rfl Qjv ?_ (by show 4<100;decide)).trans ?_
  ·rw[Ut];exact get0
  ·rw[hl2,Ut];show Out.nx _ ((g0++_::_).set g0.length _)=_;rw[set0,Qcq (by decide +kernel),Qcq (by decide +kernel),Qcq (by decide +kernel),Qcq (by decide +kernel)];rfl
 refine Z7 (d:=.non) ((Q1 (n:=g0.length) (xs:=[ctD (c00 w)]) rfl (QlL T g0 M (blG w)).atW (QlI ..) ?_).trans e1);refine Qf (x:=ctD (c00 w)) ?_ rfl;simp[ctD,c00]
theorem QkN(f:Few w n m)(ha:a σ g0=.ok [.ref M,.int w] g0):∃g',QaO 15 Zu a σ g0=.ok (.ref g0.length) g'/\Rp T g0 M g' (iniA g0.length) (ask (iniS (blG w)) (c00 w)) (iniK (blG w)):=by obtain⟨g',e1,h1⟩:=QkM (T:=T) (g0:=g0) (M:=M) f;refine⟨g',?_,h1⟩;unfold QaO;rw[ha,Res.bind_ok,e1,Res.bind_ok]
end
end L3
namespace L3
open PySem
theorem QdO:∀x:List Int,lexZ x x=false
 |[]=>rfl|a::x=>by unfold lexZ;rw[Ue rfl];exact QdO x
theorem Qfx:∀{x y z:List Int},lexZ x y=true->lexZ y z=true->lexZ x z=true
 |[],[],_,h,_=>by cases h
 |[],_::_,[],_,h=>by cases h
 |[],_::_,_::_,_,_=>rfl|_::_,[],_,h,_=>by cases h
 |_::_,_::_,[],_,h=>by cases h
 |a::x,b::y,c::z,h1,h2=>by
  unfold lexZ at h1 h2 ⊢;by_cases e1:a=b
  ·rw[Ue e1]at h1;by_cases e2:b=c
   ·rw[Ue e2]at h2;rw[Ue (e1.trans e2)];exact Qfx h1 h2
   ·rw[Uf e2]at h2;rw[Uf (λz=>e2 (e1 ▸ z)),e1];exact h2
  ·rw[Uf e1]at h1;by_cases e2:b=c
   ·rw[Uf (λz=>e1 (z.trans e2.symm)),<-e2];exact h1
   ·rw[Uf e2]at h2;have q1:=UA h1;have q2:=UA h2;rw[Uf (by omega)];exact Uq (by omega)
theorem QbA:∀{x y:List Int},x≠y->lexZ x y=true\/lexZ y x=true
 |[],[],h=>absurd rfl h|[],_::_,_=>.inl rfl|_::_,[],_=>.inr rfl|a::x,b::y,h=>by
  unfold lexZ;by_cases e:a=b
  ·rw[Ue e,Ue e.symm];exact QbA λz=>h (by rw[e,z])
  ·rw[Uf e,Uf (Ne.symm e)];have:a<b\/b<a:=by omega
   exact this.imp Uq Uq
theorem Qnb:∀x:SKd,ltK x x=false
 |.inl a=>QdO a|.inr a=>by unfold ltK;simp
theorem QlO{x y z:Int}{p q r:Bool}(h1:(if x=y then p else decide (x<y))=true)(h2:(if y=z then q else decide (y<z))=true)(h:p=true->q=true->r=true):(if x=z then r else decide (x<z))=true:=by
 by_cases e1:x=y
 ·rw[Ue e1]at h1;by_cases e2:y=z
  ·rw[Ue e2]at h2;rw[Ue (e1.trans e2)];exact h h1 h2
  ·rw[Uf e2]at h2;rw[Uf (λz=>e2 (e1 ▸ z)),e1];exact h2
 ·rw[Uf e1]at h1;by_cases e2:y=z
  ·rw[Uf (λz=>e1 (z.trans e2.symm)),<-e2];exact h1
  ·rw[Uf e2]at h2;have q1:=UA h1;have q2:=UA h2;rw[Uf (by omega)];exact Uq (by omega)
theorem QlP(h1:(if x=y then p else lexZ x y)=true)(h2:(if y=z then q else lexZ y z)=true)(h:p=true->q=true->r=true):(if x=z then r else lexZ x z)=true:=by
 by_cases e1:x=y
 ·rw[Ue e1]at h1;by_cases e2:y=z
  ·rw[Ue e2]at h2;rw[Ue (e1.trans e2)];exact h h1 h2
  ·rw[Uf e2]at h2;rw[Uf (λz=>e2 (e1 ▸ z)),e1];exact h2
 ·rw[Uf e1]at h1;by_cases e2:y=z
  ·rw[Uf (λz=>e1 (z.trans e2.symm)),<-e2];exact h1
  ·rw[Uf e2]at h2;have t:=Qfx h1 h2;by_cases e3:x=z
   ·rw[e3,QdO]at t;cases t
   ·rw[Uf e3];exact t
theorem Qjz:∀x y z:SKd,ltK x y=true->ltK y z=true->ltK x z=true
 |.inl _,.inl _,.inl _,h1,h2=>Qfx h1 h2|.inl _,.inl _,.inr _,_,_=>rfl|.inl _,.inr _,.inl _,_,h=>by cases h
 |.inl _,.inr _,.inr _,_,_=>rfl|.inr _,.inl _,_,h,_=>by cases h
 |.inr _,.inr _,.inl _,_,h=>by cases h
 |.inr _,.inr _,.inr _,h1,h2=>QlP h1 h2 λh1 h2=>QlO h1 h2 λh1 h2=>QlO h1 h2 λh1 h2=>QlP h1 h2 λh _=>by cases h
theorem QjA:∀x y:SKd,x≠y->ltK x y=true\/ltK y x=true
 |.inl _,.inl _,h=>QbA λz=>h (by rw[z])
 |.inl _,.inr _,_=>.inl rfl|.inr _,.inl _,_=>.inr rfl|.inr (a,p,q,r),.inr (a',p',q',r'),h=>by
  unfold ltK;dsimp only;by_cases e1:a=a'
  ·rw[Ue e1,Ue e1.symm];by_cases e2:p=p'
   ·rw[Ue e2,Ue e2.symm];by_cases e3:q=q'
    ·rw[Ue e3,Ue e3.symm];by_cases e4:r=r'
     ·exact absurd (by rw[e1,e2,e3,e4]) h
     ·rw[Uf e4,Uf (Ne.symm e4)];exact QbA e4
    ·rw[Uf e3,Uf (Ne.symm e3)];have:q<q'\/q'<q:=by omega
     exact this.imp Uq Uq
   ·rw[Uf e2,Uf (Ne.symm e2)];have:p<p'\/p'<p:=by omega
    exact this.imp Uq Uq
  ·rw[Uf e1,Uf (Ne.symm e1)];exact QbA e1
theorem QaZ:∀{a b:List α},a.Nodup->b.Nodup->(∀x,x∈a↔x∈b)->a.Perm b
 |[],[],_,_,_=>.refl _|[],y::b,_,_,h=>absurd ((h y).mpr (UD ..)) (by simp)|x::a,b,ha,hb,h=>by
  have ha':=T0.mp ha;obtain⟨p,q,rfl⟩:=List.append_of_mem ((h x).mp (UD ..));have hb':=(List.perm_middle.nodup_iff).mp hb;have hb2:=T0.mp hb';refine(List.Perm.cons x (QaZ ha'.2 hb2.2 λz=>?_)).trans List.perm_middle.symm;constructor
  ·intro hz;have:=(h z).mp (Uz _ hz);rcases Uu.mp this with w|w
   ·exact Uu.mpr (.inl w)
   ·rcases UG.mp w with rfl|w
    ·exact absurd hz ha'.1
    ·exact Uu.mpr (.inr w)
  ·intro hz;have:=(h z).mpr (by
    rcases Uu.mp hz with w|w
    ·exact Uu.mpr (.inl w)
    ·exact Uu.mpr (.inr (Uz _ w)))
   rcases UG.mp this with rfl|w
   ·exact absurd hz hb2.1
   ·exact w
theorem QdP(ha:a.Nodup)(hb:b.Nodup)(h:∀x,x∈a↔x∈b):sortK a=sortK b:=up_uniq Qnb Qjz ((sortK_perm a).trans ((QaZ ha hb h).trans (sortK_perm b).symm)) (sortK_up Qjz QjA ha) (sortK_up Qjz QjA hb)
end L3
namespace L3
open PySem
def srt(ks:List SKd):GO:=.lst ((sortK ks).map kD)
theorem Qo7(hw:1<=w)(h:okG w m u):okK (.inl u)=true:=by
 cases u with
 |nil=>have:=h.1;simp at this;omega|cons _ _=>rfl
theorem QdQ(h1:ks.length<=900)(h2:ks.Nodup)(h3:∀k∈ks,okK k=true):srtK ks g=.ok (.ref g.length) (g++[srt ks]):=Ue ⟨by omega,h2,U7.mpr h3⟩
theorem Y2{us:List (List Int)}(h:us.Nodup):(us.map (Sum.inl:List Int->SKd)).Nodup:=By.mpr (h.imp λh z=>h (Sum.inl.inj z))
theorem QaE{cs:List Ct}(h:cs.Nodup):(cs.map (Sum.inr:Ct->SKd)).Nodup:=By.mpr (h.imp λh z=>h (Sum.inr.inj z))
theorem Qcb{g:G}{Gr B:Nat}{ks:List (List Int)}{adr:List Int->Nat}{cont:List Int->List (List Int)}{w m:Nat}(hw:1<=w)(hG:g[Gr]?=some (.ins 14 (grF B)))(hB:g[B]?=some (.dcn false (ks.map λk=>(.inl k,.ref (adr k)))))(hL:∀k∈ks,g[adr k]?=some (.lst ((cont k).map gmD)))(hz:(ks.flatMap cont).length<=900)(hn:(ks.flatMap cont).Nodup)(ho:∀u∈ks.flatMap cont,okG w m u):∃a g',Zt [.ref Gr] g=.ok (.ref a) g'/\g'[a]?=some (srt ((ks.flatMap cont).map .inl))/\g.length<=a/\(∀n,n≠B->n<g.length->g'[n]?=g[n]?):=by
 have lB:=QE hB
 let g1:G:=g++[.lst []]
 let g2:G:=g1.set B (.dcf false (ks.map λk=>(.inl k,.ref (adr k))))
 have e1:mItV (Qz [14] "by_seen" (mVar 0)) [vR Gr,vR g.length,none] g1=.ok ⟨λ_ i=>some (ks.map λk=>D.ref (adr k))[i]?,(ks.map λk=>D.ref (adr k)).length⟩ g2:=by unfold mItV Qg5;rw[Yz (n:=Gr) (d:=.ref B) rfl (by show g1[Gr]?=_;rw[Ul (QE hG)];exact hG) (by decide) lk1,Res.bind_ok];unfold QiX;dsimp only;rw[show g1[B]?=some (.dcn false (ks.map λk=>(.inl k,.ref (adr k)))) by rw[Ul lB];exact hB];dsimp only;rw[Rr,Ud,Ud];rfl
 obtain⟨σ',g',e2,x2,q1,q2,q3,q4⟩:=Qex (t:=gSet 2) (body:=Yv) (ds:=ks.map λk=>D.ref (adr k)) (σ:=[vR Gr,vR g.length,none]) (g:=g2) (λi σ' g'=>∃x2,σ'=[vR Gr,vR g.length,x2]/\g'[g.length]?=some (.lst (((ks.take i).flatMap cont).map gmD))/\(∀n,n≠B->n<g.length->g'[n]?=g[n]?)/\g'.length=g.length+1)
  ⟨none,rfl,by show(g1.set B _)[g.length]?=_;rw[Uh (by omega)];exact QC _,λn hn hl=>by show(g1.set B _)[n]?=_;rw[Uh (Ne.symm hn),Ul hl],by show(g1.set B _).length=_;rw[UK];show(g++[GO.lst []]).length=_;simp⟩ (λi d σ' g' hd hh=>by
   obtain⟨x2,q1,q2,q3,q4⟩:=hh;subst q1;rw[UJ]at hd;obtain⟨k,hk,rfl⟩:=UW.mp hd;have hk':=hL k (Td hk);have lk:=QE hk';have nB:adr k≠B:=λz=>by rw[z,hB]at hk';cases hk'
   have tl:(ks.take (i+1)).flatMap cont=(ks.take i).flatMap cont++cont k:=by rw[Y1 hk,List.flatMap_append];simp
   have len:((ks.take (i+1)).flatMap cont).length<=900:=by
    refine Uk ?_ hz
    conv=>rhs;rw[<-Tz (i+1) ks,List.flatMap_append]
    rw[Us];exact U6 _ _
   refine⟨_,[vR Gr,vR g.length,vR (adr k)],g'.set g.length (.lst (((ks.take (i+1)).flatMap cont).map gmD)),rfl,Z7 (d:=.non) ?_,vR (adr k),rfl,Z6 q2,λn hn hl=>by rw[Uh (by omega)];exact q3 n hn hl,by rw[UK];exact q4⟩;show Qdx (mVar 1) (mVar 2) [vR Gr,vR g.length,vR (adr k)] g'=_;unfold Qdx;rw[show mVar 1 [some (D.ref Gr),vR g.length,vR (adr k)] g'=.ok (.ref g.length) g' from rfl,Res.bind_ok];dsimp only;rw[q2];dsimp only;rw[show mVar 2 [some (D.ref Gr),vR g.length,vR (adr k)] g'=.ok (.ref (adr k)) g' from rfl,Res.bind_ok];dsimp only;rw[q2,q3 _ nB lk,hk'];dsimp only;rw[Ue ⟨by omega,by rw[tl,Us]at len;rw[Ud,Ud];exact Uk len (by decide)⟩,tl,U4])
 have fin:ks.take (ks.map λk=>D.ref (adr k)).length=ks:=by rw[Ud];exact Rw
 rw[fin]at q2;subst q1;refine⟨g'.length,g'++[srt ((ks.flatMap cont).map .inl)],QT rfl ?_,QC _,by omega,λn hn hl=>by rw[Ul (by omega)];exact q3 n hn hl⟩;show Z4 [vR Gr,none,none] g=_;unfold Z4;refine Qh [vR Gr,vR g.length,none] g1 (Qv QcR) ?_;refine Qh _ g' ((Qb7 e1).trans e2) (Q6 (Ze (x:=.ref g.length) rfl ?_));unfold Q5;dsimp only;rw[q2];dsimp only;rw[QdH];dsimp only;exact QdQ (by rw[Ud];exact hz) (Y2 hn) λk hk=>by obtain⟨u,hu,rfl⟩:=US.mp hk;exact Qo7 hw (ho u hu)
theorem QdR(h:Rp T g0 M g ad s gk)(y:Bool)(u:List Int):u∈(gk false y).flatMap (gF s y)↔u∈s.gs y:=by
 rw[RP];constructor
 ·rintro ⟨k,_,hu⟩;exact(U3.mp hu).1
 ·intro hu;exact⟨u.dropLast,h.kg y u hu,U3.mpr ⟨hu,by simp⟩⟩
theorem QaF(h:Rp T g0 M g ad s gk)(ok:okS w n m T s)(y:Bool):((gk false y).flatMap (gF s y)).Nodup:=by
 have nd:=h.nd false y;generalize gk false y=ks at nd;induction ks with
 |nil=>exact .nil|cons k ks ih =>have nd':=T0.mp nd;rw[List.flatMap_cons];refine Rm.mpr ⟨(ok.gn y).filter _,ih nd'.2,λa ha b hb z=>?_⟩;subst z;obtain⟨k',hk',hb'⟩:=RP.mp hb;have e1:=UA (U3.mp ha).2;have e2:=UA (U3.mp hb').2;exact nd'.1 (by rw[<-e1,e2];exact hk')
theorem QkO(h:Rp T g0 M g ad s gk)(ok:okS w n m T s)(f:Few w n m):∃a b c g',Zb [.ref (ad .W),.int w] g=.ok (.tup [.str "wall",.int w,.ref a,.ref b,.ref c]) g'/\g'[a]?=some (srt ((s.gs false).map .inl))/\g'[b]?=some (srt ((s.gs true).map .inl))/\g'[c]?=some (srt (s.cs.map .inr))/\Keeps [] g0 g'/\g0.length<=a/\g0.length<=b/\g0.length<=c/\a≠b/\a≠c/\b≠c:=by
 have lenG:=h.old.len;have sq:∀y,srt (((gk false y).flatMap (gF s y)).map .inl)=srt ((s.gs y).map .inl):=λy=>by unfold srt;rw[QdP (Y2 (QaF h ok y)) (Y2 (ok.gn y)) λx=>by simp only[US];exact⟨λ⟨u,h1,h2⟩=>⟨u,(QdR h y u).mp h1,h2⟩,λ⟨u,h1,h2⟩=>⟨u,(QdR h y u).mpr h1,h2⟩⟩]
 have zl:∀y,((gk false y).flatMap (gF s y)).length<=900:=λy=>by rw[(QaZ (QaF h ok y) (ok.gn y) (QdR h y)).length_eq];exact ok.gl f y
 have og:∀y,∀u∈(gk false y).flatMap (gF s y),okG w m u:=λy u hu=>ok.g y u ((QdR h y u).mp hu);obtain⟨a,g1,e1,a1,a2,a3⟩:=Qcb (g:=g) (Gr:=ad (.G false)) (B:=ad (.B false false)) (ks:=gk false false) (adr:=λk=>ad (.L false false k)) (cont:=gF s false) f.w1 (h.atG false) (h.atB false false) (λk hk=>h.at' (.L false false k) hk) (zl false) (QaF h ok false) (og false);rw[sq false]at a1;have lg1:g.length<=g1.length:=by have:=QE a1;omega
 have tr:∀k,alo gk k->k≠.B false false->g1[ad k]?=some (ctn T M ad s gk k):=λk hk hne=>by rw[a3 _ (λz=>hne (h.inj _ (.B false false) hk trivial z)) (h.lt hk)];exact h.at' k hk
 obtain⟨b,g2,e2,b1,b2,b3⟩:=Qcb (g:=g1) (Gr:=ad (.G true)) (B:=ad (.B false true)) (ks:=gk false true) (adr:=λk=>ad (.L false true k)) (cont:=gF s true) f.w1 (tr (.G true) trivial (λz=>by cases z)) (tr (.B false true) trivial (λz=>by cases z)) (λk hk=>tr (.L false true k) hk (λz=>by cases z)) (zl true) (QaF h ok true) (og true);rw[sq true]at b1;have lg2:g1.length<=g2.length:=by have:=QE b1;omega
 have hC:g2[ad .C]?=some (.dcn true (s.cs.map λc=>(.inr c,.bl true))):=by rw[b3 _ (λz=>by have:=h.inj .C (.B false true) trivial trivial z;cases this) (UB (h.lt (k:=.C) trivial) lg1)];exact tr .C trivial (λz=>by cases z)
 have hBt:ad (.B false true)<g.length:=h.lt (k:=.B false true) trivial;have a1':g2[a]?=some (srt ((s.gs false).map .inl)):=by rw[b3 a (by omega) (QE a1)];exact a1
 have la:=QE a1;have lb:=QE b1;refine⟨a,b,g2.length,g2++[srt (s.cs.map .inr)],QT rfl (Q6 ?_),by rw[Ul (by omega)];exact a1',by rw[Ul lb];exact b1,QC _,⟨by rw[Us];show g0.length<=_+1;omega,λk o hk e=>?_⟩,by omega,by omega,by omega,by omega,by omega,by omega⟩
 ·have oL:mOp2 Qs (Qz [15] "sides" (mVar 0)) (mLit (.str "l")) [vR (ad .W),vI w] g=.ok (.ref (ad (.G false))) g:=Qi (a_sides h rfl) Qhe ((QdL (y:=false) (h.at' .S trivial)).trans rfl);have hW:g1[ad .W]?=some (.ins 15 (wF M (ad .S) (ad .C) (ad .P) (ad .A))):=tr .W trivial (λz=>by cases z);have oR:mOp2 Qs (Qz [15] "sides" (mVar 0)) (mLit (.str "r")) [vR (ad .W),vI w] g1=.ok (.ref (ad (.G true))) g1:=Qi (Yz (n:=ad .W) rfl hW (by decide) (Qgu ..)) Qfw ((QdL (y:=true) (tr .S trivial (λz=>by cases z))).trans rfl);have hW2:g2[ad .W]?=some (.ins 15 (wF M (ad .S) (ad .C) (ad .P) (ad .A))):=by rw[b3 _ (λz=>by have:=h.inj .W (.B false true) trivial trivial z;cases this) (UB (h.lt (k:=.W) trivial) lg1)];exact hW
  have oC:mOp1 Qbv (Qz [15] "contexts" (mVar 0)) [vR (ad .W),vI w] g2=.ok (.ref g2.length) (g2++[srt (s.cs.map .inr)]):=by refine Ze (Yz (n:=ad .W) rfl hW2 (by decide) (Qca ..)) ?_;unfold Qbv dAt;dsimp only;rw[hC];dsimp only;rw[Ue (by rw[Ud];exact Uk (ok.cl f) (by decide)),Rr];exact QdQ (by rw[Ud];exact ok.cl f) (QaE ok.cn) λk hk=>by obtain⟨u,hu,rfl⟩:=US.mp hk;rfl
  have:=Qf (x:=.str "wall") (σ:=[vR (ad .W),vI w]) (a:=mLit (.str "wall")) (g:=g) (g1:=g) rfl (Qf (x:=.int w) (a:=mVar 1) (g1:=g) rfl (Qf ((Q1 (xs:=[]) (g2:=g) oL (h.atG false) (QlG _) (show mNil _ g=_ from rfl)).trans e1) (Qf ((Q1 (xs:=[]) (g2:=g1) oR (tr (.G true) trivial (λz=>by cases z)) (QlG _) (show mNil _ g1=_ from rfl)).trans e2) (Qf oC (show mNil _ _=.ok [] _ from rfl)))));show mOpA pTup _ [vR (ad .W),vI w] g=_;rw[QaC,this];exact QcQ _ _ (by show 5<=100;decide)
 ·have hl:=QE e;have:=h.ge (.B false false) trivial;have:=h.ge (.B false true) trivial;rw[Ul (by omega),b3 k (by omega) (by omega),a3 k (by omega) (by omega)];exact h.old.at' k o hk e
end L3
namespace L3
open PySem
theorem JR  : ∀(f:Nat)(σ:S3)(g:G),ZB c body f σ g≠.stuck->∀f',f<=f'->ZB c body f' σ g=ZB c body f σ g
 |0,_,_,h,_,_=>absurd rfl h|f+1,σ,g,h,f',hf=>by
  obtain⟨k,rfl⟩:∃k,f'=k+1:=⟨f' - 1,by omega⟩;unfold ZB at h ⊢;cases hc:c σ g with
  |stuck=>rfl|raise e g1=>rfl|ok b g1=>
   cases b with
   |false=>rfl|true=>
    rw[hc]at h;dsimp only at h ⊢;cases hb:body σ g1 with
    |nx σ2 g2=>rw[hb]at h;exact JR f σ2 g2 h k (by omega)|ct σ2 g2=>rw[hb]at h;exact JR f σ2 g2 h k (by omega)|bk σ2 g2=>rfl|rt d g2=>rfl|raise e σ2 g2=>rfl|stuck=>rfl
theorem QbB(h:ZB c body f σ g=R)(hR:R≠.stuck):QbK c body σ g=R:=by
 have hx:∃f,ZB c body f σ g≠.stuck:=⟨f,by rw[h];exact hR⟩;unfold QbK;rw[dif_pos hx];have h1:=hx.choose_spec;rcases Nat.le_total f hx.choose with z|z
 ·rw[JR f σ g (by rw[h];exact hR) _ z,h]
 ·rw[<-JR _ σ g h1 f z,h]
end L3
namespace L3
open PySem
structure Cl(T:TT3)(b:List Int)(Gp:Bool->List Int->Prop)(Cp:Ct->Prop):Prop where
 g0:∀y,Gp y b
 c0:Cp (b,0,0,b)
 bh:∀c i bb j,Cp c->T c.2.1 c.2.2.1=some (i,bb,j)->Gp (!bb) (bhd bb c)
 nx:∀c i bb j u,Cp c->T c.2.1 c.2.2.1=some (i,bb,j)->Gp bb u->u.dropLast=(ahd bb c).tail->Cp (nxC i bb j c u)
def Snd(T:TT3)(b:List Int)(gs:Bool->List (List Int))(cs:List Ct):Prop:=∀Gp Cp,Cl T b Gp Cp->(∀y u,u∈gs y->Gp y u)/\∀c∈cs,Cp c
structure Cpl(T:TT3)(b:List Int)(s:PSt):Prop where
 g0:∀y,b∈s.gs y
 c0:(b,0,0,b)∈s.cs
 bh:∀c i bb j,c∈s.dn->T c.2.1 c.2.2.1=some (i,bb,j)->bhd bb c∈s.gs (!bb)
 nx:∀c i bb j u,c∈s.dn->T c.2.1 c.2.2.1=some (i,bb,j)->u∈s.gs bb->u.dropLast=(ahd bb c).tail->nxC i bb j c u∈s.cs
 all:∀c∈s.cs,c∈s.dn\/c∈s.pd
theorem Cpl.cl(h:Cpl T b s)(hp:s.pd=[]):Cl T b (λy u=>u∈s.gs y) (λc=>c∈s.cs):=by
 have hd:∀c∈s.cs,c∈s.dn:=λc hc=>(h.all c hc).elim id λz=>by rw[hp]at z;cases z
 exact⟨h.g0,h.c0,λc i bb j hc hT=>h.bh c i bb j (hd c hc) hT,λc i bb j u hc hT=>h.nx c i bb j u (hd c hc) hT⟩
theorem Qnc(s:PSt)(c x:Ct):x∈(ask s c).cs↔x∈s.cs\/x=c:=by
 unfold ask;split
 ·next h=>exact⟨.inl,λz=>z.elim id λe=>e ▸ h⟩
 ·show x∈s.cs++[c]↔_;simp
theorem Qo8(s:PSt)(c x:Ct)(h:x∈(ask s c).cs):x∈s.cs\/x∈(ask s c).pd:=by
 unfold ask at h ⊢;split
 ·next hc=>rw[Ue hc]at h;exact .inl h
 ·next hc=>
  rw[Uf hc]at h;rcases Uu.mp h with z|z
  ·exact .inl z
  ·exact .inr (Uu.mpr (.inr z))
theorem Qnd(s:PSt)(c x:Ct)(h:x∈s.pd):x∈(ask s c).pd:=by
 unfold ask;split
 ·exact h
 ·exact Uu.mpr (.inl h)
theorem JS:∀(cs:List Ct)(s:PSt)(x:Ct),x∈(askL s cs).cs↔x∈s.cs\/x∈cs
 |[],s,x=>by simp[askL]
 |c::cs,s,x=>by show x∈(askL (ask s c) cs).cs↔_;rw[JS cs,Qnc,UG,or_assoc]
theorem Qa0:∀(cs:List Ct)(s:PSt),(∀x∈(askL s cs).cs,x∈s.cs\/x∈(askL s cs).pd)/\∀x∈s.pd,x∈(askL s cs).pd
 |[],_=>⟨λ_ h=>.inl h,λ_ h=>h⟩|c::cs,s=>by
  obtain⟨a1,a2⟩:=Qa0 cs (ask s c);show(∀x∈(askL (ask s c) cs).cs,x∈s.cs\/x∈(askL (ask s c) cs).pd)/\∀x∈s.pd,x∈(askL (ask s c) cs).pd;refine⟨λx hx=>?_,λx hx=>a2 x (Qnd s c x hx)⟩;rcases a1 x hx with z|z
  ·exact(Qo8 s c x z).imp id λz=>a2 x z
  ·exact .inr z
theorem QkP  : v∈(addG s y u).gs y'↔v∈s.gs y'\/(y'=y/\v=u):=by
 show v∈(if y'=y then s.gs y'++[u] else s.gs y')↔_;split
 ·next e=>simp[e]
 ·next e=>exact⟨.inl,λz=>z.elim id λw=>absurd w.1 e⟩
theorem putG_gs  : v∈(Zc T s y u).gs y'↔v∈s.gs y'\/(y'=y/\v=u):=by
 unfold Zc;split
 ·next h=>exact⟨.inl,λz=>z.elim id λw=>by rw[w.1,w.2];exact h⟩
 ·rw[(Jd _ _).2.1];exact QkP
theorem QjB(h:Snd T b s.gs s.cs)(hd:∀c∈s.dn,c∈s.cs)(hc:c∈s.cs)(hT:T c.2.1 c.2.2.1=some (i,bb,j)):Snd T b (Yg T s c i bb j).gs (Yg T s c i bb j).cs:=by
 intro Gp Cp cl;obtain⟨h1,h2⟩:=h Gp Cp cl;have hg:∀y u,u∈(Zc T (popW s) (!bb) (bhd bb c)).gs y->Gp y u:=λy u hu=>by
  rcases putG_gs.mp hu with z|⟨rfl,rfl⟩
  ·exact h1 y u z
  ·exact cl.bh c i bb j (h2 c hc) hT
 have hcs:∀x∈(Zc T (popW s) (!bb) (bhd bb c)).cs,Cp x:=λx hx=>by
  unfold Zc at hx;split at hx
  ·exact h2 x hx
  ·rcases(JS _ _ _).mp hx with z|z
   ·exact h2 x z
   ·obtain⟨c',hc',rfl⟩:=US.mp z;obtain⟨m1,m2⟩:=U3.mp hc';unfold YZ at m2;unfold nxT;cases hT':T c'.2.1 c'.2.2.1 with
    |none=>rw[hT']at m2;cases m2|some e =>obtain⟨i',b',j'⟩:=e;rw[hT']at m2;obtain⟨z1,z2⟩:=UA m2;dsimp only;refine cl.nx c' i' b' j' _ (h2 c' (hd c' m1)) hT' ?_ z2.symm;rw[z1];exact cl.bh c i bb j (h2 c hc) hT
 refine⟨λy u hu=>?_,λx hx=>?_⟩
 ·unfold Yg at hu;dsimp only at hu;rw[(Jd _ _).2.1]at hu;exact hg y u hu
 ·unfold Yg at hx;dsimp only at hx;rcases(JS _ _ _).mp hx with z|z
  ·exact hcs x z
  ·obtain⟨u,hu,rfl⟩:=US.mp z;obtain⟨m1,m2⟩:=U3.mp hu;exact cl.nx c i bb j u (h2 c hc) hT (hg bb u m1) (UA m2)
theorem QjC(h:Cpl T b s)(hp:s.pd=r++[c])(hT:T c.2.1 c.2.2.1=some (i,bb,j)):Cpl T b (Yg T s c i bb j):=by
 have hdn:(Yg T s c i bb j).dn=s.dn++[c]:=by unfold Yg;dsimp only;rw[(Jd _ _).1];show(Zc T (popW s) (!bb) (bhd bb c)).dn++[c]=_;rw[(Qbz _ _ _ _).1];rfl
 have hgs:∀y u,u∈(Yg T s c i bb j).gs y↔u∈s.gs y\/(y=!bb/\u=bhd bb c):=λy u=>by unfold Yg;dsimp only;rw[(Jd _ _).2.1];exact putG_gs
 have hput:∀x∈(Zc T (popW s) (!bb) (bhd bb c)).cs,x∈(Yg T s c i bb j).cs:=λx hx=>by unfold Yg;dsimp only;exact(JS _ _ _).mpr (.inl hx)
 have hcs:∀x∈s.cs,x∈(Yg T s c i bb j).cs:=λx hx=>hput x ((Qbz _ _ _ _).2.2 x hx);refine⟨λy=>(hgs y b).mpr (.inl (h.g0 y)),hcs _ h.c0,λc' i' b' j' hc' hT'=>?_,λc' i' b' j' u hc' hT' hu he=>?_,λx hx=>?_⟩
 ·rw[hdn]at hc';rcases Uu.mp hc' with z|z
  ·exact(hgs _ _).mpr (.inl (h.bh c' i' b' j' z hT'))
  ·rw[Uj.mp z]at hT' ⊢;rw[hT]at hT';cases hT';exact(hgs _ _).mpr (.inr ⟨rfl,rfl⟩)
 ·rw[hdn]at hc';rcases Uu.mp hc' with z|z
  ·rcases(hgs _ _).mp hu with z2|⟨rfl,rfl⟩
   ·exact hcs _ (h.nx c' i' b' j' u z hT' z2 he)
   ·refine hput _ ?_;unfold Zc;split
    ·next hin=>exact h.nx c' i' (!bb) j' _ z hT' hin he
    ·refine(JS _ _ _).mpr (.inr (US.mpr ⟨c',U3.mpr ⟨z,?_⟩,?_⟩))
     ·rw[QdM hT'];exact Uq ⟨rfl,he.symm⟩
     ·unfold nxT;rw[hT']
  ·rw[Uj.mp z]at hT' he ⊢;rw[hT]at hT';cases hT';unfold Yg;dsimp only;refine(JS _ _ _).mpr (.inr (US.mpr ⟨u,U3.mpr ⟨?_,Uq he⟩,rfl⟩));show u∈(Zc T (popW s) (!bb) (bhd bb c)).gs bb;rcases(hgs _ _).mp hu with z2|⟨z2,_⟩
   ·exact putG_gs.mpr (.inl z2)
   ·cases bb<;>cases z2
 ·have hpd:∀x∈r,x∈(Yg T s c i bb j).pd:=λx hx=>by
   unfold Yg;dsimp only;refine(Qa0 _ _).2 x ?_;show x∈(Zc T (popW s) (!bb) (bhd bb c)).pd;have:x∈(popW s).pd:=by show x∈s.pd.dropLast;rw[hp];simpa using hx
   unfold Zc;split
   ·exact this
   ·exact(Qa0 _ _).2 x this
  have fromS:x∈s.cs->x∈s.dn++[c]\/x∈(Yg T s c i bb j).pd:=λhx=>by
   rcases h.all x hx with z|z
   ·exact .inl (Uu.mpr (.inl z))
   ·rw[hp]at z;rcases Uu.mp z with z|z
    ·exact .inr (hpd x z)
    ·exact .inl (Uu.mpr (.inr z))
  rw[hdn];unfold Yg at hx;dsimp only at hx;rcases(Qa0 _ _).1 x hx with z|z
  ·have z:x∈(Zc T (popW s) (!bb) (bhd bb c)).cs:=z;unfold Zc at z;split at z
   ·exact fromS z
   ·next hin=>
    rcases(Qa0 _ _).1 x z with y|y
    ·exact fromS y
    ·refine .inr ?_;unfold Yg;dsimp only;refine(Qa0 _ _).2 x ?_;show x∈(Zc T (popW s) (!bb) (bhd bb c)).pd;unfold Zc;rw[Uf hin];exact y
  ·exact .inr z
end L3
namespace L3
open PySem
theorem Qbe(h:Rp T g0 M g ad s gk)(ok:okS w n m T s)(f:Few w n m)(hv:σ[i]?=some (vR (ad .W))):mOp1 Zn (Qz [15] "contexts" (mVar i)) σ g=.ok (.int s.cs.length) g:=by refine Ze (a_contexts h hv) ?_;unfold Zn dAt;dsimp only;rw[h.atC];dsimp only;rw[Ud,Ue (Uk (ok.cl f) (by decide))]
theorem Qfy(h:Rp T g0 M g ad s gk)(hv:σ[i]?=some (vR (ad .W))):Qj (mOp2 pGt (mOp1 pLen (Qz [15] "pending" (mVar i))) (mI 0)) σ g=.ok (decide (s.pd≠[])) g:=by
 refine Qn (Qi (x:=.int (s.pd.map ctD).length) (y:=.int 0) (Ze (a_pending h hv) (Qjg h.atP)) rfl ?_);rw[Qm5,Ud];congr 2;refine TM.mpr ?_;cases s.pd with
 |nil=>simp|cons _ _=>simp
theorem QeH(hM:g0[M]?=some (Qac rows))(ht:Tb rows n m)(f:Few w n m)  : ∀(fuel:Nat)(g:G)(ad:Ky->Nat)(s:PSt)(gk:GK),Rp (TR rows) g0 M g ad s gk->okS w n m (TR rows) s->KB w m gk->Cpl (TR rows) (blG w) s->Snd (TR rows) (blG w) s.gs s.cs->ad .W=W->900-s.dn.length<fuel->(∃g',ZB (Qj (mOp2 pGt (mOp1 pLen (Qz [15] "pending" (mVar 3))) (mI 0))) Q8 fuel [vR M,vI w,vI most,vR W] g=.rt .non g'/\Keeps [] g0 g'/\∃s',okS w n m (TR rows) s'/\Snd (TR rows) (blG w) s'.gs s'.cs/\(most<s'.cs.length\/∃c∈s'.cs,TR rows c.2.1 c.2.2.1=none))\/(∃g' ad' s' gk',ZB (Qj (mOp2 pGt (mOp1 pLen (Qz [15] "pending" (mVar 3))) (mI 0))) Q8 fuel [vR M,vI w,vI most,vR W] g=.nx [vR M,vI w,vI most,vR W] g'/\Rp (TR rows) g0 M g' ad' s' gk'/\okS w n m (TR rows) s'/\Cpl (TR rows) (blG w) s'/\Snd (TR rows) (blG w) s'.gs s'.cs/\s'.pd=[]/\ad' .W=W)
 |0,_,_,_,_,_,_,_,_,_,_,h=>by omega
 |fuel+1,g,ad,s,gk,h,ok,kb,cp,sn,hW,hf=>by
  subst hW;unfold ZB;rw[Qfy h (σ:=[vR M,vI w,vI most,vR (ad .W)]) (i:=3) rfl];by_cases hp:s.pd=[]
  ·rw[UC (λz=>z hp)];exact .inr ⟨g,ad,s,gk,rfl,h,ok,cp,sn,hp,rfl⟩
  ·rw[Uq hp];dsimp only;obtain⟨r,c,hpc⟩:∃r c,s.pd=r++[c]:=⟨_,_,(List.dropLast_concat_getLast hp).symm⟩;have hc:c∈s.cs:=ok.p c (by rw[hpc];simp);have e1:Qj (mOp2 pGt (mOp1 Zn (Qz [15] "contexts" (mVar 3))) (mVar 2)) [vR M,vI w,vI most,vR (ad .W)] g=.ok (decide (most<s.cs.length)) g:=Qn (Qi (x:=.int s.cs.length) (y:=.int most) (Qbe h ok f rfl) rfl Qm5);have eb:∀{t:Bool}{g':G},QB [.ref (ad .W)] g=.ok (.bl t) g'->decide (most<s.cs.length)=false->Q8 [vR M,vI w,vI most,vR (ad .W)] g=if t=true then .nx [vR M,vI w,vI most,vR (ad .W)] g' else .rt .non g':=λ{t g'} he hl=>by
    have e2:mOrT (Qj (mOp2 pGt (mOp1 Zn (Qz [15] "contexts" (mVar 3))) (mVar 2))) (Yn (Qj (Yc 15 (Str.ofString "went_on") QB (mVar 3) mNil))) [vR M,vI w,vI most,vR (ad .W)] g=.ok (!t) g':=by rw[Qbc,e1,hl];dsimp only;rw[Uf Ui,QaX,Qn ((Q1 (n:=ad .W) (xs:=[]) (g2:=g) rfl h.atW (Qm8 ..) rfl).trans he)]
    unfold Q8;cases t
    ·exact ift _ e2 rfl
    ·exact iff' _ e2 rfl
   by_cases hl:most<s.cs.length
   ·have:Q8 [vR M,vI w,vI most,vR (ad .W)] g=.rt .non g:=by unfold Q8;refine ift g ?_ rfl;rw[Qbc,e1,Uq hl];rfl
    rw[this];exact .inl ⟨g,rfl,h.old,s,ok,sn,.inl hl⟩
   ·cases hT:TR rows c.2.1 c.2.2.1 with
    |none =>obtain⟨g',e2,k2⟩:=Qjt hM ht h ok hpc hT;rw[eb e2 (UC hl)];exact .inl ⟨g',rfl,k2,s,ok,sn,.inr ⟨c,hc,hT⟩⟩|some e=>
     obtain⟨i,b,j⟩:=e;obtain⟨g',ad',gk',e2,h2,ok2,kb2,oW⟩:=Qju hM ht h ok f kb hpc hT;rw[eb e2 (UC hl),Ue rfl];have hdn:(Yg (TR rows) s c i b j).dn=s.dn++[c]:=by unfold Yg;dsimp only;rw[(Jd _ _).1];show(Zc (TR rows) (popW s) (!b) (bhd b c)).dn++[c]=_;rw[(Qbz _ _ _ _).1];rfl
     have l1:=ok2.l;have l2:=ok2.cl f;rw[hdn,Us,Ti]at l1;exact QeH hM ht f fuel g' ad' _ gk' h2 ok2 kb2 (QjC cp hpc hT) (QjB sn (λc hc=>(ok.d c hc).1) hc hT) oW (by rw[hdn,Us,Ti];omega)
def Told(rows:List (List D))(w n m:Nat)(g0 g':G)(d:D)(most:Int):Prop:=(d=.non/\∃s',okS w n m (TR rows) s'/\Snd (TR rows) (blG w) s'.gs s'.cs/\(most<s'.cs.length\/∃c∈s'.cs,TR rows c.2.1 c.2.2.1=none))\/(∃s':PSt,okS w n m (TR rows) s'/\Snd (TR rows) (blG w) s'.gs s'.cs/\Cl (TR rows) (blG w) (λy u=>u∈s'.gs y) (λc=>c∈s'.cs)/\(∀c∈s'.cs,TR rows c.2.1 c.2.2.1≠none)/\(s'.cs.length:Int)<=most/\∃a b c,d=.tup [.str "wall",.int w,.ref a,.ref b,.ref c]/\g'[a]?=some (srt ((s'.gs false).map .inl))/\g'[b]?=some (srt ((s'.gs true).map .inl))/\g'[c]?=some (srt (s'.cs.map .inr))/\g0.length<=a/\g0.length<=b/\g0.length<=c/\a≠b/\a≠c/\b≠c)
theorem Qne(f:Few w n m):Cpl (TR rows) (blG w) (ask (iniS (blG w)) (c00 w))/\Snd (TR rows) (blG w) (ask (iniS (blG w)) (c00 w)).gs (ask (iniS (blG w)) (c00 w)).cs:=by
 have e:ask (iniS (blG w)) (c00 w)=⟨λ_=>[blG w],[c00 w],[c00 w],[]⟩:=rfl;rw[e];refine⟨⟨λ_=>Uj.mpr rfl,Uj.mpr rfl,λc i bb j hc=>(by cases hc),λc i bb j u hc=>(by cases hc),λc hc=>.inr hc⟩,λGp Cp cl=>⟨λy u hu=>?_,λc hc=>?_⟩⟩
 ·rw[Uj.mp (show u∈[blG w] from hu)];exact cl.g0 y
 ·rw[Uj.mp (show c∈[c00 w] from hc)];exact cl.c0
theorem Qfz(hM:g0[M]?=some (Qac rows))(ht:Tb rows n m)(f:Few w n m)(most:Int):∃d g',Zr [.ref M,.int w,.int most] g0=.ok d g'/\Keeps [] g0 g'/\Told rows w n m g0 g' d most:=by
 obtain⟨g1,e1,h1⟩:=QkN (T:=TR rows) (g0:=g0) (M:=M) (σ:=[vR M,vI w,vI most,none]) (a:=Qa (mVar 0) (Qa (mVar 1) mNil)) f rfl;have ok1:okS w n m (TR rows) (ask (iniS (blG w)) (c00 w)):=(QlN f).ask (QlM f);have c1:Qj (mOp2 pLt (mVar 1) (mI 1)) [vR M,vI w,vI most,none] g0=.ok false g0:=by refine Qn (Qi (x:=.int w) (y:=.int 1) rfl rfl ?_);rw[QkE,UC (by have:=f.w1;omega)]
 obtain⟨cp,sn⟩:=Qne (rows:=rows) f;rcases QeH hM ht f (most:=most) (W:=g0.length) 1000 g1 (iniA g0.length) _ _ h1 ok1 (Qo6 f) cp sn rfl (by omega) with⟨g',e2,k2,s',ok2,sn2,hh⟩|⟨g',ad',s',gk',e2,h2,ok2,cp2,sn2,hp,oW⟩
 ·refine⟨.non,g',QT rfl ?_,k2,.inl ⟨rfl,s',ok2,sn2,hh⟩⟩;show Yw [vR M,vI w,vI most,none] g0=_;unfold Yw;refine Qh [vR M,vI w,vI most,none] g0 (iff' _ c1 rfl) ?_;refine Qh [vR M,vI w,vI most,vR g0.length] g1 (Qv e1) ?_;exact YY (QbB e2 (λz=>by cases z))
 ·have cl2:=cp2.cl hp;have hd:∀c∈s'.cs,TR rows c.2.1 c.2.2.1≠none:=λc hc=>by
   rcases cp2.all c hc with z|z
   ·exact(ok2.d c z).2
   ·rw[hp]at z;cases z
  have c2:Qj (mOp2 pLe (mOp1 Zn (Qz [15] "contexts" (mVar 3))) (mVar 2)) [vR M,vI w,vI most,vR g0.length] g'=.ok (decide ((s'.cs.length:Int)<=most)) g':=Qn (Qi (x:=.int s'.cs.length) (y:=.int most) (Qbe h2 ok2 f (by rw[oW];rfl)) rfl Qp3);have st:∀{R:Out},mRet (mIfE (Qj (mOp2 pLe (mOp1 Zn (Qz [15] "contexts" (mVar 3))) (mVar 2))) (Yc 15 (Str.ofString "paper") Zb (mVar 3) (Qa (mVar 1) mNil)) (mLit .non)) [vR M,vI w,vI most,vR g0.length] g'=R->Yw [vR M,vI w,vI most,none] g0=R:=λ{R} hR=>by unfold Yw;refine Qh [vR M,vI w,vI most,none] g0 (iff' _ c1 rfl) ?_;refine Qh [vR M,vI w,vI most,vR g0.length] g1 (Qv e1) ?_;exact Qh [vR M,vI w,vI most,vR g0.length] g' (QbB e2 (λz=>by cases z)) hR
  by_cases hl:(s'.cs.length:Int)<=most
  ·obtain⟨a,b,c,g2,e3,q1,q2,q3,k3,q4⟩:=QkO h2 ok2 f;rw[oW]at e3;refine⟨_,g2,QT rfl (st (Q6 (d:=.tup [.str "wall",.int w,.ref a,.ref b,.ref c]) (g':=g2) ?_)),k3,.inr ⟨s',ok2,sn2,cl2,hd,hl,a,b,c,rfl,q1,q2,q3,q4⟩⟩;rw[QlA,c2,Uq hl];dsimp only;rw[Ue rfl,Q1 (n:=g0.length) (xs:=[.int w]) (g2:=g') rfl (by rw[<-oW];exact h2.atW) (QkK ..) rfl,e3]
  ·refine⟨.non,g',QT rfl (st (Q6 (d:=.non) (g':=g') ?_)),h2.old,.inl ⟨rfl,s',ok2,sn2,.inl (by omega)⟩⟩;rw[QlA,c2,UC hl];rfl
end L3
namespace L3
open PySem
theorem eq_g(u v:List Int)(g:G):pEq (gmD u) (gmD v) g=.ok (.bl (decide (u=v))) g:=by
 unfold pEq;have:eqT g (gmD u) (gmD v)=some (decide (u=v)):=by show(match rowI (u.map .int),rowI (v.map .int) with|some u,some v=>some (decide (u=v))|_,_=>none)=_;rw[JP,JP]
 rw[this]
theorem QlQ(ha:a σ g=.ok (gmD u) g):QW a QD (ZM (mOp2 pSub (mOp1 pLen a) (mI 1))) σ g=.ok (gmD u.dropLast) g:=by rw[ZV,ha];dsimp only;rw[ZK];dsimp only;rw[Jc,Qi (Ze ha (Qp4 u g)) (show mLit (.int 1) σ g=.ok (.int 1) g from rfl) Qo1];exact QkJ u g
def YN(us:List (List Int)):GO:=.dcn false (us.map λu=>(.inl u,.bl true))
def QdS(cs:List Ct):GO:=.dcn true (cs.map λc=>(.inr c,.bl true))
theorem Qgy{i no r:Nat}{cap:List Nat}{c:MT}{e:ME}{σ σ0:S3}{g:G}{us:List (List Int)}{p:List Int->Bool}{f:List Int->D}(hv:σ[i]?=some (vR r))(hg:g[r]?=some (YN us))(hz:us.length<=900)(hc:capt no cap σ=σ0)(h:∀u∈us,∀x,c (σ0.set 0 x |>.set 0 (vM u)) (g.set r (.dcf false (us.map λu=>(.inl u,.bl true))))=.ok (p u) (g.set r (.dcf false (us.map λu=>(.inl u,.bl true))))/\e (σ0.set 0 x |>.set 0 (vM u)) (g.set r (.dcf false (us.map λu=>(.inl u,.bl true))))=.ok (f u) (g.set r (.dcf false (us.map λu=>(.inl u,.bl true))))):
  QcL i no cap (gSet 0) c e σ g=.ok (.ref g.length) (g++[.lst ((us.filter p).map f)]):=by
 have hr:=QE hg
 let g1:G:=g.set r (.dcf false (us.map λu=>(.inl u,.bl true)))
 have e1:mItN (mVar i) σ g=.ok ⟨λ_ k=>some (us.map gmD)[k]?,us.length⟩ g1:=by unfold mItN Qg5;rw[Q7 hv,Res.bind_ok];unfold QiX;dsimp only;rw[hg];unfold YN;dsimp only;rw[Rr,Ud];rfl
 obtain⟨ds,σ',g',c1,c2,c3,_⟩:=YX (src:=⟨λ_ k=>some (us.map gmD)[k]?,us.length⟩) (t:=gSet 0) (c:=c) (e:=e) (n:=us.length)
  (λk σ' g' acc=>acc=((us.take k).filter p).map f/\g'=g1/\∃x,σ'=σ0.set 0 x) (λk σ' g' acc hk hQ=>by
   obtain⟨q1,q2,x,q3⟩:=hQ;subst q2 q3;obtain⟨a1,a2⟩:=h us[k] (TN hk) x;have tk:us.take (k+1)=us.take k++[us[k]]:=Y1 (by simp[hk]);refine⟨gmD us[k],(σ0.set 0 x).set 0 (some (gmD us[k])),g1,?_,rfl,?_⟩
   ·show some (us.map gmD)[k]?=_;rw[UJ,U1 hk];rfl
   ·cases hp:p us[k]with
    |true =>rw[hp]at a1;refine .inl ⟨f us[k],g1,a1,a2,?_,rfl,some (gmD us[k]),by rw[Rs]⟩;rw[q1,tk,RC,RO hp,U4];rfl|false =>rw[hp]at a1;refine .inr ⟨a1,?_,rfl,some (gmD us[k]),by rw[Rs]⟩;rw[q1,tk,RC,Wz (by rw[hp];exact Ui)];simp) (λσ' g' acc hQ=>by show some (us.map gmD)[us.length]?=_;rw[RE (by rw[Ud];exact Ug _)]) (us.length+1) 0 σ0 g1 [] (by omega) (by omega) ⟨rfl,rfl,σ0.getD 0 none,by
    cases σ0 with
    |nil=>rfl|cons a r=>rfl⟩
 rw[Rw]at c2;subst c3;have e2:=Qjc (it:=mItN (mVar i)) (t:=gSet 0) (c:=c) (e:=e) e1 (Uk hz (by decide)) hc c1;unfold QcL;rw[Q7 hv];dsimp only;rw[e2];dsimp only;rw[hg];have e3:(g1++[GO.lst ds])[r]?=some (.dcf false (us.map λu=>(.inl u,.bl true))):=by rw[Ul (by show r<(g.set r _).length;rw[UK];exact hr)];exact Z6 hg
 rw[e3];show Res.ok (D.ref g1.length) ((g1++[GO.lst ds]).set r (YN us))=_;rw[show g1.length=g.length by show(g.set r _).length=_;rw[UK],List.set_append_left _ _ (by show r<(g.set r _).length;rw[UK];exact hr),c2];congr 2;show(g.set r _).set r _=g;rw[Rs];refine BA λk=>?_;by_cases z:k=r
 ·subst z;rw[UP hr,hg]
 ·rw[Uh (Ne.symm z)]
theorem QeI{σ:S3}{i j k:Nat}{p q:Int}(hr:tabOf N g t rows)(ht:Tb rows n m)(h0:0<=p)(h1:p<n)(h2:0<=q)(h3:q<m)(hi:σ[i]?=some (vR t))(hj:σ[j]?=some (vI p))(hk:σ[k]?=some (vI q)):mOp2 pIx (mOp2 pIx (mVar i) (mVar j)) (mVar k) σ g=.ok (eAt rows p q) g:=by
 obtain⟨r,r1,r2,_⟩:=ht.at' h0 h1 h2 h3;obtain⟨_,ds,d1,d2,d3⟩:=hr;have l1:p.toNat<ds.length:=by rw[d2];exact(Um.mp r1).1
 obtain⟨a,a1,_,_,a2⟩:=d3 p.toNat ds[p.toNat] r (by simp[l1]) r1;exact Qi (Qi (Q7 hi) (Q7 hj) (QcN d1 h0 (d:=.ref a) (by rw[<-a1];simp[l1]))) (Q7 hk) (QcN a2 h2 r2)
theorem QfA{c:Ct}{x y:D}(hr:tabOf N g t rows)(ht:Tb rows n m)(okc:okC w n m c)(hT:TR rows c.2.1 c.2.2.1=none):JN [.ref t,ctD c,x,y] g=.ok .non g:=by
 obtain⟨l,p,q,r⟩:=c;obtain⟨_,_,_,h3⟩:=ht.at' okc.2.1.1 okc.2.1.2 okc.2.2.1.1 okc.2.2.1.2;have en:eAt rows p q=.non:=by
  rcases h3.cases with⟨e,_⟩|⟨i,b,j,_,e2,_⟩
  ·exact e
  ·exact absurd (hT.symm.trans e2) (λz=>by cases z)
 refine QT rfl ?_;show YW [vR t,some (ctD (l,p,q,r)),some x,some y,none,none,none,none,none,none] g=_;unfold YW;refine Qh [vR t,some (ctD (l,p,q,r)),some x,some y,vM l,vI p,vI q,vM r,none,none] g rfl ?_;refine Qh [vR t,some (ctD (l,p,q,r)),some x,some y,vM l,vI p,vI q,vM r,some .non,none] g (Qv ((QeI hr ht okc.2.1.1 okc.2.1.2 okc.2.2.1.1 okc.2.2.1.2 rfl rfl rfl).trans (by rw[en]))) ?_;exact YY (ift _ (Qn (Qi (x:=.non) (y:=.non) rfl rfl rfl)) rfl)
theorem QfB{c:Ct}{i j:Int}{b:Bool}{DD:Bool->Nat}{us:Bool->List (List Int)}(f:Few w n m)(hr:tabOf N g t rows)(ht:Tb rows n m)(okc:okC w n m c)(hT:TR rows c.2.1 c.2.2.1=some (i,b,j))(hD:∀y,g[DD y]?=some (YN (us y)))(hz:∀y,(us y).length<=900)(ho:∀y,∀u∈us y,okG w m u):
  JN [.ref t,ctD c,.ref (DD false),.ref (DD true)] g=.ok (.tup [.str (wS !b),gmD (bhd b c),.ref g.length]) (g++[.lst ((((us b).filter λu=>decide (u.dropLast=(ahd b c).tail)).map λu=>nxC i b j c u).map ctD)]):=by
 obtain⟨i',b',j',t1,t2,_⟩:=Qby ht okc (by rw[hT];exact λz=>by cases z);rw[hT]at t1;cases t1;obtain⟨l,p,q,r⟩:=c;have t2:eAt rows p q=enD i b j:=t2;have ha:1<=(ahd b (l,p,q,r)).length:=by rw[(okc.a b).1];exact f.w1
 have hb:(bhd b (l,p,q,r)).dropLast.length<=1000:=by rw[Rc,(okc.b b).1];have:=f.w3;omega
 have cd:∀(u v:List Int)(x1 x2:Option D)(g':G),Qj (mOp2 pEq (QW (mVar 0) QD (ZM (mOp2 pSub (mOp1 pLen (mVar 0)) (mI 1)))) (QW (mVar 3) (ZM (mI 1)) QD)) [vM u,x1,x2,vM v] g'=.ok (decide (u.dropLast=v.tail)) g':=λu v x1 x2 g'=>by
  refine Qn (Qi (x:=gmD u.dropLast) (y:=gmD v.tail) (g1:=g') (g2:=g') ?_ ?_ (eq_g _ _ _))
  ·exact QlQ rfl
  ·simp only[ZV,ZK,Jc,Qjf];exact Qjk v g'
 have inner:∀{σ:S3}{k:Nat}{v:List Int},σ[8]?=some (some (enD i b j))->σ[k]?=some (vM v)->v.dropLast.length<=1000->mOp2 pAdd (mOpA pTup (Qa (mOp2 pIx (mVar 8) (mI 0)) mNil)) (QW (mVar k) QD (ZM (mOp2 pSub (mOp1 pLen (mVar k)) (mI 1)))) σ g=.ok (gmD (i::v.dropLast)) g:=λ{σ k v} h8 hk hl=>by
  refine Qi (x:=.tup [.int i]) (y:=gmD v.dropLast) (g1:=g) (g2:=g) ?_ ?_ (Qo5 i _ g hl)
  ·simp[h8,enD]
  ·exact QlQ (Q7 hk)
 refine QT rfl ?_;show YW [vR t,some (ctD (l,p,q,r)),vR (DD false),vR (DD true),none,none,none,none,none,none] g=_;unfold YW;refine Qh [vR t,some (ctD (l,p,q,r)),vR (DD false),vR (DD true),vM l,vI p,vI q,vM r,none,none] g rfl ?_;refine Qh [vR t,some (ctD (l,p,q,r)),vR (DD false),vR (DD true),vM l,vI p,vI q,vM r,some (enD i b j),none] g (Qv ((QeI hr ht okc.2.1.1 okc.2.1.2 okc.2.2.1.1 okc.2.2.1.2 rfl rfl rfl).trans (by rw[t2]))) ?_;refine Qh _ g (iff' _ (Qn (Qi (x:=enD i b j) (y:=.non) rfl rfl rfl)) rfl) ?_;have c1:∀x9,Qj (mOp2 pEq (mOp2 pIx (mVar 8) (mI 1)) (mLit (.str "r"))) [vR t,some (ctD (l,p,q,r)),vR (DD false),vR (DD true),vM l,vI p,vI q,vM r,some (enD i b j),x9] g=.ok b g:=λx9=>Qn (Qi (x:=.str (wS b)) (g1:=g) (g2:=g) (Qi (x:=enD i b j) (y:=.int 1) (g1:=g) (g2:=g) rfl rfl QlB) Qfw (eq_w b g));cases b with
 |true =>refine YY (ift _ (c1 none) ?_);refine Qh [vR t,some (ctD (l,p,q,r)),vR (DD false),vR (DD true),vM l,vI p,vI q,vM r,some (enD i true j),vM (i::l.dropLast)] g (Qv (inner rfl rfl hb)) (Q6 ?_);have cm:=Qgy (i:=3) (no:=1) (cap:=[9,8,7]) (c:=Qj (mOp2 pEq (QW (mVar 0) QD (ZM (mOp2 pSub (mOp1 pLen (mVar 0)) (mI 1)))) (QW (mVar 3) (ZM (mI 1)) QD))) (e:=mOpA pTup (Qa (mVar 1) (Qa (mOp2 pIx (mVar 2) (mI 2)) (Qa (mOp2 pIx (mVar 3) (mI 0)) (Qa (mVar 0) mNil))))) (σ:=[vR t,some (ctD (l,p,q,r)),vR (DD false),vR (DD true),vM l,vI p,vI q,vM r,some (enD i true j),vM (i::l.dropLast)]) (σ0:=[none,vM (i::l.dropLast),some (enD i true j),vM r]) (p:=λu=>decide (u.dropLast=r.tail)) (f:=λu=>ctD (nxC i true j (l,p,q,r) u)) rfl (hD true) (hz true) rfl (λu hu x=>⟨cd u r _ _ _,by simp only[QaC,Qb9,Qje,Qlz,Qjf,QcO,Bn,Rl,Rj,enD,QlC];rw[Qfs r _ ha];exact QcQ _ _ (by show 4<=100;decide)⟩);rw[QaC,Qf (Qhe) (Qf (x:=gmD l) rfl (Qf cm rfl))];dsimp only;rw[QcQ _ _ (by show 3<=100;decide),Rr];rfl|false =>refine Qh _ g (iff' _ (c1 none) rfl) ?_;refine Qh [vR t,some (ctD (l,p,q,r)),vR (DD false),vR (DD true),vM l,vI p,vI q,vM r,some (enD i false j),vM (i::r.dropLast)] g (Qv (inner rfl rfl hb)) (Q6 ?_);have cm:=Qgy (i:=2) (no:=1) (cap:=[9,8,4]) (c:=Qj (mOp2 pEq (QW (mVar 0) QD (ZM (mOp2 pSub (mOp1 pLen (mVar 0)) (mI 1)))) (QW (mVar 3) (ZM (mI 1)) QD))) (e:=mOpA pTup (Qa (mVar 0) (Qa (mOp2 pIx (mVar 2) (mI 2)) (Qa (mOp2 pIx (mVar 3) (mI 0)) (Qa (mVar 1) mNil))))) (σ:=[vR t,some (ctD (l,p,q,r)),vR (DD false),vR (DD true),vM l,vI p,vI q,vM r,some (enD i false j),vM (i::r.dropLast)]) (σ0:=[none,vM (i::r.dropLast),some (enD i false j),vM l]) (p:=λu=>decide (u.dropLast=l.tail)) (f:=λu=>ctD (nxC i false j (l,p,q,r) u)) rfl (hD false) (hz false) rfl (λu hu x=>⟨cd u l _ _ _,by simp only[QaC,Qb9,Qje,Qlz,Qjf,QcO,Bn,Rl,Rj,enD,QlC];rw[Qfs l _ ha];exact QcQ _ _ (by show 4<=100;decide)⟩);rw[QaC,Qf (Qfw) (Qf (x:=gmD r) rfl (Qf cm rfl))];dsimp only;rw[QcQ _ _ (by show 3<=100;decide),Rr];rfl
end L3
namespace L3
open PySem
def cS:Str:=⟨#[99]⟩
theorem s_c:Str.ofString "c"=cS:=by decide +kernel
def QeJ(n:Nat):List (DK×D):=[(.inr (wS false),.ref (n+1)),(.inr (wS true),.ref (n+2)),(.inr cS,.ref (n+3))]
def JU(n:Nat)(y:Bool):Nat:=if y=true then n+2 else n+1
structure LSt where
 gs:Bool->List (List Int)
 cs:List Ct
structure LRp(g0 g:G)(s:LSt):Prop where
 old:Keeps [] g0 g
 f:g[g0.length]?=some (.dct (QeJ g0.length))
 d:∀y,g[JU g0.length y]?=some (YN (s.gs y))
 c:g[g0.length+3]?=some (QdS s.cs)
structure okL(w n m:Nat)(s:LSt):Prop where
 g:∀y u,u∈s.gs y->okG w m u
 gn:∀y,(s.gs y).Nodup
 c:∀c∈s.cs,okC w n m c
 cn:s.cs.Nodup
def addU[DecidableEq α](xs:List α)(x:α):List α:=if x∈xs then xs else xs++[x]
section
variable{α:Type}[DecidableEq α]{xs:List α}{x z:α}
theorem addU_mem:z∈addU xs x↔z∈xs\/z=x:=by
 unfold addU;split
 ·next h=>exact⟨.inl,λq=>q.elim id λe=>e ▸ h⟩
 ·simp
theorem QcT(h:xs.Nodup):(addU xs x).Nodup:=by
 unfold addU;split
 ·exact h
 ·next hn=>exact Rm.mpr ⟨h,by simp,λa ha b hb q=>hn (by rw[Uj.mp hb]at q;rw[<-q];exact ha)⟩
theorem addU_pre:xs <+: addU xs x:=by
 unfold addU;split
 ·exact Wp _
 ·exact List.prefix_append ..
end
theorem Qgz(k:SKd)(f:κ->SKd)(us:List κ):((us.map λu=>(f u,D.bl true)).map λq=>if q.1=k then (q.1,D.bl true) else q)=us.map λu=>(f u,D.bl true):=by rw[Rr];refine Wr λu _=>?_;dsimp only[Function.comp];split<;>rfl
theorem Qp5(us:List (List Int))(u:List Int):nPut (us.map λu=>(.inl u,.bl true)) (.inl u) (.bl true)=(addU us u).map λu=>(.inl u,.bl true):=by
 unfold nPut addU;rw[Qbw];by_cases h:u∈us
 ·rw[Ue h,Ue h];exact(Ue rfl).trans (Qgz (.inl u) Sum.inl us)
 ·rw[Uf h,Uf h,Uf (by simp),U4];rfl
theorem Qp6(cs:List Ct)(c:Ct):nPut (cs.map λc=>(.inr c,.bl true)) (.inr c) (.bl true)=(addU cs c).map λc=>(.inr c,.bl true):=by
 unfold nPut addU;rw[QdK];by_cases h:c∈cs
 ·rw[Ue h,Ue h];exact(Ue rfl).trans (Qgz (.inr c) Sum.inr cs)
 ·rw[Uf h,Uf h,Uf (by simp),U4];rfl
theorem okL.gl(h:okL w n m s)(f:Few w n m)(y:Bool):(s.gs y).length<=900:=Uk (YG (h.gn y) λu hu=>JQ (h.g y u hu)) f.g
theorem okL.cl(h:okL w n m s)(f:Few w n m):s.cs.length<=900:=Uk (YG h.cn λc hc=>Qgt (h.c c hc)) f.c
theorem LRp.lt(h:LRp g0 g s):g0.length+3<g.length:=QE h.c
theorem LRp.push(h:LRp g0 g s)(o:GO):LRp g0 (g++[o]) s:=by have:=h.lt;exact⟨h.old.trans (.push o),by rw[Ul (by omega)];exact h.f,λy=>by rw[Ul (by unfold JU;split<;>omega)];exact h.d y,by rw[Ul (by omega)];exact h.c⟩
theorem QdT(n:Nat)(y:Bool):n+1<=JU n y/\JU n y<=n+2:=by unfold JU;split<;>omega
theorem LRp.setC(h:LRp g0 g s)(cs:List Ct):LRp g0 (g.set (g0.length+3) (QdS cs)) ⟨s.gs,cs⟩:=by
 refine⟨⟨by rw[UK];exact h.old.len,λk o hk e=>?_⟩,by rw[Uh (by omega)];exact h.f,λy=>?_,Z6 h.c⟩
 ·have:=QE e;rw[Uh (by omega)];exact h.old.at' k o hk e
 ·have:=QdT g0.length y;rw[Uh (by omega)];exact h.d y
def updG(gs:Bool->List (List Int))(y:Bool)(us:List (List Int)):Bool->List (List Int):=λy'=>if y'=y then us else gs y'
theorem LRp.setG(h:LRp g0 g s)(y:Bool)(us:List (List Int)):LRp g0 (g.set (JU g0.length y) (YN us)) ⟨updG s.gs y us,s.cs⟩:=by
 have b:=QdT g0.length y;refine⟨⟨by rw[UK];exact h.old.len,λk o hk e=>?_⟩,by rw[Uh (by omega)];exact h.f,λy'=>?_,by rw[Uh (by omega)];exact h.c⟩
 ·have:=QE e;rw[Uh (by omega)];exact h.old.at' k o hk e
 ·by_cases e:y'=y
  ·subst e;rw[Z6 (h.d y')];show _=some (YN (if y'=y' then us else s.gs y'));rw[Ue rfl]
  ·show _=some (YN (if y'=y then us else s.gs y'));rw[Uf e,Uh (λz=>e (by unfold JU at z;cases y<;>cases y'<;>simp at z ⊢))];exact h.d y'
theorem Qcc(h:g[t]?=some (.dct (QeJ n))):Qs (.ref t) (.str (wS y)) g=.ok (.ref (JU n y)) g:=by unfold Qs;dsimp only;rw[h];dsimp only;cases y<;>rfl
theorem Qp7(h:g[t]?=some (.dct (QeJ n))):Qs (.ref t) (.str cS) g=.ok (.ref (n+3)) g:=by unfold Qs;dsimp only;rw[h];rfl
theorem o_l(h:LRp g0 g s)(hv:σ[3]?=some (vR g0.length)):mOp2 Qs (mVar 3) (mLit (.str "l")) σ g=.ok (.ref (JU g0.length false)) g:=Qi (Q7 hv) Qhe (Qcc (y:=false) h.f)
theorem o_r(h:LRp g0 g s)(hv:σ[3]?=some (vR g0.length)):mOp2 Qs (mVar 3) (mLit (.str "r")) σ g=.ok (.ref (JU g0.length true)) g:=Qi (Q7 hv) Qfw (Qcc (y:=true) h.f)
theorem o_c(h:LRp g0 g s)(hv:σ[3]?=some (vR g0.length)):mOp2 Qs (mVar 3) (mLit (.str "c")) σ g=.ok (.ref (g0.length+3)) g:=Qi (x:=.ref g0.length) (y:=.str cS) (Q7 hv) (by rw[s_c];rfl) (Qp7 h.f)
theorem QdU(ho:o σ g=.ok (.ref r) g)(hg:g[r]?=some (.dcn τ ks))(hz:ks.length<=900):mOp1 Zn o σ g=.ok (.int ks.length) g:=by refine Ze ho ?_;unfold Zn dAt;dsimp only;rw[hg];dsimp only;rw[Ue (Uk hz (by decide))]
theorem QdV(ho:o σ g=.ok (.ref r) g)(hg:g[r]?=some (.dcn τ ks))(hz:ks.length<=900):mOp1 Ya o σ g=.ok (.ref g.length) (g++[.lst (ks.map λp=>kD p.1)]):=by refine Ze ho ?_;unfold Ya dAt;dsimp only;rw[hg];dsimp only;rw[Ue (Uk hz (by decide))]
theorem QjD(ho:o σ g=.ok (.ref r) g)(hk:k σ g=.ok d g)(hg:g[r]?=some (.dcn τ ks))(hs:skOf τ d=some kk)(hz:ks.length<=900):JZ o k (mLit (.bl true)) σ g=.nx σ (g.set r (.dcn τ (nPut ks kk (.bl true)))):=by unfold JZ;rw[show mLit (.bl true) σ g=.ok (.bl true) g from rfl];dsimp only;rw[ho];dsimp only;rw[hk];dsimp only;rw[hg];dsimp only;rw[hs];dsimp only;rw[Ue (Qhb (Uk hz (by decide)))]
def tot(s:LSt):Nat:=(s.gs false).length+(s.gs true).length+s.cs.length
theorem QlR(h:LRp g0 g s)(ok:okL w n m s)(f:Few w n m)(hv:σ[3]?=some (vR g0.length)):mOp2 pAdd (mOp2 pAdd (mOp1 Zn (mOp2 Qs (mVar 3) (mLit (.str "l")))) (mOp1 Zn (mOp2 Qs (mVar 3) (mLit (.str "r"))))) (mOp1 Zn (mOp2 Qs (mVar 3) (mLit (.str "c")))) σ g=.ok (.int (tot s)) g:=by have e1:=QdU (o_l h hv) (h.d false) (by rw[Ud];exact ok.gl f false);have e2:=QdU (o_r h hv) (h.d true) (by rw[Ud];exact ok.gl f true);have e3:=QdU (o_c h hv) h.c (by rw[Ud];exact ok.cl f);rw[Qi (Qi e1 e2 QcP) e3 QcP];simp only[Ud];congr 2
end L3
namespace L3
open PySem
theorem Qhf{t:MG}{body:MS}{a:Nat}{ds:List D}{e:ME}{σ:S3}{g g1:G}(he:e σ g=.ok (.ref a) g1)(hg:g1[a]?=some (.lst ds))(I:Nat->S3->G->Prop)(R:Out->Prop)(h0:I 0 σ g1)(hI:∀i σ g,I i σ g->g[a]?=some (.lst ds))(step:∀i d σ g,ds[i]?=some d->I i σ g->∃σ1,t d σ=some σ1/\((∃σ2 g2,body σ1 g=.nx σ2 g2/\I (i+1) σ2 g2)\/(Qfp (body σ1 g)/\R (body σ1 g)))):
  (∃σ' g',mFor (QR e) t body σ g=.nx σ' g'/\I ds.length σ' g')\/(Qfp (mFor (QR e) t body σ g)/\R (mFor (QR e) t body σ g)):=by
 have es:QR e σ g=.ok (srcL a ds.length) g1:=by unfold QR;rw[he,Res.bind_ok];show JY (.ref a) g1=_;unfold JY;dsimp only;rw[hg];rfl
 rw[Qb7 es];refine Jb (src:=srcL a ds.length) (n:=ds.length) I R (λi σ g hi h=>?_) (λσ g h=>?_) (ds.length+1) 0 σ g1 (by omega) (by omega) h0
 ·obtain⟨σ1,h1,h2⟩:=step i ds[i] σ g (by simp[hi]) h;refine⟨ds[i],σ1,?_,h1,h2.imp (λ⟨σ2,g2,h3,h4⟩=>⟨σ2,g2,.inl h3,h4⟩) id⟩;show(match g[a]? with|some (.lst es)=>some es[i]? | _=>none)=_;rw[hI i σ g h];simp[hi]
 ·show(match g[a]? with|some (.lst es)=>some es[ds.length]? | _=>none)=_;rw[hI _ σ g h];simp
theorem QkQ(h:∀v∈us,okG w m v)(hu:okG w m u):∀v∈addU us u,okG w m v:=λv hv=>(addU_mem.mp hv).elim (h v) λe=>e ▸ hu
theorem Qnf(f:Few w n m)(hσ:σ[3]?=some (vR g0.length))(hσl:10<σ.length)(h9:σ[9]?=some (vR a))(xs:List Ct)(hx:∀c∈xs,okC w n m c)(s:LSt)(h:LRp g0 g s)(ok:okL w n m s)(ha:g[a]?=some (.lst (xs.map ctD)))(hal:g0.length+3<a):
  ∃σ' g',mFor (QR (mVar 9)) (gSet 10) Jt σ g=.nx σ' g'/\(∃x,σ'=σ.set 10 x)/\LRp g0 g' ⟨s.gs,xs.foldl addU s.cs⟩/\okL w n m ⟨s.gs,xs.foldl addU s.cs⟩/\g'.length=g.length/\(∀k,g0.length+3<k->g'[k]?=g[k]?):=by
 have key:=QdJ (t:=gSet 10) (body:=Jt) (e:=mVar 9) (σ:=σ) (g:=g) (Q7 h9) ha (λi σ' g'=>(∃x,σ'=σ.set 10 x)/\LRp g0 g' ⟨s.gs,(xs.take i).foldl addU s.cs⟩/\okL w n m ⟨s.gs,(xs.take i).foldl addU s.cs⟩/\g'.length=g.length/\(∀k,g0.length+3<k->g'[k]?=g[k]?))
  ⟨⟨(σ[10]?).getD none,by
   have:σ[10]?=some σ[10]:=by simp[hσl]
   rw[this];exact(List.set_getElem_self hσl).symm⟩,h,ok,rfl,λ_ _=>rfl⟩ (λi σ' g' hh=>by rw[hh.2.2.2.2 a hal];exact ha) (λi d σ' g' hd hh=>by
   obtain⟨⟨x,q1⟩,q2,q3,q4,q5⟩:=hh;subst q1;rw[UJ]at hd;obtain⟨c,hc,rfl⟩:=UW.mp hd;have tk:(xs.take (i+1)).foldl addU s.cs=addU ((xs.take i).foldl addU s.cs) c:=by rw[Y1 hc,List.foldl_append];rfl
   have s3:((σ.set 10 x).set 10 (some (ctD c)))[3]?=some (vR g0.length):=by rw[Uh (by omega),Uh (by omega)];exact hσ
   have s10:((σ.set 10 x).set 10 (some (ctD c)))[10]?=some (some (ctD c)):=by rw[Rs,UP hσl]
   have e1:=QjD (k:=mVar 10) (o_c q2 s3) (Q7 s10) q2.c (sk_c c) (by rw[Ud];exact q3.cl f);rw[Qp6]at e1;refine⟨_,(σ.set 10 x).set 10 (some (ctD c)),g'.set (g0.length+3) (QdS (addU ((xs.take i).foldl addU s.cs) c)),rfl,e1,⟨some (ctD c),by rw[Rs]⟩,?_,?_,by rw[UK];exact q4,λk hk=>by rw[Uh (by omega)];exact q5 k hk⟩
   ·rw[tk];exact q2.setC _
   ·rw[tk];exact⟨q3.g,q3.gn,λz hz=>(addU_mem.mp hz).elim (q3.c z) λe=>e ▸ hx c (Td hc),QcT q3.cn⟩)
 obtain⟨σ',g',e,q1,q2,q3,q4⟩:=key;rw[Ud,Rw]at q2 q3;exact⟨σ',g',e,q1,q2,q3,q4⟩
theorem Qcd:∀(xs cs:List Ct)(x:Ct),x∈xs.foldl addU cs↔x∈cs\/x∈xs
 |[],cs,x=>by simp
 |c::xs,cs,x=>by rw[B5,Qcd xs,addU_mem,UG,or_assoc]
theorem QeK:∀(xs cs:List Ct),cs <+: xs.foldl addU cs
 |[],_=>Wp _|_::xs,_=>addU_pre.trans (QeK xs _)
def QdW(s:LSt)(c:Ct)(i:Int)(b:Bool)(j:Int):LSt:=⟨updG s.gs (!b) (addU (s.gs (!b)) (bhd b c)),(((s.gs b).filter λu=>decide (u.dropLast=(ahd b c).tail)).map λu=>nxC i b j c u).foldl addU s.cs⟩
theorem QjE(f:Few w n m)(hr:tabOf N g0 t rows)(ht:Tb rows n m)(h:LRp g0 g s)(ok:okL w n m s)(okc:okC w n m c)(hT:TR rows c.2.1 c.2.2.1=some (i,b,j))  :
  ∃g' y6 y7 y8 y9 y10,QP [vR t,some v1,some v2,vR g0.length,x4,some (ctD c),x6,x7,x8,x9,x10] g=.nx [vR t,some v1,some v2,vR g0.length,x4,some (ctD c),y6,y7,y8,y9,y10] g'/\LRp g0 g' (QdW s c i b j)/\okL w n m (QdW s c i b j)/\(∀k,g0.length+3<k->k<g.length->g'[k]?=g[k]?)/\g.length<=g'.length:=by
 have e1:=QfB (g:=g) (DD:=JU g0.length) (us:=s.gs) f (hr.mono h.old (by simp)) ht okc hT h.d (λy=>ok.gl f y) (λy u hu=>ok.g y u hu);obtain⟨i',b',j',t1,t2,t3,t4,t5,t6⟩:=Qby ht okc (by rw[hT];exact λz=>by cases z);rw[hT]at t1;cases t1;have hx:∀c'∈((s.gs b).filter λu=>decide (u.dropLast=(ahd b c).tail)).map λu=>nxC i b j c u,okC w n m c':=λc' hc'=>by obtain⟨u,hu,rfl⟩:=US.mp hc';exact okc.nx f.w1 (ok.g b u (U3.mp hu).1) t3 t4 t5 t6
 generalize hxs:(((s.gs b).filter λu=>decide (u.dropLast=(ahd b c).tail)).map λu=>nxC i b j c u)=xs at e1 hx;have h1:=h.push (.lst (xs.map ctD));have hlt:=h.lt
 let σ6:S3:=[vR t,some v1,some v2,vR g0.length,x4,some (ctD c),some (.tup [.str (wS !b),gmD (bhd b c),.ref g.length]),some (.str (wS !b)),vM (bhd b c),vR g.length,x10]
 have e2:JZ (mOp2 Qs (mVar 3) (mVar 7)) (mVar 8) (mLit (.bl true)) σ6 (g++[GO.lst (xs.map ctD)])=.nx σ6 ((g++[GO.lst (xs.map ctD)]).set (JU g0.length (!b)) (YN (addU (s.gs (!b)) (bhd b c)))):=by rw[QjD (o:=mOp2 Qs (mVar 3) (mVar 7)) (k:=mVar 8) (Qi (x:=.ref g0.length) (y:=.str (wS !b)) rfl rfl (Qcc h1.f)) rfl (h1.d (!b)) (sk_g _) (by rw[Ud];exact ok.gl f _),Qp5];rfl
 have h2:=h1.setG (!b) (addU (s.gs (!b)) (bhd b c));have ok2:okL w n m ⟨updG s.gs (!b) (addU (s.gs (!b)) (bhd b c)),s.cs⟩:=by
  refine⟨λy u hu=>?_,λy=>?_,ok.c,ok.cn⟩
  ·have hu:u∈(if y=!b then addU (s.gs (!b)) (bhd b c) else s.gs y):=hu;split at hu
   ·exact QkQ (λv hv=>ok.g _ v hv) (okc.b b) u hu
   ·exact ok.g y u hu
  ·show(if y=!b then addU (s.gs (!b)) (bhd b c) else s.gs y).Nodup;split
   ·exact QcT (ok.gn _)
   ·exact ok.gn y
 have bd:=QdT g0.length (!b);obtain⟨σ',g',e3,⟨x,q1⟩,q2,q3,q4,q5⟩:=Qnf (σ:=σ6) (a:=g.length) f rfl (by show 10<11;decide) rfl xs hx _ h2 ok2 (by rw[Uh (by omega)];exact QC _) hlt;refine⟨g',some (.tup [.str (wS !b),gmD (bhd b c),.ref g.length]),some (.str (wS !b)),vM (bhd b c),vR g.length,x,?_,by unfold QdW;rw[hxs];exact q2,by unfold QdW;rw[hxs];exact q3,λk hk hk2=>by rw[q5 k hk,Uh (by omega),Ul hk2],by rw[q4,UK,Us];omega⟩;unfold QP;refine Qh [vR t,some v1,some v2,vR g0.length,x4,some (ctD c),some (.tup [.str (wS !b),gmD (bhd b c),.ref g.length]),x7,x8,x9,x10] (g++[.lst (xs.map ctD)]) (Qv ((Qw (ds:=[.ref t,ctD c,.ref (JU g0.length false),.ref (JU g0.length true)]) (Qf rfl (Qf rfl (Qf (o_l h rfl) (Qf (o_r h rfl) rfl))))).trans e1)) ?_;refine Qh _ _ (iff' _ (Qn (Qi (x:=.tup [.str (wS !b),gmD (bhd b c),.ref g.length]) (y:=.non) rfl rfl rfl)) rfl) ?_;refine Qh σ6 _ rfl ?_;refine Qh σ6 _ e2 ?_;rw[e3,q1];rfl
end L3
namespace L3
open PySem
structure Pre(s s':LSt):Prop where
 g:∀y,s.gs y <+: s'.gs y
 c:s.cs <+: s'.cs
theorem Pre.refl(s:LSt):Pre s s:=⟨λ_=>Wp _,Wp _⟩
theorem Pre.trans{a b c:LSt}(h:Pre a b)(k:Pre b c):Pre a c:=⟨λy=>(h.g y).trans (k.g y),h.c.trans k.c⟩
theorem Pre.mg(h:Pre s s')(hu:u∈s.gs y):u∈s'.gs y:=(h.g y).subset hu
theorem Pre.mc{s s':LSt}(h:Pre s s'){c:Ct}(hc:c∈s.cs):c∈s'.cs:=h.c.subset hc
theorem Pre.tot(h:Pre s s'):tot s<=tot s':=by have a:=(h.g false).length_le;have b:=(h.g true).length_le;have c:=h.c.length_le;unfold L3.tot;omega
theorem Pre.eq(h:Pre s s')(e:L3.tot s'<=L3.tot s):(∀y,s'.gs y=s.gs y)/\s'.cs=s.cs:=by
 have a:=(h.g false).length_le;have b:=(h.g true).length_le;have c:=h.c.length_le;unfold L3.tot at e;refine⟨λy=>?_,(h.c.eq_of_length (by omega)).symm⟩;cases y
 ·exact((h.g false).eq_of_length (by omega)).symm
 ·exact((h.g true).eq_of_length (by omega)).symm
theorem QeL(s:LSt)(c:Ct)(i:Int)(b:Bool)(j:Int):Pre s (QdW s c i b j):=by
 refine⟨λy=>?_,QeK _ _⟩;show s.gs y <+: (if y=!b then addU (s.gs (!b)) (bhd b c) else s.gs y);split
 ·next e=>rw[e];exact addU_pre
 ·exact Wp _
theorem QjF(h:Snd T b0 s.gs s.cs)(hc:c∈s.cs)(hT:T c.2.1 c.2.2.1=some (i,b,j)):Snd T b0 (QdW s c i b j).gs (QdW s c i b j).cs:=λGp Cp cl=>by
 obtain⟨h1,h2⟩:=h Gp Cp cl;refine⟨λy u hu=>?_,λx hx=>?_⟩
 ·have hu:u∈(if y=!b then addU (s.gs (!b)) (bhd b c) else s.gs y):=hu;split at hu
  ·next e=>
   rcases addU_mem.mp hu with z|z
   ·rw[e];exact h1 _ u z
   ·rw[e,z];exact cl.bh c i b j (h2 c hc) hT
  ·exact h1 y u hu
 ·rcases(Qcd _ _ _).mp hx with z|z
  ·exact h2 x z
  ·obtain⟨u,hu,rfl⟩:=US.mp z;obtain⟨m1,m2⟩:=U3.mp hu;exact cl.nx c i b j u (h2 c hc) hT (h1 b u m1) (UA m2)
def Has(T:TT3)(s0 s:LSt)(c:Ct):Prop:=∃i b j,T c.2.1 c.2.2.1=some (i,b,j)/\bhd b c∈s.gs (!b)/\∀u∈s0.gs b,u.dropLast=(ahd b c).tail->nxC i b j c u∈s.cs
theorem Has.mono{s0 s s':LSt}{c:Ct}(h:Has T s0 s c)(p:Pre s s'):Has T s0 s' c:=by obtain⟨i,b,j,h1,h2,h3⟩:=h;exact⟨i,b,j,h1,p.mg h2,λu hu e=>p.mc (h3 u hu e)⟩
theorem QjG(p:Pre s0 s)(hT:T c.2.1 c.2.2.1=some (i,b,j)):Has T s0 (QdW s c i b j) c:=by refine⟨i,b,j,hT,?_,λu hu e=>(Qcd _ _ _).mpr (.inr (US.mpr ⟨u,U3.mpr ⟨p.mg hu,Uq e⟩,rfl⟩))⟩;show bhd b c∈(if (!b)=!b then addU (s.gs (!b)) (bhd b c) else s.gs (!b));rw[Ue rfl];exact addU_mem.mpr (.inr rfl)
theorem QkR(f:Few w n m)(hr:tabOf N g0 t rows)(ht:Tb rows n m){s0:LSt}(h:LRp g0 g s0)(ok:okL w n m s0)(sn:Snd (TR rows) b0 s0.gs s0.cs){v1 v2:D}{x4 x5 x6 x7 x8 x9 x10:Option D} :
  (∃g',QZ [vR t,some v1,some v2,vR g0.length,x4,x5,x6,x7,x8,x9,x10] g=.rt .non g'/\Keeps [] g0 g'/\∃s,okL w n m s/\Snd (TR rows) b0 s.gs s.cs/\∃c∈s.cs,TR rows c.2.1 c.2.2.1=none)\/(∃g' s y5 y6 y7 y8 y9 y10,QZ [vR t,some v1,some v2,vR g0.length,x4,x5,x6,x7,x8,x9,x10] g=.nx [vR t,some v1,some v2,vR g0.length,vI (tot s0),y5,y6,y7,y8,y9,y10] g'/\LRp g0 g' s/\okL w n m s/\Snd (TR rows) b0 s.gs s.cs/\Pre s0 s/\∀c∈s0.cs,Has (TR rows) s0 s c):=by
 let σ4:S3:=[vR t,some v1,some v2,vR g0.length,vI (tot s0),x5,x6,x7,x8,x9,x10]
 have e1:mAsg (gSet 4) (mOp2 pAdd (mOp2 pAdd (mOp1 Zn (mOp2 Qs (mVar 3) (mLit (.str "l")))) (mOp1 Zn (mOp2 Qs (mVar 3) (mLit (.str "r"))))) (mOp1 Zn (mOp2 Qs (mVar 3) (mLit (.str "c"))))) [vR t,some v1,some v2,vR g0.length,x4,x5,x6,x7,x8,x9,x10] g=.nx σ4 g:=Qv (QlR h ok f rfl);have e2:=QdV (σ:=σ4) (o_c h rfl) h.c (by rw[Ud];exact ok.cl f);rw[Rr]at e2;have e2:mOp1 Ya (mOp2 Qs (mVar 3) (mLit (.str "c"))) σ4 g=.ok (.ref g.length) (g++[.lst (s0.cs.map ctD)]):=e2;have hlt:=h.lt;have key:=Qhf (t:=gSet 5) (body:=QP) (σ:=σ4) e2 (QC _) (λk σ' g'=>∃s y5 y6 y7 y8 y9 y10,σ'=[vR t,some v1,some v2,vR g0.length,vI (tot s0),y5,y6,y7,y8,y9,y10]/\LRp g0 g' s/\okL w n m s/\Snd (TR rows) b0 s.gs s.cs/\Pre s0 s/\(∀c∈s0.cs.take k,Has (TR rows) s0 s c)/\g'[g.length]?=some (.lst (s0.cs.map ctD)))
  (λo=>∃g',o=.rt .non g'/\Keeps [] g0 g'/\∃s,okL w n m s/\Snd (TR rows) b0 s.gs s.cs/\∃c∈s.cs,TR rows c.2.1 c.2.2.1=none)
  ⟨s0,x5,x6,x7,x8,x9,x10,rfl,h.push _,ok,sn,.refl _,λc hc=>(by simp at hc),QC _⟩ (λk σ' g' hh=>by obtain⟨s,y5,y6,y7,y8,y9,y10,_,_,_,_,_,_,q⟩:=hh;exact q) (λk d σ' g' hd hh=>by
   obtain⟨s,y5,y6,y7,y8,y9,y10,q1,q2,q3,q4,q5,q6,q7⟩:=hh;subst q1;rw[UJ]at hd;obtain⟨c,hc,rfl⟩:=UW.mp hd;have hcs:c∈s.cs:=q5.mc (Td hc);have okc:=q3.c c hcs;refine⟨_,rfl,?_⟩;show(∃σ2 g2,QP [vR t,some v1,some v2,vR g0.length,vI (tot s0),some (ctD c),y6,y7,y8,y9,y10] g'=.nx σ2 g2/\_)\/(Qfp (QP [vR t,some v1,some v2,vR g0.length,vI (tot s0),some (ctD c),y6,y7,y8,y9,y10] g')/\_);cases hT:TR rows c.2.1 c.2.2.1 with
   |none=>
    have e3:QP [vR t,some v1,some v2,vR g0.length,vI (tot s0),some (ctD c),y6,y7,y8,y9,y10] g'=.rt .non g':=by unfold QP;refine Qh [vR t,some v1,some v2,vR g0.length,vI (tot s0),some (ctD c),some .non,y7,y8,y9,y10] g' (Qv ((Qw (ds:=[.ref t,ctD c,.ref (JU g0.length false),.ref (JU g0.length true)]) (Qf rfl (Qf rfl (Qf (o_l q2 rfl) (Qf (o_r q2 rfl) rfl))))).trans (QfA (hr.mono q2.old (by simp)) ht okc hT))) ?_;exact YY (ift _ (Qn (Qi (x:=.non) (y:=.non) rfl rfl rfl)) rfl)
    exact .inr ⟨by rw[e3];trivial,g',e3,q2.old,s,q3,q4,c,hcs,hT⟩
   |some e=>
    obtain⟨i,b,j⟩:=e;obtain⟨g2,z6,z7,z8,z9,z10,a1,a2,a3,a4,a5⟩:=QjE f hr ht q2 q3 okc hT (x4:=vI (tot s0)) (x6:=y6) (x7:=y7) (x8:=y8) (x9:=y9) (x10:=y10) (v1:=v1) (v2:=v2);refine .inl ⟨_,g2,a1,QdW s c i b j,some (ctD c),z6,z7,z8,z9,z10,rfl,a2,a3,QjF q4 hcs hT,q5.trans (QeL ..),λc' hc'=>?_,by rw[a4 _ hlt (QE q7)];exact q7⟩;rw[Y1 hc]at hc';rcases Uu.mp hc' with z|z
    ·exact(q6 c' z).mono (QeL ..)
    ·rw[Uj.mp z];exact QjG q5 hT)
 have st:∀{o:Out},mFor (QR (mOp1 Ya (mOp2 Qs (mVar 3) (mLit (.str "c"))))) (gSet 5) QP σ4 g=o->QZ [vR t,some v1,some v2,vR g0.length,x4,x5,x6,x7,x8,x9,x10] g=o:=λ{o} ho=>by unfold QZ;exact Qh σ4 g e1 ho
 rcases key with⟨σ',g',e3,s,y5,y6,y7,y8,y9,y10,q1,q2,q3,q4,q5,q6,q7⟩|⟨_,g',e3,q⟩
 ·subst q1;rw[Ud,Rw]at q6;exact .inr ⟨g',s,y5,y6,y7,y8,y9,y10,st e3,q2,q3,q4,q5,q6⟩
 ·exact .inl ⟨g',st e3,q⟩
def Fin'(T:TT3)(b0:List Int)(s:LSt):Prop:=Cl T b0 (λy u=>u∈s.gs y) (λc=>c∈s.cs)/\∀c∈s.cs,T c.2.1 c.2.2.1≠none
theorem Qo9{s0 s:LSt}(p:Pre s0 s)(h:∀c∈s0.cs,Has T s0 s c)(hb:∀y,b0∈s0.gs y)(hc:(b0,0,0,b0)∈s0.cs)(e:tot s<=tot s0):Fin' T b0 s:=by
 obtain⟨e1,e2⟩:=p.eq e;refine⟨⟨λy=>p.mg (hb y),p.mc hc,λc i bb j hc hT=>?_,λc i bb j u hc hT hu he=>?_⟩,λc hc=>?_⟩
 ·rw[e2]at hc;obtain⟨i',b',j',h1,h2,_⟩:=h c hc;rw[hT]at h1;cases h1;exact h2
 ·rw[e2]at hc;obtain⟨i',b',j',h1,_,h3⟩:=h c hc;rw[hT]at h1;cases h1;rw[e1]at hu;exact h3 u hu he
 ·rw[e2]at hc;obtain⟨i',b',j',h1,_⟩:=h c hc;rw[h1];exact λz=>by cases z
end L3
namespace L3
open PySem
theorem QgA(ha:∀g,a σ g=.ok [dk,.bl true] g)(hk:skOf τ dk=some k):Js τ a σ g=.ok (.ref g.length) (g++[.dcn τ [(k,.bl true)]]):=by unfold Js;rw[ha,Res.bind_ok];unfold Qkv;rw[QC];dsimp only;rw[hk];dsimp only;rw[QkD]
theorem QkS(h2:σ[2]?=some (vM b)):J0 (Qa (mLit (.str "l")) (Qa (Js false (Qa (mVar 2) (Qa (mLit (.bl true)) mNil))) (Qa (mLit (.str "r")) (Qa (Js false (Qa (mVar 2) (Qa (mLit (.bl true)) mNil))) (Qa (mLit (.str "c")) (Qa (Js true (Qa (mOpA pTup (Qa (mVar 2) (Qa (mI 0) (Qa (mI 0) (Qa (mVar 2) mNil))))) (Qa (mLit (.bl true)) mNil))) mNil)))))) σ g =
  .ok (.ref g.length) (g++[.dct (QeJ g.length),YN [b],YN [b],QdS [(b,0,0,b)]]):=by
 have o1:∀l:G,Js false (Qa (mVar 2) (Qa (mLit (.bl true)) mNil)) σ (g++l)=.ok (.ref (g.length+l.length)) (g++(l++[YN [b]])):=λl=>by rw[QgA (dk:=gmD b) (k:=.inl b) (λg=>Qf (Q7 h2) rfl) (sk_g b)];simp[YN]
 have o2:∀l:G,Js true (Qa (mOpA pTup (Qa (mVar 2) (Qa (mI 0) (Qa (mI 0) (Qa (mVar 2) mNil))))) (Qa (mLit (.bl true)) mNil)) σ (g++l)=.ok (.ref (g.length+l.length)) (g++(l++[QdS [(b,0,0,b)]])):=λl=>by rw[QgA (dk:=ctD (b,0,0,b)) (k:=.inr (b,0,0,b)) (λg=>Qf (by simp[h2,ctD]) rfl) (sk_c _)];simp[QdS]
 have lc:∀g:G,mLit (.str "c") σ g=.ok (.str cS) g:=λg=>by rw[s_c];rfl
 unfold J0;rw[Qf Qhe (Qf (o1 [.dct []]) (Qf Qfw (Qf (o1 [.dct [],YN [b]]) (Qf (lc _) (Qf (o2 [.dct [],YN [b],YN [b]]) rfl))))),Res.bind_ok];show Qfi g.length [.str (wS false),.ref (g.length+1),.str (wS true),.ref (g.length+2),.str cS,.ref (g.length+3)] (g++.dct []::[YN [b],YN [b],QdS [(b,0,0,b)]])=_;unfold Qfi;have e:QbY [D.str (wS false),.ref (g.length+1),.str (wS true),.ref (g.length+2),.str cS,.ref (g.length+3)]=some [(wS false,.ref (g.length+1)),(wS true,.ref (g.length+2)),(cS,.ref (g.length+3))]:=rfl;rw[e,get0];show(if [(wS false,D.ref (g.length+1)),(wS true,.ref (g.length+2)),(cS,.ref (g.length+3))].length<=15 then _ else _)=_;rw[Ue (by show 3<=15;decide),set0];rfl
theorem QkT(h:cs≠[]):YC false (cs.map ctD)=none:=by
 cases cs with
 |nil=>exact absurd rfl h|cons c cs =>rw[UO];unfold YC;rw[show skOf false (ctD c)=none from rfl]
theorem QcU(ho:o σ g=.ok (.ref r) g)(hg:g[r]?=some (YN us))(hz:us.length<=900)(hn:us.Nodup)(ok:∀u∈us,okG w m u)(hw:1<=w):mOp1 Q5 (mOp1 Ya o) σ g=.ok (.ref (g.length+1)) (g++[.lst (us.map gmD),srt (us.map .inl)]):=by have e1:=QdV ho hg (by rw[Ud];exact hz);rw[Rr]at e1;have e1:mOp1 Ya o σ g=.ok (.ref g.length) (g++[.lst (us.map gmD)]):=e1;refine Ze e1 ?_;unfold Q5;dsimp only;rw[QC];dsimp only;rw[QdH];dsimp only;rw[QdQ (by rw[Ud];exact hz) (Y2 hn) λk hk=>by obtain⟨u,hu,rfl⟩:=US.mp hk;exact Qo7 hw (ok u hu)];simp
theorem Qhg(ho:o σ g=.ok (.ref r) g)(hg:g[r]?=some (QdS cs))(hz:cs.length<=900)(hn:cs.Nodup)(h0:cs≠[]):mOp1 Q5 (mOp1 Ya o) σ g=.ok (.ref (g.length+1)) (g++[.lst (cs.map ctD),srt (cs.map .inr)]):=by have e1:=QdV ho hg (by rw[Ud];exact hz);rw[Rr]at e1;have e1:mOp1 Ya o σ g=.ok (.ref g.length) (g++[.lst (cs.map ctD)]):=e1;refine Ze e1 ?_;unfold Q5;dsimp only;rw[QC];dsimp only;rw[QkT h0];dsimp only;rw[Qji];dsimp only;rw[QdQ (by rw[Ud];exact hz) (QaE hn) λk hk=>by obtain⟨u,hu,rfl⟩:=US.mp hk;rfl];simp
abbrev QkU:MT:=Qco (Qj (mOp2 pLt (mVar 4) (mOp2 pAdd (mOp2 pAdd (mOp1 Zn (mOp2 Qs (mVar 3) (mLit (.str "l")))) (mOp1 Zn (mOp2 Qs (mVar 3) (mLit (.str "r"))))) (mOp1 Zn (mOp2 Qs (mVar 3) (mLit (.str "c"))))))) (Qj (mOp2 pLt (mOp1 Zn (mOp2 Qs (mVar 3) (mLit (.str "c")))) (mI 62)))
theorem Qpa(ok:okL w n m s)(f:Few w n m):tot s<=2700:=by have a:=ok.gl f false;have b:=ok.gl f true;have c:=ok.cl f;unfold tot;omega
theorem QcV(f:Few w n m)(hr:tabOf N g0 t rows)(ht:Tb rows n m):∀(fuel:Nat)(g:G)(s:LSt)(size:Nat)(x5 x6 x7 x8 x9 x10:Option D),LRp g0 g s->okL w n m s->Snd (TR rows) (blG w) s.gs s.cs->(∀y,blG w∈s.gs y)->c00 w∈s.cs->(size<tot s\/Fin' (TR rows) (blG w) s)->size<=2700->2700-size<fuel->(∃g',ZB QkU QZ fuel [vR t,some v1,some v2,vR g0.length,vI size,x5,x6,x7,x8,x9,x10] g=.rt .non g'/\Keeps [] g0 g'/\∃s,okL w n m s/\Snd (TR rows) (blG w) s.gs s.cs/\∃c∈s.cs,TR rows c.2.1 c.2.2.1=none)\/(∃g' s' y4 y5 y6 y7 y8 y9 y10,ZB QkU QZ fuel [vR t,some v1,some v2,vR g0.length,vI size,x5,x6,x7,x8,x9,x10] g=.nx [vR t,some v1,some v2,vR g0.length,y4,y5,y6,y7,y8,y9,y10] g'/\LRp g0 g' s'/\okL w n m s'/\Snd (TR rows) (blG w) s'.gs s'.cs/\c00 w∈s'.cs/\(Fin' (TR rows) (blG w) s'\/62<=s'.cs.length))
 |0,_,_,_,_,_,_,_,_,_,_,_,_,_,_,_,_,h=>by omega
 |fuel+1,g,s,size,x5,x6,x7,x8,x9,x10,h,ok,sn,hb,hc,hs,hz,hf=>by
  unfold ZB;have e1:Qj (mOp2 pLt (mVar 4) (mOp2 pAdd (mOp2 pAdd (mOp1 Zn (mOp2 Qs (mVar 3) (mLit (.str "l")))) (mOp1 Zn (mOp2 Qs (mVar 3) (mLit (.str "r"))))) (mOp1 Zn (mOp2 Qs (mVar 3) (mLit (.str "c")))))) [vR t,some v1,some v2,vR g0.length,vI size,x5,x6,x7,x8,x9,x10] g=.ok (decide (size<tot s)) g:=by refine Qn (Qi (x:=.int size) (y:=.int (tot s)) rfl (QlR h ok f rfl) ?_);rw[QkE];congr 2;exact TM.mpr Int.ofNat_lt
  have e2:Qj (mOp2 pLt (mOp1 Zn (mOp2 Qs (mVar 3) (mLit (.str "c")))) (mI 62)) [vR t,some v1,some v2,vR g0.length,vI size,x5,x6,x7,x8,x9,x10] g=.ok (decide (s.cs.length<62)) g:=by refine Qn (Qi (y:=.int 62) (QdU (o_c h rfl) h.c (by rw[Ud];exact ok.cl f)) rfl ?_);rw[QkE,Ud];congr 2;exact TM.mpr (by omega)
  have e3:QkU [vR t,some v1,some v2,vR g0.length,vI size,x5,x6,x7,x8,x9,x10] g=.ok (decide (size<tot s)&&decide (s.cs.length<62)) g:=by
   show Qco _ _ _ _=_;rw[Qm4,e1];dsimp only;cases decide (size<tot s)
   ·rfl
   ·rw[Ue rfl,e2];simp
  rw[e3];by_cases h1:size<tot s
  ·by_cases h2:s.cs.length<62
   ·rw[Uq h1,Uq h2,Bool.and_self];dsimp only;rcases QkR f hr ht h ok sn (v1:=v1) (v2:=v2) (x4:=vI size) (x5:=x5) (x6:=x6) (x7:=x7) (x8:=x8) (x9:=x9) (x10:=x10) with⟨g',r1,r2⟩|⟨g',s',y5,y6,y7,y8,y9,y10,r1,r2,r3,r4,r5,r6⟩
    ·rw[r1];exact .inl ⟨g',rfl,r2⟩
    ·rw[r1];have:=Qpa ok f;exact QcV f hr ht fuel g' s' (tot s) y5 y6 y7 y8 y9 y10 r2 r3 r4 (λy=>r5.mg (hb y)) (r5.mc hc) (by
      by_cases z:tot s<tot s'
      ·exact .inl z
      ·exact .inr (Qo9 r5 r6 hb hc (by omega))) this (by omega)
   ·rw[Uq h1,UC h2];exact .inr ⟨g,s,_,_,_,_,_,_,_,rfl,h,ok,sn,hc,.inr (by omega)⟩
  ·rw[UC h1];exact .inr ⟨g,s,_,_,_,_,_,_,_,rfl,h,ok,sn,hc,.inl (hs.resolve_left h1)⟩
theorem QkV(f:Few w n m)(hr:tabOf N g0 t rows)(ht:Tb rows n m):∃g',Keeps [] g0 g'/\((Ju [.ref t,.int w] g0=.ok .non g'/\∃s,okL w n m s/\Snd (TR rows) (blG w) s.gs s.cs/\∃c∈s.cs,TR rows c.2.1 c.2.2.1=none)\/(∃s a b c,Ju [.ref t,.int w] g0=.ok (.tup [.str "wall",.int w,.ref a,.ref b,.ref c]) g'/\okL w n m s/\Snd (TR rows) (blG w) s.gs s.cs/\(Fin' (TR rows) (blG w) s\/62<=s.cs.length)/\g'[a]?=some (srt ((s.gs false).map .inl))/\g'[b]?=some (srt ((s.gs true).map .inl))/\g'[c]?=some (srt (s.cs.map .inr))/\g0.length<=a/\g0.length<=b/\g0.length<=c)):=by
  let g1:G:=g0++[.dct (QeJ g0.length),YN [blG w],YN [blG w],QdS [c00 w]]
  let s0:LSt:=⟨λ_=>[blG w],[c00 w]⟩
  have h0:LRp g0 g1 s0:=⟨⟨by show _<=(g0++_).length;simp,λk o _ e=>by rw[Ul (QE e)];exact e⟩,get0,λy=>by cases y;exact getx (i:=1) rfl;exact getx (i:=2) rfl,getx (i:=3) rfl⟩;have ok0:okL w n m s0:=⟨λy u hu=>(by rw[Uj.mp (show u∈[blG w] from hu)];exact QeG (by have:=f.m2;omega)),λy=>(by show [blG w].Nodup;simp),λc hc=>(by rw[Uj.mp (show c∈[c00 w] from hc)];exact QlM f),(by show [c00 w].Nodup;simp)⟩;have sn0:Snd (TR rows) (blG w) s0.gs s0.cs:=λGp Cp cl=>⟨λy u hu=>(by rw[Uj.mp (show u∈[blG w] from hu)];exact cl.g0 y),λc hc=>(by rw[Uj.mp (show c∈[c00 w] from hc)];exact cl.c0)⟩
  let σ4:S3:=[vR t,vI w,vM (blG w),vR g0.length,vI (0:Nat),none,none,none,none,none,none]
  have st:∀{o:Out},mSeq (QbK QkU QZ) (mRet (mOpA pTup (Qa (mLit (.str "wall")) (Qa (mVar 1) (Qa (mOp1 Q5 (mOp1 Ya (mOp2 Qs (mVar 3) (mLit (.str "l"))))) (Qa (mOp1 Q5 (mOp1 Ya (mOp2 Qs (mVar 3) (mLit (.str "r"))))) (Qa (mOp1 Q5 (mOp1 Ya (mOp2 Qs (mVar 3) (mLit (.str "c"))))) mNil))))))) σ4 g1=o->Qb2 [vR t,vI w,none,none,none,none,none,none,none,none,none] g0=o:=λ{o} ho=>by unfold Qb2;refine Qh [vR t,vI w,vM (blG w),none,none,none,none,none,none,none,none] g0 (Qv (Qi (x:=.tup [.int 0]) (y:=.int w) (by simp) rfl (Qjy _ f.w1 (Uk f.w3 (by decide))))) ?_;refine Qh [vR t,vI w,vM (blG w),vR g0.length,none,none,none,none,none,none,none] g1 (Qv (QkS (b:=blG w) rfl)) ?_;exact Qh σ4 g1 rfl ho
  rcases QcV f hr ht (v1:=.int w) (v2:=gmD (blG w)) 3000 g1 s0 0 none none none none none none h0 ok0 sn0 (λ_=>Uj.mpr rfl) (Uj.mpr rfl) (.inl (by show 0<1+1+1;decide)) (by decide) (by decide) with⟨g',r1,r2,r3⟩|⟨g',s,y4,y5,y6,y7,y8,y9,y10,r1,r2,r3,r4,r5,r6⟩
  · exact⟨g',r2,.inl ⟨QT rfl (st (YY (QbB r1 (λz=>by cases z)))),r3⟩⟩
  · let σ':S3:=[vR t,vI w,vM (blG w),vR g0.length,y4,y5,y6,y7,y8,y9,y10]
    have e1:=QcU (σ:=σ') (o_l r2 rfl) (r2.d false) (r3.gl f false) (r3.gn false) (r3.g false) f.w1;have h1:LRp g0 (g'++[.lst ((s.gs false).map gmD),srt ((s.gs false).map .inl)]) s:=by have:=(r2.push (.lst ((s.gs false).map gmD))).push (srt ((s.gs false).map .inl));rw[Ut]at this;exact this
    have e2:=QcU (σ:=σ') (o_r h1 rfl) (h1.d true) (r3.gl f true) (r3.gn true) (r3.g true) f.w1;have h2:LRp g0 (g'++[.lst ((s.gs false).map gmD),srt ((s.gs false).map .inl)]++[.lst ((s.gs true).map gmD),srt ((s.gs true).map .inl)]) s:=by have:=(h1.push (.lst ((s.gs true).map gmD))).push (srt ((s.gs true).map .inl));rw[Ut]at this;exact this
    have e3:=Qhg (σ:=σ') (o_c h2 rfl) h2.c (r3.cl f) r3.cn (λz=>by rw[z]at r5;cases r5);have hlt:=r2.lt;have ll:∀l:G,(g'++l).length=g'.length+l.length:=λl=>by simp
    refine⟨_,(h2.push (.lst (s.cs.map ctD))).push (srt (s.cs.map .inr)) |>.old,.inr ⟨s,g'.length+1,g'.length+3,g'.length+5,QT rfl (st (Qh σ' g' (QbB r1 (λz=>by cases z)) (Q6 ?_))),r3,r4,r6,?_,?_,?_,by omega,by omega,by omega⟩⟩
    · have:=Qf (x:=.str "wall") (σ:=σ') (a:=mLit (.str "wall")) (g:=g') (g1:=g') rfl (Qf (x:=.int w) (a:=mVar 1) (g1:=g') rfl (Qf e1 (Qf e2 (Qf e3 (show mNil _ _=.ok [] _ from rfl)))));rw[QaC,this];dsimp only;rw[QcQ _ _ (by show 5<=100;decide)];simp only[ll,Ut];rfl
    · rw[Ut,Ut,Ut];exact getx (i:=1) rfl
    · rw[Ut,Ut,Ut];exact getx (i:=3) rfl
    · rw[Ut,Ut,Ut];exact getx (i:=5) rfl
end L3
namespace L3
open PySem
section
variable{rows:List (List D)}{g0 g g':G}{w n m:Nat}{d:D}{most:Int}
abbrev ZZ(w:Nat)(a b c:Nat):D:=.tup [.str "wall",.int w,.ref a,.ref b,.ref c]
theorem Qhh{s:LSt}(sn:Snd (TR rows) (blG w) s.gs s.cs){c:Ct}(hc:c∈s.cs)(hT:TR rows c.2.1 c.2.2.1=none)(h:Told rows w n m g0 g' d most):d=.non:=by
 rcases h with⟨h,_⟩|⟨s',ok',sn',cl',nn,_⟩
 ·exact h
 ·exact absurd hT (nn c ((sn _ _ cl').2 c hc))
theorem QcW(ok:okL w n m s)(sn:Snd (TR rows) (blG w) s.gs s.cs)(hm:most<s.cs.length)(h:Told rows w n m g0 g' d most):d=.non:=by
 rcases h with⟨h,_⟩|⟨s',ok',sn',cl',nn,hl,_⟩
 ·exact h
 ·have:=YG ok.cn λc hc=>(sn _ _ cl').2 c hc;omega
theorem QcX(ok:okL w n m s)(sn:Snd (TR rows) (blG w) s.gs s.cs)(fi:Fin' (TR rows) (blG w) s)(hm:(s.cs.length:Int)<=most)(h:Told rows w n m g0 g' d most):
  ∃a b c,d=ZZ w a b c/\g'[a]?=some (srt ((s.gs false).map .inl))/\g'[b]?=some (srt ((s.gs true).map .inl))/\g'[c]?=some (srt (s.cs.map .inr))/\g0.length<=a/\g0.length<=b/\g0.length<=c/\a≠b/\a≠c/\b≠c:=by
 rcases h with⟨_,s',ok',sn',h|⟨c,hc,hT⟩⟩|⟨s',ok',sn',cl',nn,hl,a,b,c,h1,h2,h3,h4,h5⟩
 ·have:=YG ok'.cn λc hc=>(sn' _ _ fi.1).2 c hc;omega
 ·exact absurd hT (fi.2 c ((sn' _ _ fi.1).2 c hc))
 ·have eg:∀y,srt ((s'.gs y).map .inl)=srt ((s.gs y).map .inl):=λy=>by unfold srt;rw[QdP (Y2 (ok'.gn y)) (Y2 (ok.gn y)) λx=>by simp only[US];exact⟨λ⟨u,q1,q2⟩=>⟨u,(sn' _ _ fi.1).1 y u q1,q2⟩,λ⟨u,q1,q2⟩=>⟨u,(sn _ _ cl').1 y u q1,q2⟩⟩]
  have ec:srt (s'.cs.map .inr)=srt (s.cs.map .inr):=by unfold srt;rw[QdP (QaE ok'.cn) (QaE ok.cn) λx=>by simp only[US];exact⟨λ⟨u,q1,q2⟩=>⟨u,(sn' _ _ fi.1).2 u q1,q2⟩,λ⟨u,q1,q2⟩=>⟨u,(sn _ _ cl').2 u q1,q2⟩⟩]
  rw[eg false]at h2;rw[eg true]at h3;rw[ec]at h4;exact⟨a,b,c,h1,h2,h3,h4,h5⟩
inductive Shut(rows:List (List D))(w n m:Nat)(g:G)(N:Nat):D->Option LSt->Prop
 |none {s:LSt} {c:Ct}:Snd (TR rows) (blG w) s.gs s.cs->c∈s.cs->TR rows c.2.1 c.2.2.1=Option.none->Shut rows w n m g N .non Option.none
 |some {s:LSt} {a b c:Nat}:okL w n m s->Snd (TR rows) (blG w) s.gs s.cs->(Fin' (TR rows) (blG w) s\/62<=s.cs.length)->g[a]?=some (srt ((s.gs false).map .inl))->g[b]?=some (srt ((s.gs true).map .inl))->g[c]?=some (srt (s.cs.map .inr))->a<N->b<N->c<N->Shut rows w n m g N (ZZ w a b c) (Option.some s)
theorem Shut.mono(h:Shut rows w n m g N d o)(k:∀i,i<N->g'[i]?=g[i]?)(hN:N<=N'):Shut rows w n m g' N' d o:=by
 cases h with
 |none a b c=>exact .none a b c|some a1 a2 a3 a4 a5 a6 a7 a8 a9=>exact .some a1 a2 a3 (by rw[k _ a7];exact a4) (by rw[k _ a8];exact a5) (by rw[k _ a9];exact a6) (by omega) (by omega) (by omega)
theorem Qa1(ks:List SKd):((sortK ks).map kD).length=ks.length:=by rw[Ud,(sortK_perm ks).length_eq]
theorem sm_g(g:G)(hz:u.length<=100)(f:Nat):Sm g (f+2) (gmD u) (gmD u):=Qm6 g f (by omega)
theorem sm_c(g:G)(ok:okC w n m c)(hw:w<=100):Sm g 4 (ctD c) (ctD c):=by
 refine QlD (by show 4<=100000;decide) λu hu=>?_;simp only[UG,List.not_mem_nil,or_false]at hu;rcases hu with rfl|rfl|rfl|rfl
 ·exact sm_g g (by rw[ok.1.1];exact hw) 1
 ·exact .int _ _
 ·exact .int _ _
 ·exact sm_g g (by rw[ok.2.2.2.1];exact hw) 1
theorem sm_l(ha:g[a]?=some (srt ks))(hb:g[b]?=some (srt ks))(hz:ks.length<=900)(h:∀k∈ks,Sm g 4 (kD k) (kD k)):Sm g 5 (.ref a) (.ref b):=by refine .seq 4 _ _ true _ _ (Qjd ha) (Qjd hb) rfl (by rw[Qa1];omega) λi u v hu hv=>?_;rw[hu]at hv;cases hv;obtain⟨k,hk,rfl⟩:=US.mp (Td hu);exact h k ((sortK_perm ks).mem_iff.mp hk)
theorem QjH(ok:okL w n m s)(f:Few w n m)(h1:g[a]?=some (srt ((s.gs false).map .inl)))(h2:g[b]?=some (srt ((s.gs true).map .inl)))(h3:g[c]?=some (srt (s.cs.map .inr)))(k1:g[a']?=some (srt ((s.gs false).map .inl)))(k2:g[b']?=some (srt ((s.gs true).map .inl)))(k3:g[c']?=some (srt (s.cs.map .inr))):Sm g 6 (ZZ w a b c) (ZZ w a' b' c'):=by
 have hw:w<=100:=Uk f.w3 (by decide);have gg:∀y,∀k∈((s.gs y).map Sum.inl:List SKd),Sm g 4 (kD k) (kD k):=λy k hk=>by obtain⟨u,hu,rfl⟩:=US.mp hk;exact sm_g g (by rw[(ok.g y u hu).1];exact hw) 2
 refine .seq 5 _ _ false _ _ rfl rfl rfl (by show 5<=100000;decide) λi u v hu hv=>?_
 match i,hu,hv with
 |0,hu,hv=>cases hu;cases hv;exact .str _ _|1,hu,hv=>cases hu;cases hv;exact .int _ _|2,hu,hv=>cases hu;cases hv;exact sm_l h1 k1 (by rw[Ud];exact ok.gl f _) (gg false)|3,hu,hv=>cases hu;cases hv;exact sm_l h2 k2 (by rw[Ud];exact ok.gl f _) (gg true)|4,hu,hv =>cases hu;cases hv;exact sm_l h3 k3 (by rw[Ud];exact ok.cl f) λk hk=>by obtain⟨u,hu,rfl⟩:=US.mp hk;exact sm_c g (ok.c u hu) hw
 |_+5,hu,_=>cases hu
theorem ix4(g:G):pIx (ZZ w a b c) (.int 4) g=.ok (.ref c) g:=ix_tup (n:=4) rfl
theorem QjI{s:LSt}{σ:S3}{i j a b c:Nat}{most:Int}(hv:σ[i]?=some (some (ZZ w a b c)))(h3:g[c]?=some (srt (s.cs.map .inr))){e:ME}(he:e σ g=.ok (.int most) g):Qj (mOp2 pGt (mOp1 pLen (mOp2 pIx (mVar i) (mI 4))) e) σ g=.ok (decide (most<s.cs.length)) g:=by refine Qn (Qi (x:=.int s.cs.length) (y:=.int most) (Ze (Qi (Q7 hv) rfl (ix4 g)) ?_) he Qm5);rw[Qjg h3,Qa1,Ud]
theorem QjJ{M:Nat}{shut:D}{o:Option LSt}(hM:g[M]?=some (Qac rows))(ht:Tb rows n m)(f:Few w n m)(hsh:Shut rows w n m g g.length shut o)(hmo:most<=60):∃g',JO [.ref M,.int w,.int most,shut] g=.ok (.bl true) g'/\Keeps [] g g':=by
 obtain⟨d,g1,e1,k1,told⟩:=Qfz hM ht f most;have kk:∀i,i<g.length->g1[i]?=g[i]?:=λi hi=>by
  have:g[i]?=some g[i]:=by simp[hi]
  rw[this];exact k1.at' i _ (by simp) this
 have hs1:=hsh.mono (g':=g1) (N':=g1.length) kk k1.len;have st:∀{g2:G}{r:Bool},mSeq (mIf (mOrT (Qj (mOp2 pIs (mVar 3) (mLit .non))) (Qj (mOp2 pGt (mOp1 pLen (mOp2 pIx (mVar 3) (mI 4))) (mVar 2)))) (mRet (mOp2 pIs (mVar 4) (mLit .non))) QV) (mRet (Qr (Zv 6) (Qa (mVar 4) (Qa (mVar 3) mNil)))) [vR M,vI w,vI most,some shut,some d] g1=.rt (.bl r) g2->JO [.ref M,.int w,.int most,shut] g=.ok (.bl r) g2:=λ{g2 r} ho=>by refine QT rfl ?_;show QdE [vR M,vI w,vI most,some shut,none] g=_;unfold QdE;exact Qh [vR M,vI w,vI most,some shut,some d] g1 (Qv ((Qw (ds:=[.ref M,.int w,.int most]) rfl).trans e1)) ho
 cases hs1 with
 |none sn hc hT =>have hd:=Qhh sn hc hT told;subst hd;refine⟨g1,st (YY (ift g1 ?_ (Q6 (Qi (x:=.non) (y:=.non) rfl rfl rfl)))),k1⟩;rw[Qbc,Qn (Qi (x:=.non) (y:=.non) (g1:=g1) (g2:=g1) rfl rfl rfl)];rfl|@some s a b c ok sn fi q1 q2 q3 q4 q5 q6=>
  have e2:=QjI (w:=w) (s:=s) (i:=3) (j:=0) (a:=a) (b:=b) (c:=c) (σ:=[vR M,vI w,vI most,some (ZZ w a b c),some d]) (most:=most) (e:=mVar 2) rfl q3 rfl;have e3:mOrT (Qj (mOp2 pIs (mVar 3) (mLit .non))) (Qj (mOp2 pGt (mOp1 pLen (mOp2 pIx (mVar 3) (mI 4))) (mVar 2))) [vR M,vI w,vI most,some (ZZ w a b c),some d] g1=.ok (decide (most<s.cs.length)) g1:=by rw[Qbc,Qn (Qi (x:=ZZ w a b c) (y:=.non) (g1:=g1) (g2:=g1) rfl rfl rfl)];exact e2
  by_cases hm:most<s.cs.length
  ·rw[Uq hm]at e3;have hd:=QcW ok sn hm told;subst hd;exact⟨g1,st (YY (ift g1 e3 (Q6 (Qi (x:=.non) (y:=.non) rfl rfl rfl)))),k1⟩
  ·rw[UC hm]at e3;have fi':=fi.resolve_right (by omega);obtain⟨a',b',c',hd,p1,p2,p3,_⟩:=QcX ok sn fi' (by omega) told;subst hd;obtain⟨g2,e4,k4⟩:=Qfr (QjH (g:=g1) ok f p1 p2 p3 q1 q2 q3) g1 .refl;exact⟨g2,st (Qh _ g1 (iff' g1 e3 rfl) (Q6 ((Qw (ds:=[ZZ w a' b' c',ZZ w a b c]) rfl).trans e4))),k1.trans k4⟩
theorem Qhi(hx:x<1)(g:G):∃g',Qab [.ref M,.int x] g=.ok (.bl true) g'/\Keeps [] g g':=by
 have e1:Zr [.ref M,.int x,.int 9] g=.raise (9,none) g:=by
  refine Qjb (σ:=[vR M,vI x,vI 9,none]) rfl ?_;show Yw [vR M,vI x,vI 9,none] g=_;unfold Yw;refine Qi6 (ift g (Qn (Qi (x:=.int x) (y:=.int 1) (g1:=g) (g2:=g) rfl rfl ?_)) ?_)
  ·rw[QkE,Uq hx]
  ·rfl
 refine⟨g++[.exc (9,none)],QT rfl ?_,.push _⟩;show Qaa [vR M,vI x,none,none] g=_;unfold Qaa;refine Qh [vR M,vI x,some .non,none] g rfl ?_;refine Qh [vR M,vI x,vR g.length,none] (g++[.exc (9,none)]) ?_ ?_
 ·unfold mTry;have:Yb (Qr Zr (Qa (mVar 0) (Qa (mVar 1) (Qa (mI 9) mNil)))) [vR M,vI x,some .non,none] g=.raise (9,none) [vR M,vI x,some .non,none] g:=by rw[Qm3,Qw (ds:=[.ref M,.int x,.int 9]) (g':=g) rfl,e1]
  rw[this];rfl
 ·have hx:(g++[GO.exc (9,none)])[g.length]?=some (.exc (9,none)):=QC _;have is:∀cs:List Nat,mOp1 (ZN [0,1,7,8,9,10] cs) (mVar 2) [vR M,vI x,vR g.length,none] (g++[.exc (9,none)])=.ok (.bl (decide (9∈cs))) (g++[.exc (9,none)]):=λcs=>by refine Ze (x:=.ref g.length) rfl ?_;unfold ZN;dsimp only;rw[hx];dsimp only;rw[Ue (by decide)]
  refine Qh [vR M,vI x,vR g.length,none] (g++[.exc (9,none)]) (iff' _ ?_ rfl) (Q6 ((is [9]).trans (by simp)));rw[Qbc,Qn (is [1,7,8,10])];dsimp only;rw[Uf (by decide),QaX,Qn (is [0,1,7,8,9,10])];rfl
end
end L3
namespace L3
open PySem
theorem Qpb(hn:1<=n)(hn3:n<=3)(h:(m=2/\1<=w/\w<=3)\/(m=3/\w=1)):Few w n m:=by
 have hn':n=1\/n=2\/n=3:=by omega
 rcases h with⟨rfl,h1,h2⟩|⟨rfl,rfl⟩
 ·have hw':w=1\/w=2\/w=3:=by omega
  rcases hn' with rfl|rfl|rfl<;>rcases hw' with rfl|rfl|rfl<;>exact⟨by decide,by decide,by decide,by decide,by decide,by decide,by decide +kernel,by decide +kernel,by decide +kernel⟩
 ·rcases hn' with rfl|rfl|rfl<;>exact⟨by decide,by decide,by decide,by decide,by decide,by decide,by decide +kernel,by decide +kernel,by decide +kernel⟩
theorem Qng(h2:σ[2]?=some (vI mm)):∃v:Int,v<=60/\mOp2 pIx (mOpA newL (Qa (mI 0) (Qa (mI 1) (Qa (mOp2 pMod (mOp2 Ye (mVar 2) (mI 100)) (mI 60)) (Qa (mI 60) mNil))))) (mOp2 pMod (mOp2 Ye (mVar 2) (mI 20)) (mI 4)) σ g=.ok (.int v) (g++[.lst [.int 0,.int 1,.int (mm/100%60),.int 60]]):=by
 have q0:=TJ (mm/20) (show(4:Int)≠0 by decide);have q1:=Te (mm/20) (show(0:Int)<4 by decide);have r1:=Te (mm/100) (show(0:Int)<60 by decide);have e1:mOpA newL (Qa (mI 0) (Qa (mI 1) (Qa (mOp2 pMod (mOp2 Ye (mVar 2) (mI 100)) (mI 60)) (Qa (mI 60) mNil)))) σ g=.ok (.ref g.length) (g++[.lst [.int 0,.int 1,.int (mm/100%60),.int 60]]):=by rw[QaC,Qf (x:=.int 0) rfl (Qf (x:=.int 1) rfl (Qf (Qi (Qi (Q7 h2) rfl (divP (by decide) (by decide))) rfl (modP (by decide))) (Qf (x:=.int 60) rfl rfl)))];exact Ue (by show 4<=SZ;decide)
 have e2:mOp2 pMod (mOp2 Ye (mVar 2) (mI 20)) (mI 4) σ (g++[.lst [.int 0,.int 1,.int (mm/100%60),.int 60]])=.ok (.int (mm/20%4)) (g++[.lst [.int 0,.int 1,.int (mm/100%60),.int 60]]):=Qi (Qi (Q7 h2) rfl (divP (by decide) (by decide))) rfl (modP (by decide));have hc:mm/20%4=0\/mm/20%4=1\/mm/20%4=2\/mm/20%4=3:=by omega
 rcases hc with e|e|e|e<;>rw[e]at e2
 ·exact⟨0,by decide,Qi e1 e2 (QcN (QC _) (by decide) rfl)⟩
 ·exact⟨1,by decide,Qi e1 e2 (QcN (QC _) (by decide) rfl)⟩
 ·exact⟨mm/100%60,by omega,Qi e1 e2 (QcN (QC _) (by decide) rfl)⟩
 ·exact⟨60,by decide,Qi e1 e2 (QcN (QC _) (by decide) rfl)⟩
theorem Qpc(ns:List Int)(a:Nat)(k:Int)(g:G)(ga:g[a]?=some (.lst [.int k]))(hk:0<=k)(hk2:k<100000):∃g' k',QaW [.fl (ns.map .int),.ref a] g=.ok (.bl true) g'/\g'[a]?=some (.lst [.int k'])/\0<=k'/\k'<=k+100:=by
 obtain⟨mm,m0,m1,e1⟩:=Qi8 ns a k g ga hk (by omega);have ga1:(g.set a (.lst [.int (k+1)]))[a]?=some (.lst [.int (k+1)]):=Z6 ga;generalize g.set a (.lst [.int (k+1)])=g1 at e1 ga1
 -- the numbers
 have s0:=TJ mm (show(2:Int)≠0 by decide);have s1:=Te mm (show(0:Int)<2 by decide);have w0:=TJ (mm/2) (show(3:Int)≠0 by decide);have w1:=Te (mm/2) (show(0:Int)<3 by decide);have n0:=TJ (mm/6) (show(3:Int)≠0 by decide);have n1:=Te (mm/6) (show(0:Int)<3 by decide);obtain⟨m,hm⟩:∃m:Nat,(m:Int)=2+mm%2:=⟨(2+mm%2).toNat,by omega⟩;obtain⟨n,hn⟩:∃n:Nat,(n:Int)=1+mm/6%3:=⟨(1+mm/6%3).toNat,by omega⟩;obtain⟨w,hw⟩:∃w:Nat,(w:Int)=if m=2 then 1+mm/2%3 else 1:=⟨(if m=2 then 1+mm/2%3 else 1).toNat,by split<;>omega⟩
 have f:Few w n m:=Qpb (by omega) (by omega) (by
  by_cases z:m=2
  ·rw[Ue z]at hw;exact .inl ⟨z,by omega,by omega⟩
  ·rw[Uf z]at hw;exact .inr ⟨by omega,by omega⟩)
 obtain⟨rows,g2,e2,k2,ga2,tb,l1,l2,l3⟩:=QkC ns a (k+1) n m g1 f.n1 (by have:=f.m2;omega) (by have:=f.n3;omega) (by have:=f.m3;omega) ga1 (by omega) (by omega);have ht:Tb rows n m:=⟨l1,l2,l3⟩;have nm:(n:Int)*(m:Int)<=9:=by
  have a1:=f.n3;have a2:=f.m3;have:n*m<=3*3:=Nat.mul_le_mul a1 a2
  exact_mod_cast this
 have nm0:(0:Int)<=(n:Int)*(m:Int):=Int.mul_nonneg (by omega) (by omega);generalize hk':k+1+(n:Int)*(m:Int)=k' at ga2;have la:a<g1.length:=QE ga1;have lg2:g1.length<=g2.length:=k2.len
 let σ5:S3:=[some (.fl (ns.map .int)),vR a,vI mm,vI m,vI w,vR g1.length,none,none,none,none,none]
 obtain⟨g3,k3,e3,mach⟩:=Qm1 (.ref g1.length) rows g2 tb.rows (λr hr=>by rw[l2 r hr];exact Uk f.m3 (by decide)) (by rw[l1];exact Uk f.n3 (by decide)) (λr hr d hd=>(l3 r hr d hd).thing) (Qa (mVar 5) mNil) σ5 g2 rfl;have good:=entOk.good f.n1 (by have:=f.m2;omega) l1 l2 l3;rw[Ue good]at e3;have hM:=mach good;generalize g2.length=M at e3 hM;have tb3:tabOf g1.length g3 g1.length rows:=tb.mono k3 (by simp);obtain⟨g4,k4,shut⟩:=QkV (N:=g1.length) (t:=g1.length) (g0:=g3) f tb3 ht;have hM4:g4[M]?=some (Qac rows):=k4.at' M _ (by simp) hM;have ga4:g4[a]?=some (.lst [.int k']):=k4.at' a _ (by simp) (k3.at' a _ (by simp) ga2);obtain⟨sh,o,e4,hsh⟩:∃sh o,Ju [.ref g1.length,.int w] g3=.ok sh g4/\Shut rows w n m g4 g4.length sh o:=by
  rcases shut with⟨q1,s,q2,q3,c,q4,q5⟩|⟨s,x,y,z,q1,q2,q3,q4,q5,q6,q7,_⟩
  ·exact⟨_,none,q1,.none q3 q4 q5⟩
  ·exact⟨_,some s,q1,.some q2 q3 q4 q5 q6 q7 (QE q5) (QE q6) (QE q7)⟩
 clear shut
 let σ7:S3:=[some (.fl (ns.map .int)),vR a,vI mm,vI m,vI w,vR g1.length,vR M,some sh,none,none,none]
 obtain⟨v,v1,e5⟩:=Qng (σ:=σ7) (g:=g4) (mm:=mm) rfl;have kp:Keeps [] g4 (g4++[.lst [.int 0,.int 1,.int (mm/100%60),.int 60]]):=.push _;have same:∀{ga gb:G},Keeps [] ga gb->∀i,i<ga.length->gb[i]?=ga[i]?:=λ{ga gb} kk i hi=>by
  have:ga[i]?=some ga[i]:=by simp[hi]
  rw[this];exact kk.at' i _ (by simp) this
 have hsh5:=hsh.mono (same kp) kp.len;obtain⟨g6,e6,k6⟩:=QjJ (most:=v) (kp.at' M _ (by simp) hM4) ht f hsh5 v1;have r0:=TJ (mm/100) (show(3:Int)≠0 by decide);obtain⟨g7,e7,k7⟩:=Qhi (M:=M) (x:=-(mm/100%3)) (by omega) g6;have K7:Keeps [] g4 g7:=(kp.trans k6).trans k7;have hM7:g7[M]?=some (Qac rows):=K7.at' M _ (by simp) hM4;have ga7:g7[a]?=some (.lst [.int k']):=K7.at' a _ (by simp) ga4;have hsh7:=hsh.mono (same K7) K7.len
 -- the steps up to there
 have st:∀{g':G},mSeq (mIf (mOrT (Qj (mOp2 pIs (mVar 7) (mLit .non))) (Qj (mOp2 pGt (mOp1 pLen (mOp2 pIx (mVar 7) (mI 4))) (mI 60)))) (mRet (mLit (.bl true))) QV) (mSeq (mAsg (gSet 8) (mOp1 pLen (mOp2 pIx (mVar 7) (mI 4))))
   (mSeq (mAsg (gSet 9) (Qr Zr (Qa (mVar 6) (Qa (mVar 4) (Qa (mVar 8) mNil)))))
   (mSeq (mIf (mOrT (Yn (Qj (Qr (Zv 6) (Qa (mVar 9) (Qa (mVar 7) mNil))))) (Qj (mOp2 QfX (Qr Zr (Qa (mVar 6) (Qa (mVar 4) (Qa (mOp2 pSub (mVar 8) (mI 1)) mNil)))) (mLit .non)))) (mRet (mLit (.bl false))) QV)
   (mSeq (mFor (QR (QW (mVar 9) (ZM (mI 2)) QD)) (gSet 10) QaV)
   (mRet (Qr JO (Qa (mVar 6) (Qa (mVar 4) (Qa (mVar 8) (Qa (mVar 7) mNil)))))))))) σ7 g7=.rt (.bl true) g'->QaW [.fl (ns.map .int),.ref a] g=.ok (.bl true) g':=λ{g'} ho=>by
  refine QT rfl ?_;show Qfo [some (.fl (ns.map .int)),vR a,none,none,none,none,none,none,none,none,none] g=_;unfold Qfo;refine Qh [some (.fl (ns.map .int)),vR a,vI mm,none,none,none,none,none,none,none,none] g1 (Qv ((Qw (ds:=[.fl (ns.map .int),.ref a]) rfl).trans e1)) ?_;refine Qh [some (.fl (ns.map .int)),vR a,vI mm,vI m,none,none,none,none,none,none,none] g1 (Qv (by rw[Qi (x:=.int 2) (y:=.int (mm%2)) (g1:=g1) (g2:=g1) rfl (Qi (x:=.int mm) (y:=.int 2) (g1:=g1) (g2:=g1) rfl rfl (modP (by decide))) QcP,hm])) ?_;refine Qh [some (.fl (ns.map .int)),vR a,vI mm,vI m,vI 1,none,none,none,none,none,none] g1 rfl ?_;refine Qh [some (.fl (ns.map .int)),vR a,vI mm,vI m,vI w,none,none,none,none,none,none] g1 ?_ ?_
  ·by_cases z:m=2
   ·rw[Ue z]at hw;refine ift g1 (Qn (Qi (x:=.int m) (y:=.int 2) (g1:=g1) (g2:=g1) rfl rfl ?_)) (Qv ?_)
    ·rw[Qo3,z];rfl
    ·rw[Qi (x:=.int 1) (y:=.int (mm/2%3)) (g1:=g1) (g2:=g1) rfl (Qi (x:=.int (mm/2)) (y:=.int 3) (g1:=g1) (g2:=g1) (Qi (x:=.int mm) (y:=.int 2) (g1:=g1) (g2:=g1) rfl rfl (divP (by decide) (by decide))) rfl (modP (by decide))) QcP,hw]
   ·rw[Uf z]at hw;refine iff' g1 (Qn (Qi (x:=.int m) (y:=.int 2) (g1:=g1) (g2:=g1) rfl rfl ?_)) ?_
    ·rw[Qo3,Th.mpr (show(m:Int)≠2 by omega)]
    ·rw[hw];rfl
  refine Qh σ5 g2 (Qv ((Qw (ds:=[.fl (ns.map .int),.ref a,.int n,.int m]) (Qf rfl (Qf rfl (Qf (g1:=g1) ?_ (Qf rfl rfl))))).trans e2)) ?_
  ·rw[Qi (x:=.int 1) (y:=.int (mm/6%3)) (g1:=g1) (g2:=g1) rfl (Qi (x:=.int (mm/6)) (y:=.int 3) (g1:=g1) (g2:=g1) (Qi (x:=.int mm) (y:=.int 6) (g1:=g1) (g2:=g1) rfl rfl (divP (by decide) (by decide))) rfl (modP (by decide))) QcP,hn]
  refine Qh [some (.fl (ns.map .int)),vR a,vI mm,vI m,vI w,vR g1.length,vR M,none,none,none,none] g3 (Qv e3) ?_;refine Qh σ7 g4 (Qv ((Qw (ds:=[.ref g1.length,.int w]) rfl).trans e4)) ?_;refine Qh σ7 g6 (iff' g6 ?_ rfl) ?_
  ·rw[QaX,Qn ((Qw (ds:=[.ref M,.int w,.int v,sh]) (Qf (g1:=g4) rfl (Qf (g1:=g4) rfl (Qf e5 (Qf rfl rfl))))).trans e6)];rfl
  refine Qh σ7 g7 (iff' g7 ?_ rfl) ho;rw[QaX,Qn ((Qw (ds:=[.ref M,.int (-(mm/100%3))]) (g':=g6) (Qf (g1:=g6) rfl (Qf (g1:=g6) (Ze (x:=.int (mm/100%3)) (g1:=g6) (Qi (x:=.int (mm/100)) (y:=.int 3) (g1:=g6) (g2:=g6) (Qi (x:=.int mm) (y:=.int 100) (g1:=g6) (g2:=g6) rfl rfl (divP (by decide) (by decide))) rfl (modP (by decide))) Qo2) rfl))).trans e7)];rfl
 have fin:∀g',g'[a]?=some (.lst [.int k'])->QaW [.fl (ns.map .int),.ref a] g=.ok (.bl true) g'->∃g' k',QaW [.fl (ns.map .int),.ref a] g=.ok (.bl true) g'/\g'[a]?=some (.lst [.int k'])/\0<=k'/\k'<=k+100:=λg' h1 h2=>⟨g',k',h2,h1,by omega,by omega⟩;cases hsh7 with
 |none sn hc hT =>refine fin g7 ga7 (st (YY (ift g7 ?_ rfl)));rw[Qbc,Qn (Qi (x:=.non) (y:=.non) (g1:=g7) (g2:=g7) rfl rfl rfl)];rfl|@some s p q r ok sn fi q1 q2 q3 q4 q5 q6=>
  have e8:mOrT (Qj (mOp2 pIs (mVar 7) (mLit .non))) (Qj (mOp2 pGt (mOp1 pLen (mOp2 pIx (mVar 7) (mI 4))) (mI 60))) σ7 g7=.ok (decide ((60:Int)<s.cs.length)) g7:=by rw[Qbc,Qn (Qi (x:=ZZ w p q r) (y:=.non) (g1:=g7) (g2:=g7) rfl rfl rfl)];exact QjI (w:=w) (s:=s) (i:=7) (j:=0) (a:=p) (b:=q) (c:=r) (most:=60) rfl q3 rfl
  by_cases hb:(60:Int)<s.cs.length
  ·rw[Uq hb]at e8;exact fin g7 ga7 (st (YY (ift g7 e8 rfl)))
  ·rw[UC hb]at e8;have fi':=fi.resolve_right (by omega);have shu:Shut rows w n m g7 g7.length (ZZ w p q r) (Option.some s):=.some ok sn fi q1 q2 q3 q4 q5 q6
   -- told
   obtain⟨d,g8,e9,k8,told⟩:=Qfz (g0:=g7) hM7 ht f (s.cs.length:Int);obtain⟨p',q',r',hd,t1,t2,t3,t4,t5,t6,_⟩:=QcX ok sn fi' (T4 _) told;subst hd;have sh8:=shu.mono (same k8) k8.len;obtain⟨g9,e10,k9⟩:∃g9,Zv 6 [ZZ w p' q' r',ZZ w p q r] g8=.ok (.bl true) g9/\Keeps [] g8 g9:=by
    cases sh8 with
    |some _ _ _ z1 z2 z3 _ _ _=>exact Qfr (QjH (g:=g8) ok f t1 t2 t3 z1 z2 z3) g8 .refl
   have K9:=k8.trans k9;obtain⟨d2,g10,e11,k10,told2⟩:=Qfz (g0:=g9) (K9.at' M _ (by simp) hM7) ht f ((s.cs.length:Int) - 1);have hd2:=QcW ok sn (by omega) told2;subst hd2;have K10:=K9.trans k10;have K8:Keeps [] g8 g10:=k9.trans k10
   -- the rows are spoilt
   let σ9:S3:=[some (.fl (ns.map .int)),vR a,vI mm,vI m,vI w,vR g1.length,vR M,some (ZZ w p q r),vI s.cs.length,some (ZZ w p' q' r'),none]
   obtain⟨σ',g11,e12,⟨x,hσ⟩,z1,z2,z3⟩:=Qex (t:=gSet 10) (body:=QaV) (ds:=[D.ref p',.ref q',.ref r']) (σ:=σ9) (g:=g10) (λi σ' g'=>(∃x,σ'=[some (.fl (ns.map .int)),vR a,vI mm,vI m,vI w,vR g1.length,vR M,some (ZZ w p q r),vI s.cs.length,some (ZZ w p' q' r'),x])/\(∀j,j<g7.length->g'[j]?=g10[j]?)/\g10.length<=g'.length/\∀y,y=p'\/y=q'\/y=r'->∃l,g'[y]?=some (.lst l)/\l.length<=900+i)
    ⟨⟨none,rfl⟩,λ_ _=>rfl,Ug _,λy hy=>by
     rcases hy with rfl|rfl|rfl
     ·exact⟨_,K8.at' _ _ (by simp) t1,by rw[Qa1,Ud];exact ok.gl f _⟩
     ·exact⟨_,K8.at' _ _ (by simp) t2,by rw[Qa1,Ud];exact ok.gl f _⟩
     ·exact⟨_,K8.at' _ _ (by simp) t3,by rw[Qa1,Ud];exact ok.cl f⟩⟩ (λi d σ' g' hd hh=>by
     obtain⟨⟨x,hσ⟩,z1,z2,z3⟩:=hh;subst hσ;have hi:i<3:=(Um.mp hd).1;obtain⟨y,rfl,hy,ly⟩:∃y,d=.ref y/\(y=p'\/y=q'\/y=r')/\g7.length<=y:=by
      match i,hd with
      |0,hd=>cases hd;exact⟨p',rfl,.inl rfl,t4⟩|1,hd=>cases hd;exact⟨q',rfl,.inr (.inl rfl),t5⟩|2,hd=>cases hd;exact⟨r',rfl,.inr (.inr rfl),t6⟩
     obtain⟨l,hl,hz⟩:=z3 y hy;refine⟨_,[some (.fl (ns.map .int)),vR a,vI mm,vI m,vI w,vR g1.length,vR M,some (ZZ w p q r),vI s.cs.length,some (ZZ w p' q' r'),vR y],g'.set y (.lst (l++[.non])),rfl,Z7 (Y0 (n:=y) (ds:=l) (y:=.non) rfl hl rfl (by omega)),⟨_,rfl⟩,λj hj=>by rw[Uh (by omega)];exact z1 j hj,by rw[UK];exact z2,λy' hy'=>?_⟩;by_cases e:y'=y
     ·subst e;exact⟨_,Z6 hl,by rw[Us];show l.length+1<=_;omega⟩
     ·rw[Uh (Ne.symm e)];obtain⟨l',a1,a2⟩:=z3 y' hy';exact⟨l',a1,by omega⟩)
   subst hσ;have all:∀j,j<g7.length->g11[j]?=g7[j]?:=λj hj=>by rw[z1 j hj];exact same K10 j hj
   have lM:=QE hM7;have lA:=QE ga7;have len:g7.length<=g11.length:=Uk K10.len z2;have sh11:=shu.mono all len;obtain⟨g12,e13,k12⟩:=QjJ (most:=(s.cs.length:Int)) (by rw[all M lM];exact hM7) ht f sh11 (by omega);refine fin g12 (k12.at' a _ (by simp) (by rw[all a lA];exact ga7)) (st ?_)
   let σ8:S3:=[some (.fl (ns.map .int)),vR a,vI mm,vI m,vI w,vR g1.length,vR M,some (ZZ w p q r),vI s.cs.length,none,none]
   refine Qh σ7 g7 (iff' g7 e8 rfl) ?_;refine Qh σ8 g7 (Qv (Ze (Qi (x:=ZZ w p q r) rfl rfl (ix4 g7)) (by rw[Qjg q3,Qa1,Ud]))) ?_;refine Qh σ9 g8 (Qv ((Qw (ds:=[.ref M,.int w,.int s.cs.length]) rfl).trans e9)) ?_;refine Qh σ9 g10 (iff' g10 ?_ rfl) ?_
   ·rw[Qbc,QaX,Qn ((Qw (ds:=[ZZ w p' q' r',ZZ w p q r]) (g':=g8) rfl).trans e10)];dsimp only;rw[Uf (by decide)];exact Qn (Qi (x:=.non) (y:=.non) ((Qw (ds:=[.ref M,.int w,.int ((s.cs.length:Int) - 1)]) (g':=g9) rfl).trans e11) rfl rfl)
   refine Qh _ g11 ((Qb7 (src:=⟨λ_ i=>some [D.ref p',.ref q',.ref r'][i]?,3⟩) ?_).trans e12) ?_
   ·unfold QR;rw[ZV];rfl
   exact Q6 ((Qw (ds:=[.ref M,.int w,.int s.cs.length,ZZ w p q r]) rfl).trans e13)
theorem law_true(ns:List Int)(hz:ns.length<=63):∃g',Qky [.fl (ns.map .int)] []=.ok (.bl true) g':=by
 have lq:∃c:Nat,1<=c/\c<=4/\mOp2 pAdd (mI 1) (mOp2 QiH (mI 3) (mOp2 Ye (mOp1 pLen (mVar 0)) (mI 16))) [some (.fl (ns.map .int)),vR 0,none] [.lst [.int 0]]=.ok (.int c) [.lst [.int 0]]:=by
  have e1:mOp1 pLen (mVar 0) [some (.fl (ns.map .int)),vR 0,none] [.lst [.int 0]]=.ok (.int ns.length) [.lst [.int 0]]:=Ze (x:=.fl (ns.map .int)) rfl (by show Res.ok (D.int ((ns.map D.int).length:Nat)) _=_;rw[Ud]);refine⟨1+min 3 (ns.length/16),by omega,by omega,Qi (x:=.int 1) (y:=.int ((min 3 (ns.length/16):Nat):Int)) (g1:=[.lst [.int 0]]) (g2:=[.lst [.int 0]]) rfl (Qi (x:=.int 3) (y:=.int ((ns.length:Int) / 16)) (g1:=[.lst [.int 0]]) (g2:=[.lst [.int 0]]) rfl (Qi (g2:=[.lst [.int 0]]) e1 rfl (divP (by decide) (by decide))) ?_) ?_⟩
  ·unfold QiH;dsimp only;congr 2;split<;>omega
  ·rw[QcP];rfl
 obtain⟨c,c1,c4,e0⟩:=lq;obtain⟨σ',g',e1,k,_,_,_⟩:=Qb3 (t:=gSet 2) (body:=Qgn) (lo:=0) (n:=c) (σ:=[some (.fl (ns.map .int)),vR 0,none]) (g:=[.lst [.int 0]]) (λi σ' g'=>∃(k:Int)(x:Option D),σ'=[some (.fl (ns.map .int)),vR 0,x]/\g'[0]?=some (.lst [.int k])/\0<=k/\k<=100*i)
  ⟨0,none,rfl,rfl,by decide,by decide⟩ (λi σ' g' hi hh=>by obtain⟨k,x,rfl,q1,q2,q3⟩:=hh;obtain⟨g2,k2,a1,a2,a3,a4⟩:=Qpc ns 0 k g' q1 q2 (by omega);refine⟨_,[some (.fl (ns.map .int)),vR 0,vI (0+i)],g2,rfl,iff' g2 ?_ rfl,k2,vI (0+i),rfl,a2,a3,by omega⟩;rw[QaX,Qn ((Qw (ds:=[.fl (ns.map .int),.ref 0]) (g':=g') rfl).trans a1)];rfl)
 refine⟨g',QT rfl ?_⟩;show QmW [some (.fl (ns.map .int)),none,none] []=_;unfold QmW;refine Qh [some (.fl (ns.map .int)),vR 0,none] [.lst [.int 0]] (Qv (by simp[newL,SZ])) ?_;exact Qh σ' g' ((Qb7 (Qb6 e0 (Qja (by omega)))).trans e1) (Q6 rfl)
end L3
namespace V
open PySem PySem.Spec PyProof.Rows L2 L3
theorem Zy{N P:List Str}{sc:Scope}(h1:sc.kind=.function:=by rfl)(h2:sc.isCoroutine=false:=by rfl)(h3:sc.isGenerator=false:=by rfl)(h4:N.Nodup:=by decide +kernel)(h5:N.take P.length=P:=by rfl)(h6:∀x∈P,sc.names.lookup x=some .local\/sc.names.lookup x=some .cell:=by decide +kernel)(h7:∀y∈sc.names,y.2≠.free:=by decide +kernel):FnScope N P sc:=⟨h1,h2,h3,h4,h5,h6,h7⟩
noncomputable def top(i:Nat):Stmt:=PySem.Challenge.pw_tapeproof_k50_made_least.main.body.getD i (.Pass ⟨0,0,0,0⟩)
abbrev Qa2:Stmt:=top 8
abbrev Qhj:List Str:=["value"]
theorem QfC:FnScope Qhj ["value"] (Qe Qa2):=Zy
abbrev Qa3:Stmt:=top 9
abbrev Qhk:List Str:=["value","many"]
theorem QfD:FnScope Qhk ["value","many"] (Qe Qa3):=Zy
abbrev Qae:Stmt:=top 14
abbrev QfE:List Str:=["way"]
theorem QeM:FnScope QfE ["way"] (Qe Qae):=Zy
abbrev Qa4:Stmt:=top 15
abbrev Qhl:List Str:=["thing","states","signs"]
theorem QfF:FnScope Qhl ["thing","states","signs"] (Qe Qa4):=Zy
abbrev YH:Stmt:=top 16
abbrev Qbf:List Str:=["rows","states","signs","row"]
theorem Yh:FnScope Qbf ["rows"] (Qe YH):=Zy
abbrev ZW:Stmt:=Ym (top 17) 0
abbrev J5:List Str:=["self","table","rows"]
theorem Jw:FnScope J5 ["self","table"] (Qe ZW):=Zy
abbrev Qa5:Stmt:=top 20
abbrev Qhm:List Str:=["machine","context"]
theorem QfG:FnScope Qhm ["machine","context"] (Qe Qa5):=Zy
abbrev Je:Stmt:=top 21
abbrev QdX:List Str:=["entry","context"]
theorem Qcr:FnScope QdX ["entry","context"] (Qe Je):=Zy
abbrev Jx:Stmt:=top 22
abbrev QeN:List Str:=["entry","context"]
theorem QdY:FnScope QeN ["entry","context"] (Qe Jx):=Zy
abbrev YO:Stmt:=top 23
abbrev Qcs:List Str:=["entry","context","gram","sign","behind"]
theorem YA:FnScope Qcs ["entry","context","gram"] (Qe YO):=Zy
abbrev Jy:Stmt:=Ym (top 24) 0
abbrev QeO:List Str:=["self"]
theorem QdZ:FnScope QeO ["self"] (Qe Jy):=Zy
abbrev ZS:Stmt:=Ym (top 24) 1
abbrev Qa6:List Str:=["self","seen"]
theorem QaG:FnScope Qa6 ["self","seen"] (Qe ZS):=Zy
abbrev Qaf:Stmt:=Ym (top 24) 2
abbrev QfH:List Str:=["self","gram"]
theorem QeP:FnScope QfH ["self","gram"] (Qe Qaf):=Zy
abbrev YQ:Stmt:=Ym (top 24) 3
abbrev Qct:List Str:=["self","gram"]
theorem Qce:FnScope Qct ["self","gram"] (Qe YQ):=Zy
abbrev Z8:Stmt:=Ym (top 24) 4
abbrev Qbk:List Str:=["self","grams","alike"]
theorem ZT:FnScope Qbk ["self"] (Qe Z8):=Zy
abbrev Qa7:Stmt:=top 25
abbrev Qhn:List Str:=["things","grams","gram"]
theorem Qag:FnScope Qhn ["things"] (Qe Qa7):=Zy
abbrev Zz:Stmt:=Ym (top 26) 1
abbrev Qah:List Str:=["self","context"]
theorem JV:FnScope Qah ["self","context"] (Qe Zz):=Zy
abbrev Z9:Stmt:=Ym (top 26) 0
abbrev Qbl:List Str:=["self","machine","width","blanks"]
theorem Y3:FnScope Qbl ["self","machine","width"] (Qe Z9):=Zy
abbrev Zh:Stmt:=Ym (top 26) 2
abbrev JW:List Str:=["self","way","gram","context"]
theorem Z0:FnScope JW ["self","way","gram"] (Qe Zh):=Zy
abbrev ZA:Stmt:=Ym (top 26) 3
abbrev Qai:List Str:=["self","context","entry","way","seen","gram"]
theorem Qu:FnScope Qai ["self"] (Qe ZA):=Zy
abbrev ZU:Stmt:=Ym (top 26) 4
abbrev Qa8:List Str:=["self","width"]
theorem QaH:FnScope Qa8 ["self","width"] (Qe ZU):=Zy
abbrev Qcf:Stmt:=top 27
abbrev QjK:List Str:=["machine","width","most","gathering"]
theorem QcY:FnScope QjK ["machine","width","most"] (Qe Qcf):=Zy
abbrev Qd0:Stmt:=top 29
abbrev QkW:List Str:=["_law_script","_law_at","_law_cell","_law_m"]
theorem QaI:FnScope QkW ["_law_script","_law_at"] (Qe Qd0):=Zy
abbrev QaJ:Stmt:=top 30
abbrev Qd1:List Str:=["_law_found","_law_due"]
theorem QjL:FnScope Qd1 ["_law_found","_law_due"] (Qe QaJ):=Zy
abbrev Qcg:Stmt:=top 31
abbrev QjM:List Str:=["_law_script","_law_at","_law_states","_law_signs","_law_table_here","_law_k","_law_line","_law_j","_law_m","_law_entry"]
theorem ZG:FnScope QjM ["_law_script","_law_at","_law_states","_law_signs"] (Qe Qcg):=Zy
abbrev Y4:Stmt:=top 32
abbrev Qa9:List Str:=["_law_table_here","_law_context","_law_lefts","_law_rights","_law_left","_law_state","_law_sign","_law_right","_law_entry","_law_inner"]
theorem Za:FnScope Qa9 ["_law_table_here","_law_context","_law_lefts","_law_rights"] (Qe Y4):=Zy
abbrev Qch:Stmt:=top 33
abbrev QjN:List Str:=["_law_table_here","_law_width","_law_blank","_law_found","_law_size","_law_context","_law_asked","_law_side","_law_gram","_law_later","_law_one_here"]
theorem QY:FnScope QjN ["_law_table_here","_law_width"] (Qe Qch):=Zy
abbrev Qaj:Stmt:=top 34
abbrev QfI:List Str:=["_law_machine","_law_width","_law_error","e"]
theorem YI:FnScope QfI ["_law_machine","_law_width"] (Qe Qaj):=Zy
abbrev Qd2:Stmt:=top 35
abbrev QkX:List Str:=["_law_machine","_law_width","_law_most","_law_shut","_law_found"]
theorem QeQ:FnScope QkX ["_law_machine","_law_width","_law_most","_law_shut"] (Qe Qd2):=Zy
abbrev QfJ:Stmt:=top 36
abbrev Qnh:List Str:=["_law_script","_law_at","_law_m","_law_signs","_law_width","_law_table_here","_law_machine","_law_shut","_law_many","_law_told","_law_row"]
theorem ZL:FnScope Qnh ["_law_script","_law_at"] (Qe QfJ):=Zy
abbrev QkY:Stmt:=top 37
abbrev Qp8:List Str:=["_law_script","_law_at","_law_turn"]
theorem QjO:FnScope Qp8 ["_law_script"] (Qe QkY):=Zy
def UF(K:Frag)(mg:SOV)(x:Str)(st:Stmt):Prop:=∃f fd,Fun K x x st f fd/\mg x=some (.ref f)
theorem _root_.L2.Room.m{j k:Nat}{A:Around}(h:Room k A)(e:j<=k:=by omega):Room j A:=h.mono e
def UM(K:Frag)(C:Addr)(x q:Str)(st:Stmt):Prop:=∃f fd,Fun K x q st f fd/\Meth K C x f/\Cls K C
def UI(K:Frag)(mg:SOV)(C:Addr)(q c:Str)(st:Stmt):Prop:=∃f fd,Fun K "__init__" q st f fd/\Mk K C f/\mg c=some (.ref C)
abbrev HB(x q:Str)(st:Stmt)(ps:List Str):Prop:=∀(kV doc pm:Value)(an:Option Addr)(cdv ct:Value)(us:List Value),us.length=ps.length->bindArgs (fnOf x q (Y6 st) (Z1 st) (Qe st) .none kV doc pm an cdv ct) ⟨us,[]⟩=pure (ps.zip us)
section
variable{P:Program}{w:World}{K:Frag}{mg:SOV}{base:Heap}{ca:Nat->Addr}{x q c:Str}{st:Stmt}{N ps:List Str}{k n j C:Nat}{m:MS}
abbrev HP(P:Program)(w:World)(K:Frag)(mg:SOV)(base:Heap)(ca:Nat->Addr)(q:Str)(st:Stmt)(N:List Str)(k:Nat)(m:MS):Prop:=∀(f:Addr)(cdv:Value)(A:Around)(outer:List Env)(s:Shared)(H:Hp)(E:XK),Room k (A.deeper (envOfC q (Qe st) s.heap.objs.size f cdv))->PSs3 ca (cxOf (CXW P w ca) P w K mg base N q (Qe st) f cdv A outer s H E) (Z1 st) m
theorem Jj(u:UF K mg x st)(S:FnScope N ps (Qe st))(h:HP P w K mg base ca x st N k m)(hj:ps.length=j:=by rfl)(hn:N.length-ps.length=n:=by rfl)(hb:HB x x st ps:=by intro _ _ _ _ _ _ us hl;first|(obtain⟨_,rfl⟩:=L3.len1 hl;rfl)|(obtain⟨_,_,rfl⟩:=L3.len2 hl;rfl)|(obtain⟨_,_,_,rfl⟩:=L3.len3 hl;rfl)|(obtain⟨_,_,_,_,rfl⟩:=L3.len4 hl;rfl)):FnH P w K mg base ca x (k+1) j (mDef j n m):=by obtain⟨f,fd,F,hm⟩:=u;exact⟨⟨f,fd,ps,Qif F S hj hn (h f),hm,F.kp,F.binds hb⟩,Qdn _ _ _⟩
theorem QeR(u:UM K (ca C) x q st)(S:FnScope N ps (Qe st))(h:HP P w K mg base ca q st N k m)(hj:ps.length=j:=by rfl)(hn:N.length-ps.length=n:=by rfl)(hb:HB x q st ps:=by intro _ _ _ _ _ _ us hl;first|(obtain⟨_,rfl⟩:=L3.len1 hl;rfl)|(obtain⟨_,_,rfl⟩:=L3.len2 hl;rfl)|(obtain⟨_,_,_,rfl⟩:=L3.len3 hl;rfl)|(obtain⟨_,_,_,_,rfl⟩:=L3.len4 hl;rfl)):MtH P w K mg base ca C x (k+1) j (mDef j n m):=by obtain⟨f,fd,F,hm⟩:=u;exact⟨⟨f,fd,ps,Qif F S hj hn (h f),hm.1,hm.2,F.binds hb⟩,Qdn _ _ _⟩
theorem Qni(u:UI K mg (ca C) q c st)(S:FnScope N ps (Qe st))(h:HP P w K mg base ca q st N k m)(hj:ps.length=j:=by rfl)(hn:N.length-ps.length=n:=by rfl)(hb:HB "__init__" q st ps:=by intro _ _ _ _ _ _ us hl;first|(obtain⟨_,rfl⟩:=L3.len1 hl;rfl)|(obtain⟨_,_,rfl⟩:=L3.len2 hl;rfl)|(obtain⟨_,_,_,rfl⟩:=L3.len3 hl;rfl)|(obtain⟨_,_,_,_,rfl⟩:=L3.len4 hl;rfl)):MkH P w K mg base ca C c (k+1) j (mDef j n m):=by obtain⟨f,fd,F,hm⟩:=u;exact⟨⟨f,fd,ps,Qif F S hj hn (h f),hm.1,hm.2,F.binds hb⟩,Qdn _ _ _⟩
end
structure Zk(K:Frag)(mg:SOV)(ca:Nat->Addr):Prop where
 z_ValueError:mg "ValueError"=none
 z_all:mg "all"=none
 z_bool:mg "bool"=none
 z_dict:mg "dict"=none
 z_int:mg "int"=none
 z_isinstance:mg "isinstance"=none
 z_len:mg "len"=none
 z_list:mg "list"=none
 z_min:mg "min"=none
 z_range:mg "range"=none
 z_sorted:mg "sorted"=none
 z_str:mg "str"=none
 z_tuple:mg "tuple"=none
 z_zip:mg "zip"=none
 g_BLANK:∃k,mg "BLANK"=some (.int 0 k)
 g_LEFT:∃k,mg "LEFT"=some (.str "l" k)
 g_RIGHT:∃k,mg "RIGHT"=some (.str "r" k)
 g_WALL:∃k,mg "WALL"=some (.str "wall" k)
 t_TapeError:mg "TapeError"=some (.ref (ca 0))/\CatX K ca (ca 0) [0,1,7,8,9,10] []
 x_NoMachine:mg "NoMachine"=some (.ref (ca 1))/\IsX K ca (.ref (ca 1)) [0,1,7,8,9,10] [1]
 x_NoMove:mg "NoMove"=some (.ref (ca 8))/\IsX K ca (.ref (ca 8)) [0,1,7,8,9,10] [8]
 x_NoShape:mg "NoShape"=some (.ref (ca 7))/\IsX K ca (.ref (ca 7)) [0,1,7,8,9,10] [7]
 x_NoText:mg "NoText"=some (.ref (ca 10))/\IsX K ca (.ref (ca 10)) [0,1,7,8,9,10] [10]
 x_NoWidth:mg "NoWidth"=some (.ref (ca 9))/\IsX K ca (.ref (ca 9)) [0,1,7,8,9,10] [9]
 x_ValueError:bootBuiltins "ValueError"=some (.type "ValueError")/\IsX K ca (.type "ValueError") [0,1,7,8,9,10] [0,1,7,8,9,10]
 e_NoWidth:RaH K mg ca 9 "NoWidth"
 a_asking:FldOk K ca [15] "asking"
 a_by_seen:FldOk K ca [14] "by_seen"
 a_contexts:FldOk K ca [15] "contexts"
 a_machine:FldOk K ca [15] "machine"
 a_pending:FldOk K ca [15] "pending"
 a_sides:FldOk K ca [15] "sides"
 a_table:FldOk K ca [11] "table"
 u0:UF K mg "is_whole" Qa2
 u1:UF K mg "is_below" Qa3
 u2:UF K mg "other_way" Qae
 u3:UF K mg "is_entry" Qa4
 u4:UF K mg "check_rows" YH
 u5:UI K mg (ca 11) "Machine.__init__" "Machine" ZW
 u6:UF K mg "entry_at" Qa5
 u7:UF K mg "gram_behind" Je
 u8:UF K mg "gram_ahead" Jx
 u9:UF K mg "next_context" YO
 u10:UI K mg (ca 14) "Grams.__init__" "Grams" Jy
 u11:UM K (ca 14) "beginning" "Grams.beginning" ZS
 u12:UM K (ca 14) "has" "Grams.has" Qaf
 u13:UM K (ca 14) "put_in" "Grams.put_in" YQ
 u14:UM K (ca 14) "in_order" "Grams.in_order" Z8
 u15:UF K mg "grams_of" Qa7
 u16:UM K (ca 15) "ask_for" "Gathering.ask_for" Zz
 u17:UI K mg (ca 15) "Gathering.__init__" "Gathering" Z9
 u18:UM K (ca 15) "put_gram" "Gathering.put_gram" Zh
 u19:UM K (ca 15) "went_on" "Gathering.went_on" ZA
 u20:UM K (ca 15) "paper" "Gathering.paper" ZU
 u21:UF K mg "wall_of" Qcf
 u22:UF K mg "_law_next" Qd0
 u23:UF K mg "_law_same" QaJ
 u24:UF K mg "_law_table" Qcg
 u25:UF K mg "_law_behind" Y4
 u26:UF K mg "_law_least" Qch
 u27:UF K mg "_law_refused" Qaj
 u28:UF K mg "_law_fits" Qd2
 u29:UF K mg "_law_one" QfJ
 u30:UF K mg "law" QkY
section
seal PE3 PT3 PW3 PA3 PS3 PSs3 PG3 PI3
variable{P:Program}{w:World}{K:Frag}{mg:SOV}{base:Heap}{ca:Nat->Addr}
theorem QfK(Z:Zk K mg ca):FnH P w K mg base ca "is_whole" 1 1 JM:=Jj Z.u0 QfC λ_ _ _ _ _ _ _ hr=>(Qg (QO (Qem (Ys .int Z.z_isinstance Z.z_int Qlq (Qb 0)) (QgV (Qoo (Ys .bool Z.z_isinstance Z.z_bool QiE (Qb 0)))))))
theorem Qci(Z:Zk K mg ca):FnH P w K mg base ca "is_below" 2 2 ZD:=Jj Z.u1 QfD λ_ _ _ _ _ _ _ hr=>(Qg (QO (Qem (QG (QfK Z) hr.m (Qd (Qb 0) Qm)) (QgV (QoA Ql (Qb 0) (Qb 1))))))
theorem QeS(Z:Zk K mg ca):FnH P w K mg base ca "other_way" 1 1 Y9:=Jj Z.u2 QeM λ_ _ _ _ _ _ _ hr=>(Qg (QO (Qka (QbR hr (Qb 0) (Yt Z.g_RIGHT)) (Yt Z.g_LEFT) (Yt Z.g_RIGHT))))
theorem QfL(Z:Zk K mg ca):FnH P w K mg base ca "is_entry" 3 3 Yi:=Jj Z.u3 QfF λ_ _ _ _ _ _ _ hr=>(Qc (r_if (QgX (Qb 0) J9) (Qg (QO r_bl)) QI)
 (Qc (r_if (r_w (Qdl (Jg (ZC (Ys .tuple Z.z_isinstance Z.z_tuple Qbu (Qb 0)))) (Qao (Qki hr (YT Z.z_len (Qb 0)) Ql)))) (Qg (QO r_bl)) QI)
 (Qg (QO (Qem (QG (Qci Z) hr.m (Qd (Qt (Qb 0) Ql) (Qd (Qb 2) Qm))) (Qem (r_in (Qt (Qb 0) Ql) (Jm (Qd (Yt Z.g_LEFT) (Qd (Yt Z.g_RIGHT) Qm)))) (QgV (QG (Qci Z) hr.m (Qd (Qt (Qb 0) Ql) (Qd (Qb 1) Qm))))))))))
theorem Qd3(Z:Zk K mg ca):FnH P w K mg base ca "check_rows" 4 1 ZF:=Jj Z.u4 Yh λ_ _ _ _ _ _ _ hr=>(Qc (r_if (QbR hr (YT Z.z_len (Qb 0)) Ql) (Qg Qdm) QI)
 (Qc (QU 1 Yh.nd (YT Z.z_len (Qb 0)))
 (Qc (QU 2 Yh.nd (YT Z.z_len (Qt (Qb 0) Ql)))
 (Qc (r_if (QbR hr (Qb 2) Ql) (Qg Qdm) QI)
 (Qg (QbN rfl (YK (Qb 0)) (Q2 3 Yh.nd) (Qc (r_if (Qki hr (YT Z.z_len (Qb 3)) (Qb 2)) (Qg Qdm) QI)
 (Qg (r_if (Jg (ZC (Qmz rfl Z.z_all (QcF (YU (Nb:=["thing","states","signs"]) (no:=1) (cap:=[1,2]) (N:=Qbf) (sc:=Qe YH) rfl rfl (by decide +kernel)) rfl (YK (Qb 3)) (λcl C s3 H3 ex=>⟨(Q2 0 (show List.Nodup (["thing","states","signs"]:List Str) by decide +kernel)),Qkc,(QG (QfL Z) hr.m (Qd (Qb 0) (Qd (Qb 1) (Qd (Qb 2) Qm))))⟩))))) (Qg Qdm) QI)))))))))
theorem Qcj(Z:Zk K mg ca):MkH P w K mg base ca 11 "Machine" 5 2 Zo:=Qni Z.u5 Jw λ_ _ _ _ _ _ _ hr=>(Qc (QU 2 Jw.nd (Qis Z.z_tuple (QcF (YU (Nb:=["row"]) (no:=1) (cap:=[]) (N:=J5) (sc:=Qe ZW) rfl rfl (by decide +kernel)) rfl (YK (Qb 1)) (λcl C s3 H3 ex=>⟨(Q2 0 (show List.Nodup (["row"]:List Str) by decide +kernel)),Qkc,(Qis Z.z_tuple (Qb 0))⟩))))
 (Qc (Yq (QG (Qd3 Z) hr.m (Qd (Qb 2) Qm)))
 (Qg (Yr (Qb 0) (Qb 2) Z.a_table))))
theorem Qck(Z:Zk K mg ca):FnH P w K mg base ca "entry_at" 1 2 YV:=Jj Z.u6 QfG λ_ _ _ _ _ _ _ hr=>(Qg (QO (Qt (Qt (Zm (Qb 0) Z.a_table) (Qt (Qb 1) Ql)) (Qt (Qb 1) Ql))))
theorem J7(Z:Zk K mg ca):FnH P w K mg base ca "gram_behind" 1 2 ZI:=Jj Z.u7 Qcr λ_ _ _ _ _ _ _ hr=>(Qg (QO (Qka (QbR hr (Qt (Qb 0) Ql) (Yt Z.g_RIGHT)) (Qt (Qb 1) Ql) (Qt (Qb 1) Ql))))
theorem QaK(Z:Zk K mg ca):FnH P w K mg base ca "gram_ahead" 1 2 ZY:=Jj Z.u8 QdY λ_ _ _ _ _ _ _ hr=>(Qg (QO (Qka (QbR hr (Qt (Qb 0) Ql) (Yt Z.g_RIGHT)) (Qt (Qb 1) Ql) (Qt (Qb 1) Ql))))
theorem Jz(Z:Zk K mg ca):FnH P w K mg base ca "next_context" 2 3 Q3:=Jj Z.u9 YA λ_ _ _ _ _ _ _ hr=>(Qc (QU 3 YA.nd (Qt (QG (QaK Z) hr.m (Qd (Qb 0) (Qd (Qb 1) Qm))) Ql))
 (Qc (QU 4 YA.nd (Qap (Jm (Qd (Qt (Qb 0) Ql) Qm)) (Z3 (QG (J7 Z) hr.m (Qd (Qb 0) (Qd (Qb 1) Qm))) Zs (Jh (Qim Ql)))))
 (Qc (r_if (QbR hr (Qt (Qb 0) Ql) (Yt Z.g_RIGHT)) (Qg (QO (Jm (Qd (Qb 4) (Qd (Qt (Qb 0) Ql) (Qd (Qb 3) (Qd (Qb 2) Qm))))))) QI)
 (Qg (QO (Jm (Qd (Qb 2) (Qd (Qt (Qb 0) Ql) (Qd (Qb 3) (Qd (Qb 4) Qm))))))))))
theorem Qd4(Z:Zk K mg ca):MkH P w K mg base ca 14 "Grams" 1 1 YE:=Qni Z.u10 QdZ λ_ _ _ _ _ _ _ hr=>(Qg (Yr (Qb 0) (Qdy false) Z.a_by_seen))
theorem YJ(Z:Zk K mg ca):MtH P w K mg base ca 14 "beginning" 1 2 QJ:=QeR Z.u11 QaG λ_ _ _ _ _ _ _ hr=>(Qg (QO (QiN hr (Zm (Qb 0) Z.a_by_seen) (Qb 1) (Qbi Qm))))
theorem Qbg(Z:Zk K mg ca):MtH P w K mg base ca 14 "has" 2 2 Zw:=QeR Z.u12 QeP λ_ _ _ _ _ _ _ hr=>(Qg (QO (QpW hr (Qb 1) (Jo (YJ Z) hr.m (Qb 0) (Qd (Z3 (Qb 1) Zs (Jh (Qim Ql))) Qm)))))
theorem JA(Z:Zk K mg ca):MtH P w K mg base ca 14 "put_in" 3 2 Zq:=QeR Z.u13 Qce λ_ _ _ _ _ _ _ hr=>(Qg (r_if (Jg (ZC (Jo (Qbg Z) hr.m (Qb 0) (Qd (Qb 1) Qm)))) (Qg (Yq (JI (Qgi hr (Zm (Qb 0) Z.a_by_seen) (Z3 (Qb 1) Zs (Jh (Qim Ql))) (Qbi Qm)) (Qb 1)))) QI))
theorem Y5(Z:Zk K mg ca):MtH P w K mg base ca 14 "in_order" 1 1 Zt:=QeR Z.u14 ZT λ_ _ _ _ _ _ _ hr=>(Qc (QU 1 ZT.nd (Qbi Qm))
 (Qc (QbN rfl (QpU (Zm (Qb 0) Z.a_by_seen)) (Q2 2 ZT.nd) (Qg (Yq (Qks (Qb 1) (Qb 2)))))
 (Qg (QO (Qaw hr Z.z_sorted (Qb 1))))))
theorem Qcl(Z:Zk K mg ca):FnH P w K mg base ca "grams_of" 4 1 ZR:=Jj Z.u15 Qag λ_ _ _ _ _ _ _ hr=>(Qc (QU 1 Qag.nd (Qmp (Qd4 Z) hr.m))
 (Qc (QbN rfl (YK (Qb 0)) (Q2 2 Qag.nd) (Qg (Yq (Jo (JA Z) hr.m (Qb 1) (Qd (Qb 2) Qm)))))
 (Qg (QO (Qb 1)))))
theorem Zi(Z:Zk K mg ca):MtH P w K mg base ca 15 "ask_for" 1 2 QA:=QeR Z.u16 JV λ_ _ _ _ _ _ _ hr=>(Qg (r_if (QiK hr (Qb 1) (Zm (Qb 0) Z.a_contexts)) (Qc (Qff hr (Zm (Qb 0) Z.a_contexts) (Qb 1) r_bl)
 (Qg (Yq (JI (Zm (Qb 0) Z.a_pending) (Qb 1))))) QI))
theorem Qba(Z:Zk K mg ca):MkH P w K mg base ca 15 "Gathering" 5 3 Zu:=Qni Z.u17 Y3 λ_ _ _ _ _ _ _ hr=>(Qc (QU 3 Y3.nd (Qlv (Jm (Qd (Qlp Z.g_BLANK) Qm)) (Qb 2)))
 (Qc (Yr (Qb 0) (Qb 1) Z.a_machine)
 (Qc (Yr (Qb 0) (Qfj (YL (Yt Z.g_LEFT) (QG (Qcl Z) hr.m (Qd (Qbi (Qd (Qb 3) Qm)) Qm)) (YL (Yt Z.g_RIGHT) (QG (Qcl Z) hr.m (Qd (Qbi (Qd (Qb 3) Qm)) Qm)) QcM))) Z.a_sides)
 (Qc (Yr (Qb 0) (Qdy true) Z.a_contexts)
 (Qc (Yr (Qb 0) (Qbi Qm) Z.a_pending)
 (Qc (Yr (Qb 0) (Qfj (YL (Yt Z.g_LEFT) (Qdy false) (YL (Yt Z.g_RIGHT) (Qdy false) QcM))) Z.a_asking)
 (Qg (Yq (Jo (Zi Z) hr.m (Qb 0) (Qd (Jm (Qd (Qb 3) (Qd Ql (Qd (Qlp Z.g_BLANK) (Qd (Qb 3) Qm))))) Qm))))))))))
theorem JB(Z:Zk K mg ca):MtH P w K mg base ca 15 "put_gram" 4 3 Zg:=QeR Z.u18 Z0 λ_ _ _ _ _ _ _ hr=>(Qc (r_if (ZC (Jo (Qbg Z) hr.m (Zd (Zm (Qb 0) Z.a_sides) (Qb 1)) (Qd (Qb 2) Qm))) (Qg Qoq) QI)
 (Qc (Yq (Jo (JA Z) hr.m (Zd (Zm (Qb 0) Z.a_sides) (Qb 1)) (Qd (Qb 2) Qm)))
 (Qg (QbN rfl (YK (QiN hr (Zd (Zm (Qb 0) Z.a_asking) (Qb 1)) (Z3 (Qb 2) Zs (Jh (Qim Ql))) (Qbi Qm))) (Q2 3 Z0.nd) (Qg (Yq (Jo (Zi Z) hr.m (Qb 0) (Qd (QG (Jz Z) hr.m (Qd (QG (Qck Z) hr.m (Qd (Zm (Qb 0) Z.a_machine) (Qd (Qb 3) Qm))) (Qd (Qb 3) (Qd (Qb 2) Qm)))) Qm))))))))
theorem JX(Z:Zk K mg ca):MtH P w K mg base ca 15 "went_on" 5 1 QB:=QeR Z.u19 Qu λ_ _ _ _ _ _ _ hr=>(Qc (QU 1 Qu.nd (QpK (Zm (Qb 0) Z.a_pending)))
 (Qc (QU 2 Qu.nd (QG (Qck Z) hr.m (Qd (Zm (Qb 0) Z.a_machine) (Qd (Qb 1) Qm))))
 (Qc (r_if (QgX (Qb 2) J9) (Qg (QO r_bl)) QI)
 (Qc (QU 3 Qu.nd (Qt (Qb 2) Ql))
 (Qc (Yq (Jo (JB Z) hr.m (Qb 0) (Qd (QG (QeS Z) hr.m (Qd (Qb 3) Qm)) (Qd (QG (J7 Z) hr.m (Qd (Qb 2) (Qd (Qb 1) Qm))) Qm))))
 (Qc (QU 4 Qu.nd (Z3 (QG (QaK Z) hr.m (Qd (Qb 2) (Qd (Qb 1) Qm))) (Jh Ql) Zs))
 (Qc (Yq (JI (Qgi hr (Zd (Zm (Qb 0) Z.a_asking) (Qb 3)) (Qb 4) (Qbi Qm)) (Qb 1)))
 (Qc (QbN rfl (YK (Jo (YJ Z) hr.m (Zd (Zm (Qb 0) Z.a_sides) (Qb 3)) (Qd (Qb 4) Qm))) (Q2 5 Qu.nd) (Qg (Yq (Jo (Zi Z) hr.m (Qb 0) (Qd (QG (Jz Z) hr.m (Qd (Qb 2) (Qd (Qb 1) (Qd (Qb 5) Qm)))) Qm)))))
 (Qg (QO r_bl))))))))))
theorem QaL(Z:Zk K mg ca):MtH P w K mg base ca 15 "paper" 2 2 Zb:=QeR Z.u20 QaH λ_ _ _ _ _ _ _ hr=>(Qg (QO (Jm (Qd (Yt Z.g_WALL) (Qd (Qb 1) (Qd (Qfa (Y5 Z) hr.m (Zd (Zm (Qb 0) Z.a_sides) (Yt Z.g_LEFT))) (Qd (Qfa (Y5 Z) hr.m (Zd (Zm (Qb 0) Z.a_sides) (Yt Z.g_RIGHT))) (Qd (QiU hr rfl Z.z_sorted (Zm (Qb 0) Z.a_contexts)) Qm))))))))
theorem JT(Z:Zk K mg ca):FnH P w K mg base ca "wall_of" 7 3 Zr:=Jj Z.u21 QcY λ_ _ _ _ _ _ _ hr=>(Qc (r_if (Qms (Qb 1) Ql) (Qg (QmG Z.e_NoWidth hr.hd (Qd Yp Qm))) QI)
 (Qc (QU 3 QcY.nd (Qlk (Qba Z) hr.m (Qd (Qb 0) (Qd (Qb 1) Qm))))
 (Qc (Qic (Qin (YT Z.z_len (Zm (Qb 3) Z.a_pending)) Ql) (Qg (r_if (r_w (Qdl (Qin (Qav Z.z_len (Zm (Qb 3) Z.a_contexts)) (Qb 2)) (Qao (Jg (ZC (Qfa (JX Z) hr.m (Qb 3))))))) (Qg (QO J9)) QI)))
 (Qg (QO (Qka (QpJ (Qav Z.z_len (Zm (Qb 3) Z.a_contexts)) (Qb 2)) (Jo (QaL Z) hr.m (Qb 3) (Qd (Qb 1) Qm)) J9))))))
theorem QeT(Z:Zk K mg ca):FnH P w K mg base ca "_law_next" 1 2 Qaz:=Jj Z.u22 QaI λ_ _ _ _ _ _ _ hr=>(Qc (Qmo (Qb 1) Ql (Qap (Qt (Qb 1) Ql) Ql))
 (Qc (QU 2 QaI.nd Ql)
 (Qc (r_if (Qin (YT Z.z_len (Qb 0)) Ql) (Qg (QU 2 QaI.nd (Qt (Qb 0) (Qar (Qt (Qb 1) Ql) (YT Z.z_len (Qb 0)))))) QI)
 (Qc (QU 3 QaI.nd (Qar (Qkh (Qap (Qap (Qar (Qb 2) Ql) (Qkh (Qkh (Qt (Qb 1) Ql) (Qt (Qb 1) Ql)) Ql)) Ql) Ql) Ql))
 (Qg (QO (Qar (Qkh (Qb 3) (Qb 3)) Ql)))))))
theorem Qcm(Z:Zk K mg ca):∀n:Nat,FnH P w K mg base ca "_law_same" (1+n) 2 (Zv n)
 |0=>by obtain⟨f,fd,F,hm⟩:=Z.u23;exact⟨⟨f,fd,["_law_found","_law_due"],QmJ rfl,hm,F.kp,F.binds (ps:=["_law_found","_law_due"]) (λ_ _ _ _ _ _ us hl=>by obtain⟨_,_,rfl⟩:=L3.len2 hl;rfl)⟩,λ_ _ _=>rfl⟩
 |n+1=>by have ih:=Qcm Z n;obtain⟨f,fd,F,hm⟩:=Z.u23;exact⟨⟨f,fd,["_law_found","_law_due"],Qif F QjL rfl rfl (λcdv A outer s H E hr=>(Qc (r_if (ZC (Ys .dict Z.z_isinstance Z.z_dict QiF (Qb 1))) (Qc (r_if (r_w (Qdl (Jg (ZC (Ys .dict Z.z_isinstance Z.z_dict QiF (Qb 0)))) (Qao (Qki hr (YT Z.z_len (Qb 0)) (YT Z.z_len (Qb 1)))))) (Qg (QO r_bl)) QI)
 (Qg (QO (Qmz rfl Z.z_all (QcF (YU (Nb:=["_law_name","_law_found","_law_due"]) (no:=1) (cap:=[0,1]) (N:=Qd1) (sc:=Qe QaJ) rfl rfl (by decide +kernel)) rfl (YK (Qb 1)) (λcl C s3 H3 ex=>⟨(Q2 0 (show List.Nodup (["_law_name","_law_found","_law_due"]:List Str) by decide +kernel)),Qkc,(Qem (r_in (Qb 0) (Qb 1)) (QgV (QG ih hr (Qd (Qt (Qb 1) (Qb 0)) (Qd (Qt (Qb 2) (Qb 0)) Qm)))))⟩)))))) QI)
 (Qc (r_if (r_w (Qdl (ZC (Ys .list Z.z_isinstance Z.z_list Qfb (Qb 1))) (Qao (ZC (Ys .tuple Z.z_isinstance Z.z_tuple Qbu (Qb 1)))))) (Qc (r_if (r_w (Qh7 (ZC (Ys .list Z.z_isinstance Z.z_list Qfb (Qb 1))) (Qe8 (Jg (ZC (Ys .list Z.z_isinstance Z.z_list Qfb (Qb 0))))))) (Qg (QO r_bl)) QI)
 (Qc (r_if (r_w (Qdl (r_w (Qh7 (ZC (Ys .tuple Z.z_isinstance Z.z_tuple Qbu (Qb 1))) (Qe8 (Jg (ZC (Ys .tuple Z.z_isinstance Z.z_tuple Qbu (Qb 0))))))) (Qao (Qki hr (YT Z.z_len (Qb 0)) (YT Z.z_len (Qb 1)))))) (Qg (QO r_bl)) QI)
 (Qg (QO (Qmz rfl Z.z_all (QcF (YU (Nb:=["_law_one_here","_law_other"]) (no:=2) (cap:=[]) (N:=Qd1) (sc:=Qe QaJ) rfl rfl (by decide +kernel)) rfl (QpM Z.z_zip (Qb 0) (Qb 1)) (λcl C s3 H3 ex=>⟨(Qib rfl (Y8 (Q2 0 (show List.Nodup (["_law_one_here","_law_other"]:List Str) by decide +kernel)) (Y8 (Q2 1 (show List.Nodup (["_law_one_here","_law_other"]:List Str) by decide +kernel)) Qia))),Qkc,(QG ih hr (Qd (Qb 0) (Qd (Qb 1) Qm)))⟩))))))) QI)
 (Qc (r_if (ZC (Ys .str Z.z_isinstance Z.z_str Qlr (Qb 1))) (Qg (QO (Qem (Ys .str Z.z_isinstance Z.z_str Qlr (Qb 0)) (QgV (r_eq hr (Qb 0) (Qb 1)))))) QI)
 (Qg (QO (Qem (Ys .int Z.z_isinstance Z.z_int Qlq (Qb 0)) (Qem (Qoo (Ys .bool Z.z_isinstance Z.z_bool QiE (Qb 0))) (QgV (r_eq hr (Qb 0) (Qb 1))))))))))),hm,F.kp,F.binds (ps:=["_law_found","_law_due"]) (λ_ _ _ _ _ _ us hl=>by obtain⟨_,_,rfl⟩:=L3.len2 hl;rfl)⟩,Qdn _ _ _⟩
theorem Qho(Z:Zk K mg ca):FnH P w K mg base ca "_law_table" 2 4 Qb1:=Jj Z.u24 ZG λ_ _ _ _ _ _ _ hr=>(Qc (QU 4 ZG.nd (Qbi Qm))
 (Qc (QbN rfl (Qdo Z.z_range (Qb 2)) (Q2 5 ZG.nd) (Qc (QU 6 ZG.nd (Qbi Qm))
 (Qc (QbN rfl (Qdo Z.z_range (Qb 3)) (Q2 7 ZG.nd) (Qc (QU 8 ZG.nd (QG (QeT Z) hr.m (Qd (Qb 0) (Qd (Qb 1) Qm))))
 (Qc (QU 9 ZG.nd (Jm (Qd (Qar (Qaq (Qb 8) Ql) (Qb 3)) (Qd (Qt Yp (Qar (Qaq (Qb 8) Ql) Ql)) (Qd (Qar (Qaq (Qb 8) Ql) (Qb 2)) Qm)))))
 (Qc (r_if (QbR hr (Qar (Qb 8) Ql) Ql) (Qg (QU 9 ZG.nd J9)) QI)
 (Qg (Yq (JI (Qb 6) (Qb 9))))))))
 (Qg (Yq (JI (Qb 4) (Qb 6)))))))
 (Qg (QO (Qb 4)))))
theorem QfM(Z:Zk K mg ca):FnH P w K mg base ca "_law_behind" 1 4 JN:=Jj Z.u25 Za λ_ _ _ _ _ _ _ hr=>(Qc (Qos (Qb 1) (Qib rfl (Y8 (Q2 4 Za.nd) (Y8 (Q2 5 Za.nd) (Y8 (Q2 6 Za.nd) (Y8 (Q2 7 Za.nd) Qia))))))
 (Qc (QU 8 Za.nd (Qt (Qt (Qb 0) (Qb 5)) (Qb 6)))
 (Qc (r_if (QgX (Qb 8) J9) (Qg (QO J9)) QI)
 (Qc (r_if (QbR hr (Qt (Qb 8) Ql) Yp) (Qc (QU 9 Za.nd (Qap (Jm (Qd (Qt (Qb 8) Ql) Qm)) (Z3 (Qb 4) Zs (Jh (Qil (YT Z.z_len (Qb 4)) Ql)))))
 (Qg (QO (Jm (Qd Yp (Qd (Qb 4) (Qd (Qi2 (QcF (YU (Nb:=["_law_gram","_law_inner","_law_entry","_law_right"]) (no:=1) (cap:=[9,8,7]) (N:=Qa9) (sc:=Qe Y4) rfl rfl (by decide +kernel)) rfl (QoT (Qb 3)) (λcl C s3 H3 ex=>⟨(Q2 0 (show List.Nodup (["_law_gram","_law_inner","_law_entry","_law_right"]:List Str) by decide +kernel)),(Qov (QbR hr (Z3 (Qb 0) Zs (Jh (Qil (YT Z.z_len (Qb 0)) Ql))) (Z3 (Qb 3) (Jh Ql) Zs))),(Jm (Qd (Qb 1) (Qd (Qt (Qb 2) Ql) (Qd (Qt (Qb 3) Ql) (Qd (Qb 0) Qm)))))⟩))) Qm))))))) QI)
 (Qc (QU 9 Za.nd (Qap (Jm (Qd (Qt (Qb 8) Ql) Qm)) (Z3 (Qb 7) Zs (Jh (Qil (YT Z.z_len (Qb 7)) Ql)))))
 (Qg (QO (Jm (Qd Yp (Qd (Qb 7) (Qd (Qi2 (QcF (YU (Nb:=["_law_gram","_law_inner","_law_entry","_law_left"]) (no:=1) (cap:=[9,8,4]) (N:=Qa9) (sc:=Qe Y4) rfl rfl (by decide +kernel)) rfl (QoT (Qb 2)) (λcl C s3 H3 ex=>⟨(Q2 0 (show List.Nodup (["_law_gram","_law_inner","_law_entry","_law_left"]:List Str) by decide +kernel)),(Qov (QbR hr (Z3 (Qb 0) Zs (Jh (Qil (YT Z.z_len (Qb 0)) Ql))) (Z3 (Qb 3) (Jh Ql) Zs))),(Jm (Qd (Qb 0) (Qd (Qt (Qb 2) Ql) (Qd (Qt (Qb 3) Ql) (Qd (Qb 1) Qm)))))⟩))) Qm)))))))))))
theorem Qhp(Z:Zk K mg ca):FnH P w K mg base ca "_law_least" 2 2 Ju:=Jj Z.u26 QY λ_ _ _ _ _ _ _ hr=>(Qc (QU 2 QY.nd (Qlv (Jm (Qd Ql Qm)) (Qb 1)))
 (Qc (QU 3 QY.nd (Qfj (YL Yp (Qfk false hr (YL (Qb 2) r_bl QcM)) (YL Yp (Qfk false hr (YL (Qb 2) r_bl QcM)) (YL Yp (Qfk true hr (YL (Jm (Qd (Qb 2) (Qd Ql (Qd Ql (Qd (Qb 2) Qm))))) r_bl QcM)) QcM)))))
 (Qc (QU 4 QY.nd Ql)
 (Qc (Qic (r_w (Qh7 (Qms (Qb 4) (Qap (Qap (Qav Z.z_len (Zd (Qb 3) Yp)) (Qav Z.z_len (Zd (Qb 3) Yp))) (Qav Z.z_len (Zd (Qb 3) Yp)))) (Qe8 (Qms (Qav Z.z_len (Zd (Qb 3) Yp)) Ql)))) (Qc (QU 4 QY.nd (Qap (Qap (Qav Z.z_len (Zd (Qb 3) Yp)) (Qav Z.z_len (Zd (Qb 3) Yp))) (Qav Z.z_len (Zd (Qb 3) Yp))))
 (Qg (QbN rfl (YK (QdA rfl Z.z_list (Zd (Qb 3) Yp))) (Q2 5 QY.nd) (Qc (QU 6 QY.nd (QG (QfM Z) hr.m (Qd (Qb 0) (Qd (Qb 5) (Qd (Zd (Qb 3) Yp) (Qd (Zd (Qb 3) Yp) Qm))))))
 (Qc (r_if (QgX (Qb 6) J9) (Qg (QO J9)) QI)
 (Qc (Qos (Qb 6) (Qib rfl (Y8 (Q2 7 QY.nd) (Y8 (Q2 8 QY.nd) (Y8 (Q2 9 QY.nd) Qia)))))
 (Qc (Qff hr (Zd (Qb 3) (Qb 7)) (Qb 8) r_bl)
 (Qg (QbN rfl (YK (Qb 9)) (Q2 10 QY.nd) (Qg (Qff hr (Zd (Qb 3) Yp) (Qb 10) r_bl))))))))))))
 (Qg (QO (Jm (Qd Yp (Qd (Qb 1) (Qd (Qaw hr Z.z_sorted (QdA rfl Z.z_list (Zd (Qb 3) Yp))) (Qd (Qaw hr Z.z_sorted (QdA rfl Z.z_list (Zd (Qb 3) Yp))) (Qd (Qaw hr Z.z_sorted (QdA rfl Z.z_list (Zd (Qb 3) Yp))) Qm))))))))))))
theorem QeU(Z:Zk K mg ca):FnH P w K mg base ca "_law_refused" 8 2 Qab:=Jj Z.u27 YI λ_ _ _ _ _ _ _ hr=>(Qc (QU 2 YI.nd J9)
 (Qc (QmI 3 YI.nd Z.t_TapeError (Qg (Yq (QG (JT Z) hr.m (Qd (Qb 0) (Qd (Qb 1) (Qd Ql Qm)))))) (λa=>(Qg (QU 2 YI.nd (Qb 3)))))
 (Qc (r_if (r_w (Qdl (ZC (Qkx Z.z_isinstance (Qfl Z.x_NoMachine (Qfl Z.x_NoMove (Qfl Z.x_NoShape (QoW Z.x_NoText)))) (Qb 2))) (Qao (Jg (ZC (QmE Z.z_isinstance Z.z_ValueError Z.x_ValueError (Qb 2))))))) (Qg (QO r_bl)) QI)
 (Qg (QO (QmD Z.z_isinstance Z.x_NoWidth (Qb 2)))))))
theorem QeV(Z:Zk K mg ca):FnH P w K mg base ca "_law_fits" 8 4 JO:=Jj Z.u28 QeQ λ_ _ _ _ _ _ _ hr=>(Qc (QU 4 QeQ.nd (QG (JT Z) hr.m (Qd (Qb 0) (Qd (Qb 1) (Qd (Qb 2) Qm)))))
 (Qc (r_if (r_w (Qdl (QgX (Qb 3) J9) (Qao (Qin (YT Z.z_len (Qt (Qb 3) Ql)) (Qb 2))))) (Qg (QO (r_is (Qb 4) J9))) QI)
 (Qg (QO (QG (Qcm Z 6) hr.m (Qd (Qb 4) (Qd (Qb 3) Qm)))))))
theorem QkZ(Z:Zk K mg ca):FnH P w K mg base ca "_law_one" 9 2 QaW:=Jj Z.u29 ZL λ_ _ _ _ _ _ _ hr=>(Qc (QU 2 ZL.nd (QG (QeT Z) hr.m (Qd (Qb 0) (Qd (Qb 1) Qm))))
 (Qc (QU 3 ZL.nd (Qap Ql (Qar (Qb 2) Ql)))
 (Qc (QU 4 ZL.nd Ql)
 (Qc (r_if (QbR hr (Qb 3) Ql) (Qg (QU 4 ZL.nd (Qap Ql (Qar (Qaq (Qb 2) Ql) Ql)))) QI)
 (Qc (QU 5 ZL.nd (QG (Qho Z) hr.m (Qd (Qb 0) (Qd (Qb 1) (Qd (Qap Ql (Qar (Qaq (Qb 2) Ql) Ql)) (Qd (Qb 3) Qm))))))
 (Qc (QU 6 ZL.nd (Qlk (Qcj Z) hr.m (Qd (Qb 5) Qm)))
 (Qc (QU 7 ZL.nd (QG (Qhp Z) hr.m (Qd (Qb 5) (Qd (Qb 4) Qm))))
 (Qc (r_if (Jg (ZC (QG (QeV Z) hr.m (Qd (Qb 6) (Qd (Qb 4) (Qd (Qt (Qbi (Qd Ql (Qd Ql (Qd (Qar (Qaq (Qb 2) Ql) Ql) (Qd Ql Qm))))) (Qar (Qaq (Qb 2) Ql) Ql)) (Qd (Qb 7) Qm))))))) (Qg (QO r_bl)) QI)
 (Qc (r_if (Jg (ZC (QG (QeU Z) hr.m (Qd (Qb 6) (Qd (Qim (Qar (Qaq (Qb 2) Ql) Ql)) Qm))))) (Qg (QO r_bl)) QI)
 (Qc (r_if (r_w (Qdl (QgX (Qb 7) J9) (Qao (Qin (YT Z.z_len (Qt (Qb 7) Ql)) Ql)))) (Qg (QO r_bl)) QI)
 (Qc (QU 8 ZL.nd (YT Z.z_len (Qt (Qb 7) Ql)))
 (Qc (QU 9 ZL.nd (QG (JT Z) hr.m (Qd (Qb 6) (Qd (Qb 4) (Qd (Qb 8) Qm)))))
 (Qc (r_if (r_w (Qdl (Jg (ZC (QG (Qcm Z 6) hr.m (Qd (Qb 9) (Qd (Qb 7) Qm))))) (Qao (Qkj (QG (JT Z) hr.m (Qd (Qb 6) (Qd (Qb 4) (Qd (Qil (Qb 8) Ql) Qm)))) J9)))) (Qg (QO r_bl)) QI)
 (Qc (QbN rfl (YK (Z3 (Qb 9) (Jh Ql) Zs)) (Q2 10 ZL.nd) (Qg (Yq (JI (Qb 10) J9))))
 (Qg (QO (QG (QeV Z) hr.m (Qd (Qb 6) (Qd (Qb 4) (Qd (Qb 8) (Qd (Qb 7) Qm)))))))))))))))))))))
theorem Qpd(Z:Zk K mg ca){f:Addr}{fd:FuncData}(F:Fun K "law" "law" QkY f fd):FnOk P w K mg base (CXW P w ca) 10 f fd ["_law_script"] (spM K ca 1 Qky):=Qif F QjO rfl rfl (λcdv A outer s H E hr=>(Qc (QU 1 QjO.nd (Qbi (Qd Ql Qm)))
 (Qc (QbN rfl (Qdo Z.z_range (Qap Ql (QoL rfl Z.z_min Ql (Qaq (YT Z.z_len (Qb 0)) Ql)))) (Q2 2 QjO.nd) (Qg (r_if (Jg (ZC (QG (QkZ Z) hr.m (Qd (Qb 0) (Qd (Qb 1) Qm))))) (Qg (QO r_bl)) QI)))
 (Qg (QO r_bl)))))
end
end V
namespace V
open PySem PySem.Spec PyProof.Rows L2 L3
def caOf(l:List Nat)(n:Nat):Addr:=l.getD n 0
def FA(K:Frag)(x:Str)(st:Stmt):Prop:=∃(f:Addr)(oc kV dc pm cd ct:Value)(od an:Option Addr)(sl:Array (Option Value)),nsIn K mainGlobals x=some (some (.ref f))/\K.lookup f=some ⟨oc,od,.func (fnOf x x (Y6 st) (Z1 st) (Qe st) .none kV dc pm an cd ct),sl⟩/\codeIn K cd x=true/\keepIn K (.ref f)=true
theorem fa_mk{K:Frag}{x:Str}{st:Stmt}{f:Addr}{oc kV dc pm cd ct:Value}{od an:Option Addr}{sl:Array (Option Value)}(a:nsIn K mainGlobals x=some (some (.ref f)))(l:K.lookup f=some ⟨oc,od,.func (fnOf x x (Y6 st) (Z1 st) (Qe st) .none kV dc pm an cd ct),sl⟩)(d:codeIn K cd x=true)(k:keepIn K (.ref f)=true):FA K x st:=⟨f,oc,kV,dc,pm,cd,ct,od,an,sl,a,l,d,k⟩
theorem FA.u{K:Frag}{h:Heap}{mg:SOV}{x:Str}{st:Stmt}(a:FA K x st)(X:K.In h)(G:h.Ns mainGlobals mg):UF K mg x st:=by obtain⟨f,oc,kV,dc,pm,cd,ct,od,an,sl,a,l,d,k⟩:=a;exact⟨f,_,QhO l d k,Tv X G a⟩
def FM(K:Frag)(C:Addr)(x q:Str)(st:Stmt):Prop:=∃(f:Addr)(oc kV dc pm cd ct:Value)(od an:Option Addr)(sl:Array (Option Value)),findIn K (.ref C) x=some (some (.ref f))/\K.lookup f=some ⟨oc,od,.func (fnOf x q (Y6 st) (Z1 st) (Qe st) .none kV dc pm an cd ct),sl⟩/\codeIn K cd q=true/\keepIn K (.ref f)=true/\isFn K (.ref f)=true
theorem fm_mk{K:Frag}{C:Addr}{x q:Str}{st:Stmt}{f:Addr}{oc kV dc pm cd ct:Value}{od an:Option Addr}{sl:Array (Option Value)}(a:findIn K (.ref C) x=some (some (.ref f)))(l:K.lookup f=some ⟨oc,od,.func (fnOf x q (Y6 st) (Z1 st) (Qe st) .none kV dc pm an cd ct),sl⟩)(d:codeIn K cd q=true)(k:keepIn K (.ref f)=true)(i:isFn K (.ref f)=true):FM K C x q st:=⟨f,oc,kV,dc,pm,cd,ct,od,an,sl,a,l,d,k,i⟩
theorem FM.m{K:Frag}{C:Addr}{x q:Str}{st:Stmt}(h:FM K C x q st)(w:clsB K C=true):UM K C x q st:=by obtain⟨f,oc,kV,dc,pm,cd,ct,od,an,sl,a,l,d,k,i⟩:=h;exact⟨f,_,QhO l d k,⟨a,i,k⟩,Qlo w⟩
theorem FM.i{K:Frag}{h:Heap}{mg:SOV}{C:Addr}{q cn:Str}{st:Stmt}(u:FM K C "__init__" q st)(X:K.In h)(G:h.Ns mainGlobals mg)(m:makesIn K C=true)(qk:keepIn K (.ref C)=true)(c:nsIn K mainGlobals cn=some (some (.ref C))):UI K mg C q cn st:=by obtain⟨f,oc,kV,dc,pm,cd,ct,od,an,sl,a,l,d,k,i⟩:=u;exact⟨f,_,QhO l d k,⟨m,a,i,qk⟩,Tv X G c⟩
theorem z_mk{K:Frag}{h:Heap}{mg:SOV}(X:K.In h)(G:h.Ns mainGlobals mg){C0 C1 C7 C8 C9 C10 C11 C14 C15:Addr}{og_BLANK:_}{og_LEFT:_}{og_RIGHT:_}{og_WALL:_}(c0:nsIn K mainGlobals "TapeError"=some (some (.ref C0)))(c1:nsIn K mainGlobals "NoMachine"=some (some (.ref C1)))(c7:nsIn K mainGlobals "NoShape"=some (some (.ref C7)))(c8:nsIn K mainGlobals "NoMove"=some (some (.ref C8)))(c9:nsIn K mainGlobals "NoWidth"=some (some (.ref C9)))(c10:nsIn K mainGlobals "NoText"=some (some (.ref C10)))(c11:nsIn K mainGlobals "Machine"=some (some (.ref C11)))(c14:nsIn K mainGlobals "Grams"=some (some (.ref C14)))(c15:nsIn K mainGlobals "Gathering"=some (some (.ref C15)))(a1:FA K "is_whole" Qa2)(a2:FA K "is_below" Qa3)(a3:FA K "other_way" Qae)(a4:FA K "is_entry" Qa4)(a5:FA K "check_rows" YH)(a6:FA K "entry_at" Qa5)(a7:FA K "gram_behind" Je)(a8:FA K "gram_ahead" Jx)(a9:FA K "next_context" YO)(a10:FA K "grams_of" Qa7)(a11:FA K "wall_of" Qcf)(a12:FA K "_law_next" Qd0)(a13:FA K "_law_same" QaJ)(a14:FA K "_law_table" Qcg)(a15:FA K "_law_behind" Y4)(a16:FA K "_law_least" Qch)(a17:FA K "_law_refused" Qaj)(a18:FA K "_law_fits" Qd2)(a19:FA K "_law_one" QfJ)(a20:FA K "law" QkY)(a21:FM K C11 "__init__" "Machine.__init__" ZW)(m21:makesIn K C11=true)(q21:keepIn K (.ref C11)=true)(a22:FM K C14 "__init__" "Grams.__init__" Jy)(m22:makesIn K C14=true)(q22:keepIn K (.ref C14)=true)(a23:FM K C14 "beginning" "Grams.beginning" ZS)(w14:clsB K C14=true)(a24:FM K C14 "has" "Grams.has" Qaf)(a25:FM K C14 "put_in" "Grams.put_in" YQ)(a26:FM K C14 "in_order" "Grams.in_order" Z8)(a27:FM K C15 "ask_for" "Gathering.ask_for" Zz)(w15:clsB K C15=true)(a28:FM K C15 "__init__" "Gathering.__init__" Z9)(m28:makesIn K C15=true)(q28:keepIn K (.ref C15)=true)(a29:FM K C15 "put_gram" "Gathering.put_gram" Zh)(a30:FM K C15 "went_on" "Gathering.went_on" ZA)(a31:FM K C15 "paper" "Gathering.paper" ZU)(nz_ValueError:nsIn K mainGlobals "ValueError"=some none)(nz_all:nsIn K mainGlobals "all"=some none)(nz_bool:nsIn K mainGlobals "bool"=some none)(nz_dict:nsIn K mainGlobals "dict"=some none)(nz_int:nsIn K mainGlobals "int"=some none)(nz_isinstance:nsIn K mainGlobals "isinstance"=some none)(nz_len:nsIn K mainGlobals "len"=some none)(nz_list:nsIn K mainGlobals "list"=some none)(nz_min:nsIn K mainGlobals "min"=some none)(nz_range:nsIn K mainGlobals "range"=some none)(nz_sorted:nsIn K mainGlobals "sorted"=some none)(nz_str:nsIn K mainGlobals "str"=some none)(nz_tuple:nsIn K mainGlobals "tuple"=some none)(nz_zip:nsIn K mainGlobals "zip"=some none)(ng_BLANK:nsIn K mainGlobals "BLANK"=some (some (.int 0 og_BLANK)))(ng_LEFT:nsIn K mainGlobals "LEFT"=some (some (.str "l" og_LEFT)))(ng_RIGHT:nsIn K mainGlobals "RIGHT"=some (some (.str "r" og_RIGHT)))(ng_WALL:nsIn K mainGlobals "WALL"=some (some (.str "wall" og_WALL)))(nt_TapeError:catB K (caOf [C0,C1,0,0,0,0,0,C7,C8,C9,C10,C11,0,0,C14,C15]) C0 [0,1,7,8,9,10] []=true)(nx_NoMachine:isxB K (caOf [C0,C1,0,0,0,0,0,C7,C8,C9,C10,C11,0,0,C14,C15]) (.ref C1) [0,1,7,8,9,10] [1]=true)(nx_NoMove:isxB K (caOf [C0,C1,0,0,0,0,0,C7,C8,C9,C10,C11,0,0,C14,C15]) (.ref C8) [0,1,7,8,9,10] [8]=true)(nx_NoShape:isxB K (caOf [C0,C1,0,0,0,0,0,C7,C8,C9,C10,C11,0,0,C14,C15]) (.ref C7) [0,1,7,8,9,10] [7]=true)(nx_NoText:isxB K (caOf [C0,C1,0,0,0,0,0,C7,C8,C9,C10,C11,0,0,C14,C15]) (.ref C10) [0,1,7,8,9,10] [10]=true)(nx_NoWidth:isxB K (caOf [C0,C1,0,0,0,0,0,C7,C8,C9,C10,C11,0,0,C14,C15]) (.ref C9) [0,1,7,8,9,10] [9]=true)(nx_ValueError:isxB K (caOf [C0,C1,0,0,0,0,0,C7,C8,C9,C10,C11,0,0,C14,C15]) (.type "ValueError") [0,1,7,8,9,10] [0,1,7,8,9,10]=true)(ne_NoWidth:excIn K C9 bmV "ValueError.__new__"=true)(na_asking:fldB K (caOf [C0,C1,0,0,0,0,0,C7,C8,C9,C10,C11,0,0,C14,C15]) [15] "asking"=true)(na_by_seen:fldB K (caOf [C0,C1,0,0,0,0,0,C7,C8,C9,C10,C11,0,0,C14,C15]) [14] "by_seen"=true)(na_contexts:fldB K (caOf [C0,C1,0,0,0,0,0,C7,C8,C9,C10,C11,0,0,C14,C15]) [15] "contexts"=true)(na_machine:fldB K (caOf [C0,C1,0,0,0,0,0,C7,C8,C9,C10,C11,0,0,C14,C15]) [15] "machine"=true)(na_pending:fldB K (caOf [C0,C1,0,0,0,0,0,C7,C8,C9,C10,C11,0,0,C14,C15]) [15] "pending"=true)(na_sides:fldB K (caOf [C0,C1,0,0,0,0,0,C7,C8,C9,C10,C11,0,0,C14,C15]) [15] "sides"=true)(na_table:fldB K (caOf [C0,C1,0,0,0,0,0,C7,C8,C9,C10,C11,0,0,C14,C15]) [11] "table"=true):Zk K mg (caOf [C0,C1,0,0,0,0,0,C7,C8,C9,C10,C11,0,0,C14,C15]):=⟨UV X G nz_ValueError,UV X G nz_all,UV X G nz_bool,UV X G nz_dict,UV X G nz_int,UV X G nz_isinstance,UV X G nz_len,UV X G nz_list,UV X G nz_min,UV X G nz_range,UV X G nz_sorted,UV X G nz_str,UV X G nz_tuple,UV X G nz_zip,⟨_,Tv X G ng_BLANK⟩,⟨_,Tv X G ng_LEFT⟩,⟨_,Tv X G ng_RIGHT⟩,⟨_,Tv X G ng_WALL⟩,⟨Tv X G c0,QoE nt_TapeError⟩,⟨Tv X G c1,QcI nx_NoMachine⟩,⟨Tv X G c8,QcI nx_NoMove⟩,⟨Tv X G c7,QcI nx_NoShape⟩,⟨Tv X G c10,QcI nx_NoText⟩,⟨Tv X G c9,QcI nx_NoWidth⟩,⟨Qdu,QcI nx_ValueError⟩,⟨Tv X G c9,ne_NoWidth⟩,QbT na_asking,QbT na_by_seen,QbT na_contexts,QbT na_machine,QbT na_pending,QbT na_sides,QbT na_table,a1.u X G,a2.u X G,a3.u X G,a4.u X G,a5.u X G,a21.i X G m21 q21 c11,a6.u X G,a7.u X G,a8.u X G,a9.u X G,a22.i X G m22 q22 c14,a23.m w14,a24.m w14,a25.m w14,a26.m w14,a10.u X G,a27.m w15,a28.i X G m28 q28 c15,a29.m w15,a30.m w15,a31.m w15,a11.u X G,a12.u X G,a13.u X G,a14.u X G,a15.u X G,a16.u X G,a17.u X G,a18.u X G,a19.u X G,a20.u X G⟩
theorem walk{l:PySem.W.OpenLaw}{p:Program}{loose:List Str}{XP:SOV->Heap->Prop}{YP:World->Heap->Prop}{d:DefRec}{K:Params->Frag}(C:List Nat)(hn:l.most=some 63)(hdf:d.params.defaults=[])(hd:d.name ="law")(hY:∀(w:World) (h:Heap),YP w h->(K w.params).In h)(F:∀(w:World) (mg:SOV) (h:Heap),(K w.params).In h->h.Ns mainGlobals mg->Zk (K w.params) mg (caOf C))(M:∀ns:List Int,ns.length<=63->∃g',Qky [.fl (ns.map D.int)] []=.ok (.bl true) g'):PySem.W.WalkO p loose XP YP l.row.toRowW d [] (λf vs=>PySem.call f vs):=by
 refine L2.walk_of (n:=63) (k:=10) (x:="_law_script") (CX:=λw=>CXW l.prog w (caOf C)) (sp:=λw=>spM (K w.params) (caOf C) 1 Qky) hn (by decide) hdf ⟨rfl,by decide,by decide⟩ hY (λw mg fa h KX G hmg=>?_) (λw H a ns hl hO hS=>QoF hO hS (M ns hl)) (λw H s e s' z=>?_)
 ·have Z:=F w mg h KX G;obtain⟨f,fd,Fu,hm⟩:=Z.u30;rw[hd]at hmg;have e:=hmg.symm.trans hm;cases e;refine⟨fd,λs u=>?_,λbase _ _=>Qpd Z Fu⟩;obtain⟨oc,od,kV,doc,pm,an,cdv,ct,osl,rfl,lk,hcd⟩:=Fu.ex;exact .of_eq rfl
 ·obtain⟨_,_,_,_,_,_,_,_,_,_,z⟩:=z;exact z
end V
namespace V
open PySem PySem.W PySem.W.X PySem.Spec PyProof.Rows
theorem walkX_of{as:List Addr}{K:Params->Frag}{n t:Nat}{q:Program}{loose:List Str}{XP:SOV->Heap->Prop}{r:RowW}{d:DefRec}{kwd:List (Str×PySem.Expr)}{run:Value->List Value->Sem Value}(e:∀P,as=(K P).map (·.1))(h:WalkO q loose XP (InK K) r d kwd run):WalkX q loose XP (obsZ as) (valZ K n t) r d kwd run:=λw s₀ s₁ mg mb G y a o pm cd doc dV kV h1 h2 h3 h4 h5 h6 args vals as' L p1 p2 p3 p4 p5=>
  h w s₀ s₁ mg mb G (InK.keeps w _ _ (z_facts e y).2.1 L.keeps) a o pm cd doc dV kV h1 h2 h3 h4 h5 h6 args vals as' p1 p2 p3 p4 p5
end V
noncomputable def PySem.W.Fast.tw487350236433790168 : PySem.Program := PySem.Challenge.pw_tapeproof_k50_made_least
theorem PySem.W.Fast.te487350236433790168 : PySem.Challenge.pw_tapeproof_k50_made_least=PySem.W.Fast.tw487350236433790168 := rfl
namespace PySem.W.Fast
def tw8480142141929893501:=()
def tw7616411896595152943:=()
def tw3235330842224576732:=()
def tw10037636839185446426:=()
def tw14709541027826787600:=()
def tw5383265152142908140:=()
def tw17808963715829908138:=()
def tw6080840374616579550:=()
def tw12065301469184760565:=()
def tw17336743004623640148:=()
def tw9290084760744592725:=()
def tw11343950827887838847:=()
def tw11647550326515831985:=()
def tw4395712480728409157:=()
def tw5346619765337699252:=()
def tw14266843152200401871:=()
def tw11464627254130823952:=()
def tw413080407333081067:=()
def tw18139288306227644473:=()
def tw9035316172903910301:=()
def tw13584149298700507344:=()
def tw18138211397443187292:=()
def tw3039394016136105326:=()
def tw11180310014617356974:=()
def tw2004989524066638290:=()
def tw12865694873764677843:=()
def tw12591319335351004445:=()
def tw8242067328128177561:=()
def tw6383666329231112809:=()
def tw964482785869280573:=()
def tw17305648149087079588:=()
def tw11751283444506586054:=()
def tw10560912090147619686:=()
def tw7794799895300080290:=()
def tw15500464009875514859:=()
def tw10695810129181927743:=()
def tw6916258823904316058:=()
def tw5636792952886861256:=()
def tw18328205769374807771:=()
def tw5152963200121441038:=()
def tw7126129634917167259:=()
def tw6247126958075318358:=()
def tw5799561920088010303:=()
def tw5818572219766594175:=()
def tw12095452038525184242:=()
def tw18044241685958442069:=()
def tw16760303224822927175:=()
def tw8771740019474710820:=()
def tw11889702962028463206:=()
def tw1329648716247761409:=()
def tw4620695114496103506:=()
def tw8128734407553682637:=()
def tw9327319779361911768:=()
def tw16567930796563179627:=()
def tw14345624442019117198:=()
def tw2094644016753940248:=()
def tw10591828705289345817:=()
def tw2198177405326283360:=()
def tw2169499250331401898:=()
def tw9545312464489916588:=()
def tw1025647001695307242:=()
def tw18255503900569341307:=()
def tw14536189216134189957:=()
def tw15055011690773754821:=()
def tw2111846934790356154:=()
def tw12660420475507434113:=()
def tw16943779214356770578:=()
def tw17957783641380600163:=()
def tw16804493608903783908:=()
def tw16914594106551134483:=()
def tw1922763406923309796:=()
def tw7341644864934828009:=()
def tw17953667190735858256:=()
def tw8152606830665745293:=()
def tw1235037991276113657:=()
def tw6887073443406498819:=()
def tw10173214915200933470:=()
def tw2420053059011099238:=()
def tw9021870833471810651:=()
def tw13215808842633728424:=()
def tw11045397757444691578:=()
def tw12322868048754676139:=()
def tw6443908816409365592:=()
def tw16802984721062924648:=()
def tw15544139671625626446:=()
def tw8358859983501908018:=()
def tw10416840483448305333:=()
def tw5335973040825413819:=()
def tw8051362262411442888:=()
def tw18263295308392582374:=()
def tw6335645642879451758:=()
def tw12482905867025394482:=()
def tw18047190776608194885:=()
def tw3100372205556119770:=()
def tw23420126568981272:=()
def tw7593969796165982057:=()
def tw3572413564663359294:=()
def tw14310346131978158135:=()
def tw3093145055602126587:=()
def tw1977736048337186303:=()
def tw321925500166076043:=()
def tw12958270335811122984:=()
def tw9743539287935508368:=()
def tw767884766427721796:=()
def tw11452597759572932251:=()
end PySem.W.Fast
open PySem PySem.W PyProof.Rows
set_option maxRecDepth 100000 in
set_option maxHeartbeats 0 in
theorem PySem.Challenge.cw_tapeproof_k50_made_least_holds : PySem.Challenge.rw_tapeproof_k50_made_least.Holds := by
  w_on; o_law; z_head; (case hw=>w_witness2)
  k_fill
  refine V.walkX_of (fun P=>?E) (V.walk (l:=PySem.Challenge.rw_tapeproof_k50_made_least) [24,37,0,0,0,0,0,49,61,73,92,142,0,0,219,275] rfl rfl rfl (fun w h Y=>Y) ?F L3.law_true)
  case E=>kernel_rfl
  case F =>
    intro w mg h KX G
    refine' V.z_mk KX G ?_ ?_ ?_ ?_ ?_ ?_ ?_ ?_ ?_ ?_ ?_ ?_ ?_ ?_ ?_ ?_ ?_ ?_ ?_ ?_ ?_ ?_ ?_ ?_ ?_ ?_ ?_ ?_ ?_ ?_ ?_ ?_ ?_ ?_ ?_ ?_ ?_ ?_ ?_ ?_ ?_ ?_ ?_ ?_ ?_ ?_ ?_ ?_ ?_ ?_ ?_ ?_ ?_ ?_ ?_ ?_ ?_ ?_ ?_ ?_ ?_ ?_ ?_ ?_ ?_ ?_ ?_ ?_ ?_ ?_ ?_ ?_ ?_ ?_ ?_ ?_ ?_ ?_ ?_ ?_ ?_
    rotate_right 81
    iterate 9 (focus k_is)
    iterate 20 (focus (refine' V.fa_mk ?_ ?_ ?_ ?_; rotate_right 4; iterate 4 focus k_is))
    iterate 1 (focus (refine' V.fm_mk ?_ ?_ ?_ ?_ ?_; rotate_right 5; iterate 5 focus k_is))
    iterate 2 (focus k_is)
    iterate 1 (focus (refine' V.fm_mk ?_ ?_ ?_ ?_ ?_; rotate_right 5; iterate 5 focus k_is))
    iterate 2 (focus k_is)
    iterate 1 (focus (refine' V.fm_mk ?_ ?_ ?_ ?_ ?_; rotate_right 5; iterate 5 focus k_is))
    iterate 1 (focus kernel_rfl)
    iterate 4 (focus (refine' V.fm_mk ?_ ?_ ?_ ?_ ?_; rotate_right 5; iterate 5 focus k_is))
    iterate 1 (focus kernel_rfl)
    iterate 1 (focus (refine' V.fm_mk ?_ ?_ ?_ ?_ ?_; rotate_right 5; iterate 5 focus k_is))
    iterate 2 (focus k_is)
    iterate 3 (focus (refine' V.fm_mk ?_ ?_ ?_ ?_ ?_; rotate_right 5; iterate 5 focus k_is))
    iterate 18 (focus k_is)
    iterate 7 (focus kernel_rfl)
    iterate 1 (focus k_exc)
    iterate 7 (focus kernel_rfl)
