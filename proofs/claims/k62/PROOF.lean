import PyProof.Rows.All
import Wide.All
import OpenK.AllK
import Wide.FinOn
import Lean
import PyProof.EqAt
import PyProof.EqKinds
import PyProof.TupleCall
import PySem.Challenge.RW_tapeproof_k62_page
local macro_rules | `(tactic| omega) => `(tactic| lia)
set_option Elab.async false
set_option linter.all false
set_option maxRecDepth 100000
noncomputable section
abbrev VP:=PySem.Value->PySem.Shared->Prop
abbrev YD:=List (PySem.Addr×PySem.Obj)
abbrev Vb:=PySem.Str->Option PySem.Value
def Ua:=@PySem.wpAny_bind
def Ub:=@PySem.wpAny_pure
def Uc:=@PySem.Heap.get?_push_of_some
def Ud:=@if_pos
def Ue:=@Bool.false_ne_true
def Uf:=@if_neg
def Ug:=@Nat.le_refl
def Uh:=@List.length_map
def Ui:=@List.getElem?_set_ne
def Uj:=@List.getElem?_append_left
def Uk:=@PySem.Heap.get?_push_size
def Ul:=@PySem.Heap.lt_size
def Um:=@List.length_append
def Uo:=@Nat.le_trans
def Uq:=@List.getElem?_eq_some_iff
def Ur:=@List.mem_singleton
def Us:=@List.size_toArray
def Ut:=@decide_eq_false
def Uu:=@Nat.lt_of_lt_of_le
def Uv:=@decide_eq_true
def Uw:=@List.mem_cons_of_mem
def Ux:=@List.mem_cons_self
def Uy:=@List.getElem?_map
def Uz:=@List.mem_cons
def UA:=@List.length_cons
def UB:=@PySem.wpAny_newObj_type
def UC:=@of_decide_eq_true
def UD:=@Bool.false_eq_true
def UE:=@PySem.wpAny_call_entry
def UG:=@PySem.wpAny_callSpecial?_slot
def UH:=@Nat.ne_of_lt
def UJ:=@PySem.W.mg_none_of
def UK:=@Bool.and_eq_true
def UL:=@List.map_cons
def UN:=@PySem.W.mg_of
def UO:=@List.mem_append
def UP:=@PySem.wpAny_field
def UQ:=@List.mem_append_right
def UR:=@PyProof.Rows.callWith_type1
def US:=@Option.map_eq_some_iff
def UT:=@List.getElem?_append_right
def UU:=@List.map_append
def UV:=@PySem.Heap.SameBut.update
def UW:=@List.getElem?_set_self
def UX:=@PySem.W.kia_one
def UY:=@List.append_nil
def UZ:=@List.length_set
def U0:=@PyProof.Rows.slot_tuple_getitem
def U1:=@List.length_replicate
def U2:=@beq_eq_false_iff_ne
def U3:=@List.all_eq_true
def U4:=@PyProof.Rows.wpS_bind
def U5:=@PySem.wpAny_holding
def U6:=@List.getElem?_eq_getElem
def U7:=@Array.length_toList
def U8:=@List.length_singleton
def U9:=@List.take_succ_eq_append_getElem
def Ta:=@PySem.wpAny_truthy_bool
def Tc:=@List.append_assoc
def Td:=@PySem.sizeLine_eq
def Te:=@Option.bind_eq_some_iff
def Tf:=@Array.getElem?_eq_some_iff
def Tg:=@List.mem_of_getElem?
def Th:=@PySem.Obj.data_mapFields
def Ti:=@if_false
def Tj:=@PySem.F.slot_dict_valueiterator_next
def Tk:=@List.find?_cons
def Tl:=@PySem.Heap.get?_update_other
def Tn:=@beq_iff_eq
def To:=@List.getElem?_eq_none_iff
def Tq:=@Nat.le_add_right
def Tr:=@List.getElem_mem
def Tt:=@List.nodup_append
def Tu:=@PySem.Heap.get?_update_self
def Tv:=@PySem.builtinLookup_eq_fast
def Tw:=@PySem.F.slot_dict_keyiterator_next
def Tx:=@Nat.lt_irrefl
def Tz:=@PySem.wpAny_attempt
def TB:=@Nat.lt_succ_self
def TC:=@PySem.wpAny_mono
def TD:=@PySem.wpAny_of_eq
def TF:=@decide_eq_true_eq
def TH:=@PySem.wpAny_setField
def TJ:=@Nat.le_of_lt
def TK:=@List.mem_map
def TL:=@PySem.wpAny_rule
def TM:=@List.getElem?_eq_none
def TN:=@PyProof.Rows.wpS_pure
def TQ:=@PySem.wpAny_isInstance
def TU:=@Option.isSome_iff_exists
def TV:=@PySem.wpAny_typeNameOfWhole_keyiter
def TW:=@PySem.wpAny_typeNameOfWhole_valiter
def TX:=@List.length_dropLast
def TY:=@Bool.not_true
def TZ:=@PySem.Heap.size_push
def T0:=@PySem.wpAny_seqItems
def T1:=@Int.eq_ofNat_of_zero_le
def T3:=@Nat.zero_le
def T4:=@PySem.wpAny_specialOf
def T5:=@List.filterMap_cons
def T6:=@PySem.mem_of_lookup
def T7:=@List.replicate_succ
def T8:=@List.any_cons
def Ra:=@Nat.le_of_not_lt
def Rb:=@decide_eq_decide
def Rc:=@List.take_length
def Re:=@PySem.F.slot_tuple_iterator_next
def Rf:=@congrArg
def Rg:=@PySem.wpAny_tupleItemsOf
def Rh:=@PySem.wpAny_setField_rec
def Ri:=@Int.emod_lt_of_pos
def Rj:=@PySem.Obj.isFreed_of_fields
def Rk:=@List.mem_filter
def Rl:=@List.mem_append_left
def Rm:=@PySem.wpAny_passesOwn
def Rn:=@Bool.eq_iff_iff
def Ro:=@PySem.typeLookup_type
def Rq:=@PySem.Value.isInt_shape
def Rr:=@PySem.wpAny_dictEntries
def Rs:=@List.all_cons
def Rt:=@List.length_reverse
def Ru:=@List.getElem?_replicate
def Rv:=@List.mem_flatMap
def Rw:=@List.mem_range
def Rx:=@PySem.Calls.callWith_builtin
def Ry:=@PySem.wpAny_Call_Name_kw
def Rz:=@List.filter_append
def RA:=@PySem.F.slot_dict_setdefault
def RB:=@PySem.wpAny_typeOf
def RC:=@List.nodup_cons
def RD:=@Int.emod_nonneg
def RE:=@Int.toNat_natCast
def RF:=@List.length_range
def RG:=@Array.perm_iff_toList_perm
def RH:=@Bool.and_eq_true_iff
def RI:=@List.dropLast_subset
def RJ:=@Int.le_refl
def RK:=@if_true
def RL:=@PySem.wpAny_forIn_list
def RM:=@PySem.F.slot_dict_getitem
def RN:=@List.map_congr_left
def RO:=@Int.toNat_of_nonneg
def RP:=@PySem.F.args_tuple_add_2
def RQ:=@List.forIn_cons
def RS:=@Nat.lt_of_le_of_lt
def RT:=@PySem.F.entry_tuple_add
def RU:=@PySem.F.plainAttrs_list
def RV:=@List.getElem?_cons_succ
def RW:=@List.getElem?_cons_zero
def RX:=@List.filter_cons_of_pos
def RY:=@PySem.F.args_dict_valueiterator_next_1
def RZ:=@PySem.F.slot_tuple_add
def R0:=@Array.getElem?_eq_none
def Wa:=@PySem.F.slot_tuple_hash
def Wb:=@PySem.Obj.cls_mapFields
def Wc:=@List.reverse_cons
def Wd:=@List.forIn_nil
def We:=@PySem.isSubtype_type
def Wf:=@Nat.ne_of_gt
def Wg:=@PySem.F.entry_dict_valueiterator_next
def Wh:=@PyProof.Rows.wpS_forRange
def Wi:=@PyProof.Rows.pairsOf_size
def Wj:=@List.map_map
def Wk:=@Array.getElem?_toList
def Wl:=@PySem.isSubtype_tuple_tuple
def Wm:=@PySem.wpAny_notOrdered_dict
def Wn:=@PySem.wpAny_isOneOf_valiter
def Wo:=@List.dropLast_eq_take
def Wp:=@List.getElem?_toArray
def Wq:=@PySem.F.args_dict_keyiterator_next_1
def Wr:=@PySem.F.args_dict_setdefault_3
def Ws:=@List.length_take
def Wt:=@beq_self_eq_true
def Wu:=@List.zipIdx_cons
def Wv:=@List.filter_cons
def Ww:=@PySem.F.entry_dict_keyiterator_next
def Wx:=@PySem.F.entry_dict_setdefault
def Wy:=@PySem.W.looks_findIn
def Wz:=@PySem.Calls.evalArgs_plain
def WA:=@Nat.add_assoc
def WB:=@PySem.wpAny_pyIter_keyiter
def WC:=@PySem.wpAny_updateSeq_pair
def WD:=@PySem.Around.under_plainId
def WE:=@List.mem_of_getLast?
def WF:=@PySem.F.args_tuple_iterator_next_1
def WG:=@PySem.wpAny_execs_nil
def WH:=@PySem.wpAny_dictEpoch
def WI:=@PySem.F.slot_zip_next
def WJ:=@PyProof.Rows.boot_isinstance
def WK:=@Bool.or_eq_true
def WL:=@PySem.W.plainGet_of
def WM:=@List.getElem_of_mem
def WN:=@PySem.W.looks_subIn
def WO:=@Bool.or_eq_true_iff
def WP:=@List.length_pos_iff
def WQ:=@PySem.wpAny_richCompare_same_room
def WR:=@PySem.F.entry_tuple_iterator_next
def WS:=@getElem?_pos
def WT:=@PySem.call_meetsIn
def WU:=@List.set_set
def WV:=@PySem.Calls.Name_function_global
def WW:=@PySem.F.excBase_ValueError
def WX:=@PyProof.Rows.assignInOrder_cons
def WY:=@List.mem_filterMap
def WZ:=@PySem.W.callWith_K
def W0:=@Bool.not_false
def W4:=@Array.getElem?_eq_getElem
def W6:=@List.getLast?_eq_getElem?
def W7:=@PySem.W.kitx_list
def W8:=@PySem.wpAny_pyIter_slot
def W9:=@Nat.lt_succ_of_lt
def Ba:=@PySem.wpAny_pyIter_list
def Bb:=@PySem.F.slot_dict_values
def Bc:=@PySem.wpAny_standAt
def Bd:=@PySem.wpAny_onRaise
def Bg:=@List.length_eq_zero_iff
def Bh:=@PySem.F.plainAttrs_dict
def Bi:=@List.filter_cons_of_neg
def Bj:=@Nat.add_sub_cancel_left
def Bk:=@PySem.noFill_tuple_add
def Bl:=@PySem.F.slot_tuple_mul
def Bo:=@PyProof.noPylong_small
def Bp:=@PySem.W.cellsFrom_some
def Bs:=@List.zipWith_cons_cons
def Bt:=@List.filter_eq_nil_iff
def Bu:=@List.take_of_length_le
def Bv:=@PySem.codeAny_mono
def Bx:=@List.of_mem_zip
def By:=@PySem.call_meets
def BA:=@PySem.F.slot_tuple_eq
def BB:=@Bool.decide_and
def BC:=@PySem.codeAny_builtin
def BD:=@List.range_succ
def BF:=@PySem.W.methodCall_KW
def BG:=@PySem.F.slot_dict_get
def BH:=@List.length_filter_le
def BI:=@List.take_append_drop
def BN:=@List.replicate_succ'
def BO:=@PySem.wpAny_loadPart
def BP:=@PySem.isSubtype_stop
def BQ:=@Array.size_map
def BS:=@PySem.wpAny_throw
def BT:=@PySem.wpAny_letGo
def BU:=@PySem.Paired.snoc
def B7:=@Int.mul_assoc
open PySem.W (Frag InitBack KitX Looks any_some bind_fn callWith_K callWith_K0 cellsFrom_some class_get clsIn codeIn codeRec_of emptyDict eq_bytes excIn findIn findObj findObj_own fnOf get_value handedIn hasDictIn hideAll hideAll_get hideAll_none hideAll_size instObj isFn isNs_of_in kdu_collect keepIn ki_setAt ki_setBack kia_one kia_tup kitAny kitOne kitx_bool kitx_dict kitx_float kitx_int kitx_list kitx_none kitx_own kitx_str kitx_tuple lookIn looks_clsIn looks_find looks_findIn looks_subIn looks_typeIn make_core makesIn makes_of methodCall_KW methodObj method_fn mg_none_of mg_of mroIn ne_bytes nsIn nsMap_none_of_in of_hideAll osa_open plainGet plainGet_of plainOver set_plain specialIn subIn tail_of_in takerIn takesIn typeIn)
namespace L2
open PySem PySem.Spec PyProof.Rows
abbrev B6:=Sum Int Str
def Gp:B6->Value->Bool
 |.inl k,v=>Value.isInt k v|.inr x,v=>Value.isStrOf x v
def sT(w:World):B6->Int
 |.inl k=>hashInt k|.inr x=>hashStr w x
theorem Zt:∀{k:B6}{v:Value},Gp k v=true->(∃i t,k=Sum.inl i/\v=Value.int i t)\/(∃x t,k=Sum.inr x/\v=Value.str x t)
 |.inl i,v,h=>by obtain⟨t,e⟩:=Rq (k:=i) (v:=v) h;exact .inl ⟨i,t,rfl,e⟩
 |.inr x,v,h=>by obtain⟨t,e⟩:=Value.isStrOf_shape (x:=x) (v:=v) h;exact .inr ⟨x,t,rfl,e⟩
theorem S1(i:Int)(t:Tok):Gp (.inl i) (.int i t)=true:=by simp[Gp,Value.isInt]
theorem S2(x:Str)(t:Tok):Gp (.inr x) (.str x t)=true:=by simp[Gp,Value.isStrOf]
theorem jU(a b:Int):decide ((Sum.inl a:B6)=Sum.inl b)=(a==b):=by
 by_cases e:a=b
 ·subst e;simp
 ·have h:¬(Sum.inl a:B6)=Sum.inl b:=λq=>e (Sum.inl.inj q);rw[Ut h];exact(U2.mpr e).symm
theorem jV(a b:Str):decide ((Sum.inr a:B6)=Sum.inr b)=decide (a=b):=by
 by_cases e:a=b
 ·subst e;simp
 ·have h:¬(Sum.inr a:B6)=Sum.inr b:=λq=>e (Sum.inr.inj q);rw[Ut h,Ut e]
theorem jW(a:Int)(b:Str):decide ((Sum.inl a:B6)=Sum.inr b)=false:=Ut (λq=>nomatch q)
theorem jX(a:Str)(b:Int):decide ((Sum.inr a:B6)=Sum.inl b)=false:=Ut (λq=>nomatch q)
def JE(prog:Program)(w:World):PySem.KeyKind prog w B6 where
 is:=Gp
 hash:=sT w
 inj:=λv a b ha hb=>by
  rcases Zt ha with⟨i,t,rfl,rfl⟩|⟨x,t,rfl,rfl⟩
  ·rcases Zt hb with⟨j,u,rfl,e⟩|⟨y,u,rfl,e⟩
   ·injection e with e1 _;rw[e1]
   ·exact nomatch e
  ·rcases Zt hb with⟨j,u,rfl,e⟩|⟨y,u,rfl,e⟩
   ·exact nomatch e
   ·injection e with e1 _;rw[e1]
 byValue:=λk v h=>by rcases Zt h with⟨i,t,rfl,rfl⟩|⟨x,t,rfl,rfl⟩<;>rfl
 pyHash:=λhv h=>by
  rcases Zt hv with⟨i,t,rfl,rfl⟩|⟨x,t,rfl,rfl⟩
  ·exact wpAny_pyHash_int h
  ·exact wpAny_pyHash_str h
 eqBool:=λhu hv h=>by
  rcases Zt hu with⟨i,t,rfl,rfl⟩|⟨x,t,rfl,rfl⟩
  ·rcases Zt hv with⟨j,u,rfl,rfl⟩|⟨y,u,rfl,rfl⟩
   ·rw[jU]at h;exact wpAny_eqBool_int h
   ·rw[jW]at h;exact SeqAt.EqAt.int_str i t y u _ _ _ _ h
  ·rcases Zt hv with⟨j,u,rfl,rfl⟩|⟨y,u,rfl,rfl⟩
   ·rw[jX]at h;exact SeqAt.EqAt.str_int x t j u _ _ _ _ h
   ·rw[jV]at h;exact wpAny_eqBool_str h
 «strs»:=λk x t v h=>by
  rcases Zt h with⟨i,u,rfl,e⟩|⟨y,u,rfl,e⟩
  ·exact nomatch e
  ·injection e with e1 _;subst e1;cases v<;>rfl
theorem Mv(prog:Program)(w:World)(i:Int)(t:Tok):(JE prog w).is (.inl i) (.int i t)=true:=S1 i t
theorem Mw(prog:Program)(w:World)(x:Str)(t:Tok):(JE prog w).is (.inr x) (.str x t)=true:=S2 x t
inductive V where
 |non|bl (b:Bool)|int (i:Int)|str (x:Str)|byt (b:Array UInt8)|flt (b:UInt64)|ref (a:Addr)|ty (n:String)
 deriving DecidableEq
def RelV:V->Value->Prop
 |.non,u=>u=Value.none|.bl b,u=>u=Value.bool b|.int i,u=>∃t,u=Value.int i t|.str x,u=>∃t,u=Value.str x t|.byt b,u=>∃t,u=Value.bytes b t|.flt b,u=>∃t,u=Value.float b t|.ref a,u=>u=Value.ref a|.ty n,u=>u=Value.type n
abbrev Vals:List V->List Value->Prop:=Paired RelV
theorem Vals.length(r:Vals xs us):xs.length=us.length:=Paired.length r
theorem Vals.get:∀{xs:List V}{us:List Value}{i:Nat}{x:V},Vals xs us->xs[i]?=some x->∃u,us[i]?=some u/\RelV x u
 |_,_,_,_,.nil,e=>by simp at e
 |_,_,0,_,.cons r _,e=>by simp at e;subst e;exact⟨_,rfl,r⟩
 |_,_,i+1,x,.cons _ t,e=>by obtain⟨u,h1,h2⟩:=Vals.get (i:=i) (x:=x) t (by simpa using e);exact⟨u,by simpa using h1,h2⟩
theorem Vals.set(r:RelV x u):∀{xs:List V}{us:List Value}(i:Nat),Vals xs us->Vals (xs.set i x) (us.set i u)
 |_,_,_,.nil=>.nil|_,_,0,.cons _ t=>.cons r t|_,_,i+1,.cons q t=>.cons q (Vals.set r i t)
theorem Vals.append:∀{xs ys:List V}{us ws:List Value},Vals xs us->Vals ys ws->Vals (xs++ys) (us++ws)
 |_,_,_,_,.nil,s=>s|_,_,_,_,.cons r t,s=>.cons r (Vals.append t s)
theorem Vals.take:∀{xs:List V}{us:List Value}(n:Nat),Vals xs us->Vals (xs.take n) (us.take n)
 |_,_,0,_=>.nil|_,_,_+1,.nil=>.nil|_,_,n+1,.cons r t=>.cons r (Vals.take n t)
theorem Vals.drop:∀{xs:List V}{us:List Value}(n:Nat),Vals xs us->Vals (xs.drop n) (us.drop n)
 |_,_,0,r=>r|_,_,_+1,.nil=>.nil|_,_,n+1,.cons _ t=>Vals.drop n t
def RelO:Option V->Option Value->Prop
 |some v,some u=>RelV v u|none,none=>True|_,_=>False
def KV:List (κ×V)->List (κ×Value)->Prop:=Paired λ(p:κ×V)(q:κ×Value)=>p.1=q.1/\RelV p.2 q.2
def kV:B6->V
 |.inl i=>.int i|.inr x=>.str x
inductive HO where
 /-- a list -/
 |lst (xs:List V)
 /-- a tuple (never changes) -/
 |tup (xs:List V)
 /-- a dict whose keys are ints and texts;one whose keys are tuples of ints and texts (the empty one is both) -/
 |dK (kvs:List (B6×V))|dT (kvs:List (List B6×V))
 /-- a set of ints: its members,its size -/
 |set (S:Int->Bool) (n:Nat)
 /-- an instance of the class at C,its dict at dx,its attributes -/
 |ins (C dx:Addr) (fs:List (Str×V))
 /-- the dict of the instance at x -/
 |own (x:Addr)
 /-- the dict of an exception -/
 |xd (fs:List (Str×V))
 /-- a bound method,f of x -/
 |met (f x:Addr)
 /-- a range object lo,lo+1,.. below hi -/
 |rng (lo hi:Int)
 /-- a thing that is known to the object (the script;a dict while a loop walks it): read,never written while it is so -/
 |frz (o:Obj) (u:HO)
 /-- a code object's table -/
 |tbl (ps:Array Value)
 /-- any other thing,by what is true of its one object (a def of one's own: SetO a S n:=HO.ext λh=>..) -/
 |ext (φ:Heap->Prop)
abbrev Hp:=Addr->Option HO
def Zi(H:Hp)(a:Addr)(o:HO):Hp:=λb=>if b=a then some o else H b
theorem Qy   : Zi H a o a=some o:=by unfold Zi;rw[Ud rfl]
theorem Qz(h:b≠a):Zi H a o b=H b:=by unfold Zi;rw[Uf h]
theorem PL{H:Hp}{a b:Addr}{o u:HO}(h:H a=some o)(h':H b=some u)(d:o≠u):a≠b:=by intro e;subst e;rw[h]at h';exact d (Option.some.inj h')
theorem Q8{H:Hp}{a b:Addr}{o:HO}(h:H a=some o)(h':H b=none):a≠b:=by intro e;subst e;rw[h]at h';cases h'
section
variable(P:Program)(w:World)
def ObjOk(H:Hp)(h:Heap)(a:Addr):HO->Prop
 |.lst xs=>xs.length<=sizeLine/\∃(its:List Value)(n:Nat),Vals xs its/\h.get? a=some {cls:=.type "list",data:=.seq its.toArray n}|.tup xs=>xs.length<=sizeLine/\∃its:List Value,Vals xs its/\IsTup h a its.toArray|.dK kvs=>kvs.length<=sizeLine/\(a==sysModules)=false/\∃vs,KV kvs vs/\h.DictOf (JE P w) a vs|.dT kvs=>kvs.length<=sizeLine/\(a==sysModules)=false/\∃xs:List (List B6×Addr×Value),Paired (λ(p:List B6×V)(q:List B6×Addr×Value)=>p.1=q.1/\H q.2.1=some (.tup (p.1.map kV))/\RelV p.2 q.2.2) kvs xs/\∃o es ep,h.get? a=some o/\o.ExactDict/\o.data=.dict es ep/\es.toList=xs.map (entryOfKey (tupleKind (JE P w)))/\(xs.map (·.1)).Nodup
 |.set S n=>h.SetOf (intKind P w) a S n|.ins C dx fs=>H dx=some (.own a)/\fs.length<=1000/\dx≠a/\h.get? a=some (instObj C dx)/\∃mA,h.Ns1 dx mA/\(∀f,RelO (fs.lookup f) (mA f))/\PySem.Within mA (fs.map (·.1))
 |.own _=>∃o,h.get? a=some o|.xd fs=>∃mA,h.Ns1 a mA/\∀f,RelO (fs.lookup f) (mA f)|.rng lo hi=>∃t u v,h.get? a=some {cls:=.type "range",data:=.fields #[.int lo t,.int hi u,.int 1 v]}|.frz o u=>h.get? a=some o/\ObjOk H h a u|.tbl ps=>h.get? a=some {cls:=.none,data:=.fields ps}|.met f x=>h.get? a=some (methodObj (.ref f) (.ref x))|.ext φ=>φ h/\(∃o,h.get? a=some o)/\∀h1 h2:Heap,φ h1->(∀o,h1.get? a=some o->h2.get? a=some o)->φ h2
def HOk(H:Hp)(h:Heap):Prop:=∀a o,H a=some o->ObjOk P w H h a o
end
section
variable{P:Program}{w:World}{H H':Hp}{h h':Heap}{a:Addr}{o:HO}
theorem ObjOk.lt(x:ObjOk P w H h a o):a<h.objs.size:=by
 cases o with
 |lst xs=>obtain⟨_,_,_,_,e⟩:=x;exact Ul e|tup xs=>obtain⟨_,_,_,p⟩:=x;exact p.lt|dK kvs=>obtain⟨_,_,_,_,o,_,_,e,_⟩:=x;exact Ul e|dT kvs=>obtain⟨_,_,_,_,o,_,_,e,_⟩:=x;exact Ul e|set S n=>obtain⟨o,_,_,_,e,_⟩:=x;exact Ul e|ins C dx fs=>obtain⟨_,_,_,e,_⟩:=x;exact Ul e|own y=>obtain⟨_,e⟩:=x;exact Ul e|xd fs=>obtain⟨_,⟨_,_,_,e,_⟩,_⟩:=x;exact Ul e|rng lo hi=>obtain⟨_,_,_,e⟩:=x;exact Ul e|frz ob u=>obtain⟨e,_⟩:=x;exact Ul e|tbl ps=>exact Ul (show h.get? a=some _ from x)|met f y=>exact Ul (show h.get? a=some _ from x)|ext φ=>obtain⟨_,⟨_,e⟩,_⟩:=x;exact Ul e
theorem Paired.mapP  : ∀{l₁:List α}{l₂:List β},Paired F l₁ l₂->(∀a b,F a b->G a b)->Paired G l₁ l₂
 |_,_,.nil,_=>.nil|_,_,.cons r t,f=>.cons (f _ _ r) (Paired.mapP t f)
theorem Paired.imp'(f:∀a b,F a b->G a b)(r:Paired F l₁ l₂):Paired G l₁ l₂:=Paired.mapP r f
theorem ObjOk.stay(x:ObjOk P w H h a o)(k:∀b u,(b=a\/H b=some (.own a))->h.get? b=some u->h'.get? b=some u)(ho:∀b,H b=some (.own a)->H' b=some (.own a))(ht:∀b xs,H b=some (.tup xs)->H' b=some (.tup xs)):ObjOk P w H' h' a o:=by
 induction o with
 |lst xs=>obtain⟨z,its,n,r,e⟩:=x;exact⟨z,its,n,r,k _ _ (.inl rfl) e⟩|tup xs=>obtain⟨z,its,r,ob,e,c⟩:=x;exact⟨z,its,r,ob,k _ _ (.inl rfl) e,c⟩|dK kvs=>obtain⟨z,y,vs,r,ob,es,ep,e,c⟩:=x;exact⟨z,y,vs,r,ob,es,ep,k _ _ (.inl rfl) e,c⟩|dT kvs =>obtain⟨z,y,xs,r,ob,es,ep,e,c⟩:=x;exact⟨z,y,xs,Paired.mapP r λp q z=>⟨z.1,ht _ _ z.2.1,z.2.2⟩,ob,es,ep,k _ _ (.inl rfl) e,c⟩|set S n=>obtain⟨ob,es,ep,t,e,c⟩:=x;exact⟨ob,es,ep,t,k _ _ (.inl rfl) e,c⟩|ins C dx fs =>obtain⟨d,z,ne,e,mA,⟨od,es,ep,e2,c⟩,r⟩:=x;exact⟨ho _ d,z,ne,k _ _ (.inl rfl) e,mA,⟨od,es,ep,k _ _ (.inr d) e2,c⟩,r⟩|own y=>obtain⟨ob,e⟩:=x;exact⟨ob,k _ _ (.inl rfl) e⟩|xd fs=>obtain⟨mA,⟨od,es,ep,e,c⟩,r⟩:=x;exact⟨mA,⟨od,es,ep,k _ _ (.inl rfl) e,c⟩,r⟩|rng lo hi=>obtain⟨t,u,v,e⟩:=x;exact⟨t,u,v,k _ _ (.inl rfl) e⟩|frz ob u ih=>obtain⟨e,q⟩:=x;exact⟨k _ _ (.inl rfl) e,ih q⟩|tbl ps =>have e:h.get? a=some {cls:=.none,data:=.fields ps}:=x;show h'.get? a=some {cls:=.none,data:=.fields ps};exact k a _ (.inl rfl) e|met f y =>have e:h.get? a=some (methodObj (.ref f) (.ref y)):=x;show h'.get? a=some (methodObj (.ref f) (.ref y));exact k a _ (.inl rfl) e|ext φ=>obtain⟨p,⟨o,e⟩,st⟩:=x;exact⟨st _ _ p λo q=>k _ _ (.inl rfl) q,⟨o,k _ _ (.inl rfl) e⟩,st⟩
theorem HOk.lt(x:HOk P w H h)(e:H a=some o):a<h.objs.size:=(x a o e).lt
theorem HOk.fresh(x:HOk P w H h)(e:h.objs.size<=a):H a=none:=by
 cases q:H a with
 |none=>rfl|some u=>exact absurd (Uu (x.lt q) e) (Tx _)
theorem HOk.kept(x:HOk P w H h)(k:∀b u,h.get? b=some u->h'.get? b=some u):HOk P w H h':=λa o e=>
 (x a o e).stay (λb u _ q=>k b u q) (λ_ q=>q) λ_ _ q=>q
theorem HOk.laid(x:HOk P w H h)(k:∀b u,h.get? b=some u->h'.get? b=some u)(hp:h.objs.size<=a)(new:ObjOk P w (Zi H a o) h' a o):HOk P w (Zi H a o) h':=λb u e=>by
 have hn:=x.fresh hp;by_cases hb:b=a
 ·subst hb;rw[Qy]at e;cases e;exact new
 ·rw[Qz hb]at e;exact(x b u e).stay (λc v _ q=>k c v q) (λc q=>by rw[Qz (Q8 q hn)];exact q) λc xs q=>by rw[Qz (Q8 q hn)];exact q
end
def Rd(H:Hp)(a:Addr)(u:HO):Prop:=H a=some u\/∃o,H a=some (.frz o u)
theorem Rd.ok(r:Rd H a u)(x:HOk P w H h):ObjOk P w H h a u:=by
 rcases r with r|⟨o,r⟩
 ·exact x a u r
 ·obtain⟨_,q⟩:=x a _ r;exact q
def oU:Option HO->Prop
 |some (.lst _)=>True|some (.dK _)=>True|some (.dT _)=>True|some (.set _ _)=>True|some (.ins _ _ _)=>True|some (.ext _)=>True|_=>False
theorem HOk.write(ok:HOk P w H h)(mu:oU (H x))(he:e=x\/H e=some (.own x))(k:∀b u,b≠e->h.get? b=some u->h'.get? b=some u)(heo:∃u,h'.get? e=some u)(new:ObjOk P w (Zi H x o') h' x o'):HOk P w (Zi H x o') h':=λb u q=>by
 have nown:∀c y,H c=some (.own y)->c≠x:=λc y r z=>by subst z;rw[r]at mu;exact mu
 have ntup:∀c xs,H c=some (.tup xs)->c≠x:=λc xs r z=>by subst z;rw[r]at mu;exact mu
 by_cases hb:b=x
 ·subst hb;rw[Qy]at q;cases q;exact new
 ·rw[Qz hb]at q;by_cases hbe:b=e
  ·have q':H b=some (.own x):=by
    rcases he with z|z
    ·exact absurd (hbe.trans z) hb
    ·rw[hbe];exact z
   rw[q]at q';cases q';obtain⟨v,hv⟩:=heo;exact⟨v,by rw[hbe];exact hv⟩
  ·refine(ok b u q).stay (λc v hc r=>k c v ?_ r) (λc r=>by rw[Qz (nown c b r)];exact r) λc xs r=>by rw[Qz (ntup c xs r)];exact r
   rcases hc with rfl|hc
   ·exact hbe
   ·rintro rfl;rcases he with z|z
    ·exact nown c b hc z
    ·rw[hc]at z;cases z;exact hb rfl
structure Un(fs ex:List Addr)(H H':Hp)(h h':Heap):Prop where
 keep:∀b o,h.get? b=some o->H b=none->b∉fs->b∉ex->h'.get? b=some o
 slot:∀b o,h.get? b=some o->H b=none->b∈fs->b∉ex->∃sl,h'.get? b=some {o with slots:=sl}
 free:∀b o,h.get? b=some o->H b=none->b∉ex->H' b=none
 there:∀b o,h.get? b=some o->b∉ex->∃o',h'.get? b=some o'
 tups:∀b xs,H b=some (.tup xs)->H' b=some (.tup xs)
 frzs:∀b o u,H b=some (.frz o u)->H' b=some (.frz o u)
 tbls:∀b ps,H b=some (.tbl ps)->∃more,H' b=some (.tbl (ps++more))
section
variable{fs fs' ex ex':List Addr}{H H1 H2:Hp}{h h1 h2 h':Heap}{a x e:Addr}{o:HO}
theorem Un.any(u:Un fs ex H H1 h h1)(q:h.get? b=some ob)(n:H b=none)(hx:b∉ex):∃sl,h1.get? b=some {ob with slots:=sl}:=by
 by_cases hb:b∈fs
 ·exact u.slot b ob q n hb hx
 ·exact⟨ob.slots,u.keep b ob q n hb hx⟩
theorem Un.kept(k:∀b u,h.get? b=some u->h'.get? b=some u):Un fs ex H H h h':=⟨λb ob q _ _ _=>k b ob q,λb ob q _ _ _=>⟨ob.slots,k b ob q⟩,λ_ _ _ n _=>n,λb ob q _=>⟨ob,k b ob q⟩,λ_ _ q=>q,λ_ _ _ q=>q,λ_ ps q=>⟨#[],by rw[q];simp⟩⟩
theorem Un.refl:Un fs ex H H h h:=Un.kept λ_ _ q=>q
theorem Un.laid(k:∀b u,h.get? b=some u->h'.get? b=some u)(hp:h.objs.size<=a)(hn:H a=none):Un fs ex H (Zi H a o) h h' where
 keep:=λb u q _ _ _=>k b u q
 slot:=λb u q _ _ _=>⟨u.slots,k b u q⟩
 free:=λb u q n _=>by rw[Qz (UH (Uu (Ul q) hp))];exact n
 there:=λb u q _=>⟨u,k b u q⟩
 tups:=λb xs q=>by rw[Qz (Q8 q hn)];exact q
 frzs:=λb u xs q=>by rw[Qz (Q8 q hn)];exact q
 tbls:=λb ps q=>⟨#[],by rw[Qz (Q8 q hn),q];simp⟩
theorem Un.write(mu:oU (H x))(he:e=x\/H e=some (.own x))(k:∀b u,b≠e->h.get? b=some u->h'.get? b=some u)(heo:∃u,h'.get? e=some u):Un fs ex H (Zi H x o) h h':=by
 have hx:∀b,H b=none->b≠x:=λb n z=>by subst z;rw[n]at mu;exact mu
 have hb:∀b,H b=none->b≠e:=λb n z=>by
  subst z;rcases he with r|r
  ·exact hx b n r
  ·rw[n]at r;cases r
 have hm:∀b u,H b=some u->¬oU (some u)->b≠x:=λb u q nm z=>by subst z;rw[q]at mu;exact nm mu
 refine⟨λb u q n _ _=>k b u (hb b n) q,λb u q n _ _=>⟨u.slots,k b u (hb b n) q⟩,λb u q n _=>by rw[Qz (hx b n)];exact n,λb u q _=>?_,λb xs q=>by rw[Qz (hm b _ q λz=>z)];exact q,λb u xs q=>by rw[Qz (hm b _ q λz=>z)];exact q,λb ps q=>⟨#[],by rw[Qz (hm b _ q λz=>z),q];simp⟩⟩
 by_cases hbe:b=e
 ·subst hbe;exact heo
 ·exact⟨u,k b u hbe q⟩
end
def rV(h:Heap)(H:Hp):List Addr:=(List.range h.objs.size).filter λa=>(H a).isSome
def Lc(h:Heap)(H:Hp):Heap:=hideAll h (rV h H)
theorem S4(h:Heap)(H:Hp):(Lc h H).objs.size=h.objs.size:=hideAll_size _ _
theorem Dk(e:h.get? b=some o)(n:H b=none):(Lc h H).get? b=some o:=
 hideAll_get _ e λhm=>by have q:(H b).isSome=true:=(Rk.mp hm).2;rw[n]at q;simp at q
theorem dN(e:(Lc h H).get? b=some o):h.get? b=some o/\H b=none:=by
 have e':h.get? b=some o:=of_hideAll (rV h H) e;refine⟨e',?_⟩;cases q:H b with
 |none=>rfl|some x =>have hm:b∈rV h H:=Rk.mpr ⟨Rw.mpr (Ul e'),by simp[q]⟩;have z:(Lc h H).get? b=none:=hideAll_none (rV h H) hm;rw[z]at e;cases e
def dO(g h:Heap)(L:Addr):List (Addr×Obj):=(List.range h.objs.size).filterMap λa=>if a=L\/(g.get? a).isSome=true then none else (h.get? a).map λo=>(a,o)
def rest(g h:Heap)(L d:Addr):List (Addr×Obj):=(dO g h L).filter λp=>decide (p.1≠d)
structure Mod(K:Frag)(mg:Vb)(base:Heap):Prop where
 kin:K.In base
 glob:base.Ns mainGlobals mg
 blt:∃mb,base.Ns builtinsNs mb/\∀x:Str,x ≠"__name__"->mb x=bootBuiltins x
 nolimit:base.NoLimit
/-- the context: a def's body (or a comprehension's block) running. base: fixed through the whole law;s₀,H₀: the entry;outer: the frames whose slots others may change (a def's callers);stack: all frames that run;
   ex: iterators that were made ahead of the entry and are walked here (a comprehension's);fn: the names whose cells were made at the entry (a def: all;a comprehension's block: its own);calm: not within an except suite;pn: pins that every state bears;xe: what is wanted of an exception that leaves the code -/
structure Cx where
 prog:Program
 w:World
 K:Frag
 mg:Str->Option Value
 base:Heap
 A:Around
 N:List Str
 s₀:Shared
 H₀:Hp
 env:Env
 outer:List Env
 stack:List Env
 ex:List Addr
 fn:Str->Bool
 calm:Bool
 pn:List (Addr×Obj)
 xe:Value->Shared->Prop
def PM(l:List Env):List Addr:=l.filterMap (·.frame)
abbrev Cx.fs(X:Cx):List Addr:=PM X.outer
def rW(sc:Scope)(x:Str):Prop:=sc.names.lookup x=some .local\/sc.names.lookup x=some .cell\/sc.names.lookup x=some .free
def Loc(sc:Scope)(x:Str):Prop:=sc.names.lookup x=some .local\/sc.names.lookup x=some .cell
def sU(env:Env)(h:Heap)(m:Vb)(x:Str)(u:Value):Prop:=(env.kindOf x=some .local/\m x=some u)\/((env.kindOf x=some .cell\/env.kindOf x=some .free)/\∃c,env.cells.lookup x=some c/\h.IsCell c (some u))
structure Cx.Ok(X:Cx):Prop where
 mod:Mod X.K X.mg X.base
 kind:X.env.scope.kind=.function
 glob:X.env.globals=mainGlobals
 blt:X.env.builtins=builtinsNs
 above:X.s₀.heap.objs.size<=X.env.locals
 inj:∀x y c,X.env.cells.lookup x=some c->X.env.cells.lookup y=some c->x=y
 has:∀x,(X.env.kindOf x=some .cell\/X.env.kindOf x=some .free)->∃c,X.env.cells.lookup x=some c
 cab:∀x c,X.fn x=true->X.env.cells.lookup x=some c->X.s₀.heap.objs.size<=c
 hd:X.calm=true->X.A.handled=none
 frames:X.A.frames=some X.stack
 stk:X.stack=X.outer\/(X.stack=X.env::X.outer/\X.env.frame=some X.env.locals)
 exf:∀b∈X.ex,b≠X.env.locals/\∀x c,X.env.cells.lookup x=some c->c≠b
 bs:∀b o,X.base.get? b=some o->X.s₀.heap.get? b=some o/\X.H₀ b=none
 bsz:X.base.objs.size<=X.s₀.heap.objs.size
 noex:∀b o,X.base.get? b=some o->b∉X.ex
 exfs:∀b∈X.ex,b∉X.fs
 funs:X.s₀.heap.FunFrames X.base X.outer
 frf:∀b∈X.fs,X.H₀ b=none
structure Inv(X:Cx)(pins:YD)(σ:List (Option V))(H:Hp)(s:Shared):Prop where
 ok:X.Ok
 os:s.os=X.s₀.os
 bare:AllBare s.gens
 base:Un X.fs X.ex X.H₀ H X.s₀.heap s.heap
 loc:∃m,s.heap.Ns X.env.locals m/\∀(i:Nat)(x:Str)(v:V),X.N[i]?=some x->σ[i]?=some (some v)->rW X.env.scope x->∃u,RelV v u/\sU X.env s.heap m x u
 cell:∀x c,X.env.cells.lookup x=some c->∃v,s.heap.IsCell c v
 free:H X.env.locals=none
 freeC:∀x c,X.env.cells.lookup x=some c->H c=none
 pin:∀p∈X.pn++pins,s.heap.get? p.1=some p.2/\H p.1=none/\p.1≠X.env.locals/\p.1∉X.fs/\∀v,p.2.data≠.cell v
 hok:HOk X.prog X.w H s.heap
 len:σ.length=X.N.length
section
variable{X:Cx}{pins:YD}{σ:List (Option V)}{H H':Hp}{s:Shared}{h':Heap}
theorem Cx.Ok.nofr(ok:X.Ok){b:Addr}{o:Obj}(e:X.base.get? b=some o):b∉X.fs:=λhb=>by have:=(ok.funs.mem hb).1;rw[e]at this;cases this
theorem Inv.bs(I:Inv X pins σ H s):∀b o,X.base.get? b=some o->s.heap.get? b=some o/\H b=none:=λb o e=>
 ⟨I.base.keep b o (I.ok.bs b o e).1 (I.ok.bs b o e).2 (I.ok.nofr e) (I.ok.noex b o e),I.base.free b o (I.ok.bs b o e).1 (I.ok.bs b o e).2 (I.ok.noex b o e)⟩
theorem Inv.bk(I:Inv X pins σ H s):∀b o,X.base.get? b=some o->s.heap.get? b=some o:=λb o e=>(I.bs b o e).1
theorem Inv.mod(I:Inv X pins σ H s):Mod X.K X.mg X.base:=I.ok.mod
theorem Inv.kIn(I:Inv X pins σ H s):X.K.In s.heap:=I.ok.mod.kin.keeps I.bk
theorem Inv.lt(I:Inv X pins σ H s):X.env.locals<s.heap.objs.size:=let ⟨_,hn,_⟩:=I.loc;hn.lt
theorem Inv.sz(I:Inv X pins σ H s):X.s₀.heap.objs.size<=s.heap.objs.size:=Uo I.ok.above (TJ I.lt)
theorem Inv.nofs(I:Inv X pins σ H s)(h:s.heap.objs.size<=a):a∉X.fs:=λhb=>by obtain⟨_,o,ho,_⟩:=I.ok.funs.mem hb;exact absurd (Uu (Ul ho) (Uo I.sz h)) (Tx _)
theorem Inv.cne(I:Inv X pins σ H s):∀x c,X.env.cells.lookup x=some c->c≠X.env.locals:=λx c e z=>by obtain⟨v,o,ho,hd⟩:=I.cell x c e;obtain⟨m,⟨o',es,ep,ho',hd',_⟩,_⟩:=I.loc;rw[z,ho']at ho;cases ho;rw[hd']at hd;cases hd
theorem Inv.funs(I:Inv X pins σ H s):s.heap.FunFrames X.base X.outer:=by
 have all:∀(l:List Env),(∀b∈PM l,b∈X.fs)->X.s₀.heap.FunFrames X.base l->s.heap.FunFrames X.base l:=by
  intro l;induction l with
  |nil=>intro _ _;trivial|cons env r ih =>intro hs hl;obtain⟨hk,⟨L,o,hf,hn,ho,hd⟩,hr⟩:=hl;have hL:L∈X.fs:=hs L (by unfold PM;rw[T5,hf];exact Ux);obtain⟨sl,e⟩:=I.base.slot L o ho (I.ok.frf L hL) hL λz=>I.ok.exfs L z hL;exact⟨hk,⟨L,_,hf,hn,e,hd⟩,ih (λb hb=>hs b (by unfold PM;rw[T5,hf];exact Uw _ hb)) hr⟩
 exact all X.outer (λ_ hb=>hb) I.ok.funs
theorem Inv.stack(I:Inv X pins σ H s):s.heap.FunFrames X.base X.stack:=by
 rcases I.ok.stk with e|⟨e,hf⟩
 ·rw[e];exact I.funs
 ·rw[e];obtain⟨m,hn,_⟩:=I.loc;refine .cons (by rw[I.ok.kind];decide) hf hn ?_ I.funs;exact Heap.get?_none_of_le (Uo I.ok.bsz I.ok.above)
theorem Inv.stkSub(I:Inv X pins σ H s):∀b∈PM X.stack,b∈X.env.locals::X.fs:=λb hb=>by
 rcases I.ok.stk with e|⟨e,hf⟩
 ·rw[e]at hb;exact Uw _ hb
 ·rw[e]at hb;unfold PM at hb;rw[T5,hf]at hb;exact hb
theorem Inv.stkFree(I:Inv X pins σ H s):∀b∈PM X.stack,H b=none:=λb hb=>by
 rcases Uz.mp (I.stkSub b hb) with e|hb
 ·rw[e];exact I.free
 ·obtain⟨_,o,ho,_⟩:=I.ok.funs.mem hb;exact I.base.free b o ho (I.ok.frf b hb) λz=>I.ok.exfs b z hb
theorem Inv.step{g':Array GenState}{t':Nat}{d':Drawn}{ch:List Addr}(I:Inv X pins σ H s)(hch:∀b∈ch,(b∈X.ex\/X.s₀.heap.objs.size<=b)/\b≠X.env.locals/\(∀x c,X.env.cells.lookup x=some c->c≠b)/\∀p∈X.pn++pins,p.1≠b)(keep:∀b o,b≠X.env.locals->b∉X.fs->b∉ch->s.heap.get? b=some o->H b=none->h'.get? b=some o)(slot:∀b o,b≠X.env.locals->b∈X.fs->b∉ch->s.heap.get? b=some o->H b=none->∃sl,h'.get? b=some {o with slots:=sl})(free:∀b o,b∉ch->s.heap.get? b=some o->H b=none->H' b=none)(there:∀b o,b∉ch->s.heap.get? b=some o->∃o',h'.get? b=some o')(tups:∀b xs,H b=some (.tup xs)->H' b=some (.tup xs))(frzs:∀b o u,H b=some (.frz o u)->H' b=some (.frz o u))(tbls:∀b ps,H b=some (.tbl ps)->∃more,H' b=some (.tbl (ps++more)))(ns:∀m,s.heap.Ns X.env.locals m->h'.Ns X.env.locals m)(hok:HOk X.prog X.w H' h')(hg:AllBare g'):
  Inv X pins σ H' {s with heap:=h',gens:=g',drawn:=d',toks:=t'}:=by
 have neL:∀b o,X.s₀.heap.get? b=some o->b≠X.env.locals:=λb o e=>UH (Uu (Ul e) I.ok.above);have neC:∀b o,X.s₀.heap.get? b=some o->b∉X.ex->b∉ch:=λb o e hx hb=>by
  rcases(hch b hb).1 with z|z
  ·exact hx z
  ·exact absurd (Uu (Ul e) z) (Tx _)
 have cellK:∀x c,X.env.cells.lookup x=some c->∀v,s.heap.IsCell c v->h'.IsCell c v:=λx c e v ⟨o,ho,hd⟩=>by
  have nch:c∉ch:=λz=>(hch c z).2.2.1 x c e rfl;by_cases hc:c∈X.fs
  ·obtain⟨sl,q⟩:=slot c o (I.cne x c e) hc nch ho (I.freeC x c e);exact⟨_,q,hd⟩
  ·exact⟨o,keep c o (I.cne x c e) hc nch ho (I.freeC x c e),hd⟩
 refine⟨I.ok,I.os,hg,⟨λb o e n hb hx=>?_,λb o e n hb hx=>?_,λb o e n hx=>?_,λb o e hx=>?_,λb xs e=>tups b xs (I.base.tups b xs e),λb o xs e=>frzs b o xs (I.base.frzs b o xs e),λb ps e=>?_⟩,?_,λx c e=>?_,?_,λx c e=>?_,λp hp=>?_,hok,I.len⟩
 ·exact keep b o (neL b o e) hb (neC b o e hx) (I.base.keep b o e n hb hx) (I.base.free b o e n hx)
 ·obtain⟨sl,e1⟩:=I.base.slot b o e n hb hx;obtain⟨sl',e2⟩:=slot b _ (neL b o e) hb (neC b o e hx) e1 (I.base.free b o e n hx);exact⟨sl',e2⟩
 ·obtain⟨o',e1⟩:=I.base.there b o e hx;exact free b o' (neC b o e hx) e1 (I.base.free b o e n hx)
 ·obtain⟨o',e1⟩:=I.base.there b o e hx;exact there b o' (neC b o e hx) e1
 ·obtain⟨m1,e1⟩:=I.base.tbls b ps e;obtain⟨m2,e2⟩:=tbls b _ e1;exact⟨m1++m2,by rw[e2,Array.append_assoc]⟩
 ·obtain⟨m,hn,hl⟩:=I.loc;refine⟨m,ns m hn,λi x v e1 e2 e3=>?_⟩;obtain⟨u,r,l⟩:=hl i x v e1 e2 e3;refine⟨u,r,?_⟩;rcases l with l|⟨k,c,e,z⟩
  ·exact .inl l
  ·exact .inr ⟨k,c,e,cellK x c e _ z⟩
 ·obtain⟨v,z⟩:=I.cell x c e;exact⟨v,cellK x c e v z⟩
 ·obtain⟨m,⟨o,_,_,ho,_⟩,_⟩:=I.loc;exact free _ o (λz=>(hch _ z).2.1 rfl) ho I.free
 ·obtain⟨v,o,ho,hd⟩:=I.cell x c e;exact free c o (λz=>(hch c z).2.2.1 x c e rfl) ho (I.freeC x c e)
 ·obtain⟨e,n,ne,nf,d⟩:=I.pin p hp;have nch:p.1∉ch:=λz=>(hch p.1 z).2.2.2 p hp rfl;exact⟨keep p.1 p.2 ne nf nch e n,free p.1 p.2 nch e n,ne,nf,d⟩
theorem Inv.un(I:Inv X pins σ H s)(u:Un X.fs [] H H' s.heap h')(hok:HOk X.prog X.w H' h'):Inv X pins σ H' {s with heap:=h',toks:=t'}:=by obtain⟨m,⟨o,es,ep,ho,r⟩,_⟩:=id I.loc;obtain⟨sl,hL⟩:=u.any ho I.free (by simp);exact I.step (g':=s.gens) (d':=s.drawn) (ch:=[]) (λ_ z=>nomatch z) (λb o _ hb _ e n=>u.keep b o e n hb (by simp)) (λb o _ hb _ e n=>u.slot b o e n hb (by simp)) (λb o _ e n=>u.free b o e n (by simp)) (λb o _ e=>u.there b o e (by simp)) u.tups u.frzs u.tbls (λm' hm=>by obtain⟨o',es',ep',ho',r'⟩:=hm;rw[ho]at ho';cases ho';exact⟨_,es',ep',hL,r'⟩) hok I.bare
theorem Inv.call{g':Array GenState}{t':Nat}{d':Drawn}{ch:List Addr}(I:Inv X pins σ H s)(u:Un (PM X.stack) ch H H' s.heap h')(hok:HOk X.prog X.w H' h')(hg:AllBare g')(hch:∀b∈ch,(b∈X.ex\/X.s₀.heap.objs.size<=b)/\b≠X.env.locals/\(∀x c,X.env.cells.lookup x=some c->c≠b)/\∀p∈X.pn++pins,p.1≠b):
  Inv X pins σ H' {s with heap:=h',gens:=g',drawn:=d',toks:=t'}:=by
 obtain⟨m,⟨o,es,ep,ho,r⟩,_⟩:=id I.loc;obtain⟨sl,hL⟩:=u.any ho I.free λz=>(hch _ z).2.1 rfl;exact I.step (ch:=ch) hch (λb o hL hb hc e n=>u.keep b o e n (λz=>(Uz.mp (I.stkSub b z)).elim hL hb) hc) (λb o _ _ hc e n=>u.any e n hc) (λb o hc e n=>u.free b o e n hc) (λb o hc e=>u.there b o e hc) u.tups u.frzs u.tbls (λm' hm=>by obtain⟨o',es',ep',ho',r'⟩:=hm;rw[ho]at ho';cases ho';exact⟨_,es',ep',hL,r'⟩) hok hg
theorem Inv.turned{t':Nat}{it:Addr}(I:Inv X pins σ H s)(k:∀b o,b≠it->s.heap.get? b=some o->h'.get? b=some o)(hn:H it=none)(hL:it≠X.env.locals)(h1:it∈X.ex\/X.s₀.heap.objs.size<=it)(h2:∀x c,X.env.cells.lookup x=some c->c≠it)(h3:∀p∈X.pn++pins,p.1≠it):Inv X pins σ H {s with heap:=h',toks:=t'}:=by
 have nit:∀b u,H b=some u->b≠it:=λb u e z=>by rw[z,hn]at e;cases e
 refine I.step (g':=s.gens) (d':=s.drawn) (ch:=[it]) (λb hb=>?_) (λb o _ _ hc e _=>k b o (λz=>hc (by simp[z])) e) (λb o _ _ hc e _=>⟨o.slots,k b o (λz=>hc (by simp[z])) e⟩) (λ_ _ _ _ n=>n)
  (λb o hc e=>⟨o,k b o (λz=>hc (by simp[z])) e⟩) (λ_ _ e=>e) (λ_ _ _ e=>e) (λb ps e=>⟨#[],by rw[e];simp⟩) (λm hm=>?_) (λb u e=>?_) I.bare
 ·have e:b=it:=by simpa using hb
  subst e;exact⟨h1,hL,h2,h3⟩
 ·obtain⟨o,es,ep,ho,r⟩:=hm;exact⟨o,es,ep,k _ o (Ne.symm hL) ho,r⟩
 ·refine(I.hok b u e).stay (λc v hc q=>k c v ?_ q) (λ_ q=>q) λ_ _ q=>q;rcases hc with z|z
  ·rw[z];exact nit b u e
  ·exact nit c _ z
theorem Inv.tok(I:Inv X pins σ H s)(t:Nat):Inv X pins σ H {s with toks:=t}:=I.un (h':=s.heap) (t':=t) Un.refl I.hok
theorem Inv.kept(I:Inv X pins σ H s)(k:∀b u,s.heap.get? b=some u->h'.get? b=some u):Inv X pins σ H {s with heap:=h',toks:=t'}:=I.un (Un.kept k) (I.hok.kept k)
theorem Inv.laid(I:Inv X pins σ H s)(k:∀b u,s.heap.get? b=some u->h'.get? b=some u)(hp:s.heap.objs.size<=a)(new:ObjOk X.prog X.w (Zi H a o) h' a o):
  Inv X pins σ (Zi H a o) {s with heap:=h',toks:=t'}:=I.un (Un.laid k hp (I.hok.fresh hp)) (I.hok.laid k hp new)
theorem Inv.write{x e:Addr}{o:HO}{t':Nat}(I:Inv X pins σ H s)(mu:oU (H x))(he:e=x\/H e=some (.own x))(k:∀b u,b≠e->s.heap.get? b=some u->h'.get? b=some u)(heo:∃u,h'.get? e=some u)(new:ObjOk X.prog X.w (Zi H x o) h' x o):Inv X pins σ (Zi H x o) {s with heap:=h',toks:=t'}:=I.un (Un.write mu he k heo) (I.hok.write mu he k heo new)
theorem Inv.pins_of(I:Inv X pins σ H s)(h:∀p∈pins',s.heap.get? p.1=some p.2/\H p.1=none/\p.1≠X.env.locals/\p.1∉X.fs/\∀v,p.2.data≠.cell v):Inv X pins' σ H s:=⟨I.ok,I.os,I.bare,I.base,I.loc,I.cell,I.free,I.freeC,λp hp=>(UO.mp hp).elim (λz=>I.pin p (Rl _ z)) (h p),I.hok,I.len⟩
theorem Gq{N:List Str}(hN:N.Nodup){i j:Nat}{x:Str}(a:N[i]?=some x)(b:N[j]?=some x):i=j:=by obtain⟨h1,e1⟩:=Uq.mp a;obtain⟨h2,e2⟩:=Uq.mp b;exact(List.getElem_inj hN).mp (e1.trans e2.symm)
theorem S5{M:Model}{A:Around}{E:VP}{i:Nat}{x:Str}{v:V}{u:Value}{Q:Unit->Shared->Prop}(I:Inv X pins σ H s)(hN:X.N.Nodup)(hi:X.N[i]?=some x)(hx:Loc X.env.scope x)(r:RelV v u)(h:∀s',Inv X pins (σ.set i (some v)) H s'->(∃a,Heap.SameBut a s.heap s'.heap/\(a=X.env.locals\/X.env.cells.lookup x=some a))->Q () s')(hf:X.fn x=true\/X.env.scope.names.lookup x=some .local:=by first|exact .inl rfl|exact .inr rfl|assumption):wpAny M A (storeName X.env x u) Q E s:=by
 obtain⟨m,hn,hl⟩:=id I.loc;have hcls:(X.env.scope.kind==.class||(X.env.scope.kind==.module&&X.env.locals != X.env.globals))=false:=by rw[I.ok.kind];rfl
 have hiσ:i<σ.length:=by rw[I.len];exact(Uq.mp hi).1
 have cne:=I.cne;have tracked:∀{a:Addr}{h':Heap},(∃o,s.heap.get? a=some o/\H a=none)->Heap.SameBut a s.heap h'->HOk X.prog X.w H h':=λ{a h'} ha hs b ob e=>by
  obtain⟨_,_,hfree⟩:=ha;refine(I.hok b ob e).stay (λc w' hc q=>(hs.2 c ?_).trans q) (λ_ q=>q) λ_ _ q=>q;rintro rfl;rcases hc with rfl|hc
  ·rw[hfree]at e;cases e
  ·rw[hfree]at hc;cases hc
 rcases hx with hk|hk
 ·refine wpAny_storeName_local hk hn (λh' hn' hs=>?_) hcls;obtain⟨oL,_,_,hoL,_⟩:=id hn;refine h _ ⟨I.ok,I.os,I.bare,⟨λb o e n hb hx=>?_,λb o e n hb hx=>?_,I.base.free,λb o e hx=>?_,I.base.tups,I.base.frzs,I.base.tbls⟩,⟨_,hn',λj y v' e1 e2 e3=>?_⟩,λy c e=>?_,I.free,I.freeC,λp hp=>?_,tracked ⟨oL,hoL,I.free⟩ hs,by simpa using I.len⟩ ⟨_,hs,.inl rfl⟩
  ·exact(hs.2 b (UH (Uu (Ul e) I.ok.above))).trans (I.base.keep b o e n hb hx)
  ·obtain⟨sl,e1⟩:=I.base.slot b o e n hb hx;exact⟨sl,(hs.2 b (UH (Uu (Ul e) I.ok.above))).trans e1⟩
  ·obtain⟨o',e1⟩:=I.base.there b o e hx;exact⟨o',(hs.2 b (UH (Uu (Ul e) I.ok.above))).trans e1⟩
  ·by_cases hj:j=i
   ·subst hj;rw[hi]at e1;cases e1;rw[UW hiσ]at e2;cases e2;exact⟨u,r,.inl ⟨hk,by simp⟩⟩
   ·rw[Ui (Ne.symm hj)]at e2;obtain⟨u',r',q⟩:=hl j y v' e1 e2 e3;refine⟨u',r',?_⟩;rcases q with⟨k,e⟩|⟨k,c,e,z⟩
    ·refine .inl ⟨k,?_⟩;have:y≠x:=λe=>hj (Gq hN e1 (e ▸ hi));simp[this,e]
    ·exact .inr ⟨k,c,e,z.sameBut hs (cne y c e)⟩
  ·obtain⟨w',z⟩:=I.cell y c e;exact⟨w',z.sameBut hs (cne y c e)⟩
  ·obtain⟨e,n,ne,nf,d⟩:=I.pin p hp;exact⟨(hs.2 p.1 ne).trans e,n,ne,nf,d⟩
 ·have hfn:X.fn x=true:=by
   rcases hf with z|z
   ·exact z
   ·rw[z]at hk;cases hk
  obtain⟨c,hc⟩:=I.ok.has x (.inl hk);obtain⟨w',z⟩:=I.cell x c hc;refine wpAny_storeName_cell I.ok.kind hk hc z (λh' hc' hs=>?_);obtain⟨oc,hoc,hocd⟩:=id z;refine h {s with heap:=h'} ⟨I.ok,I.os,I.bare,⟨λb o e n hb hx=>?_,λb o e n hb hx=>?_,I.base.free,λb o e hx=>?_,I.base.tups,I.base.frzs,I.base.tbls⟩,⟨m,hn.sameBut hs (Ne.symm (cne x c hc)),λj y v' e1 e2 e3=>?_⟩,λy c' e=>?_,I.free,I.freeC,λp hp=>?_,tracked ⟨oc,hoc,I.freeC x c hc⟩ hs,by simpa using I.len⟩ ⟨c,hs,.inr hc⟩
  ·exact(hs.2 b (UH (Uu (Ul e) (I.ok.cab x c hfn hc)))).trans (I.base.keep b o e n hb hx)
  ·obtain⟨sl,e1⟩:=I.base.slot b o e n hb hx;exact⟨sl,(hs.2 b (UH (Uu (Ul e) (I.ok.cab x c hfn hc)))).trans e1⟩
  ·obtain⟨o',e1⟩:=I.base.there b o e hx;exact⟨o',(hs.2 b (UH (Uu (Ul e) (I.ok.cab x c hfn hc)))).trans e1⟩
  ·by_cases hj:j=i
   ·subst hj;rw[hi]at e1;cases e1;rw[UW hiσ]at e2;cases e2;exact⟨u,r,.inr ⟨.inl hk,c,hc,hc'⟩⟩
   ·rw[Ui (Ne.symm hj)]at e2;obtain⟨u',r',q⟩:=hl j y v' e1 e2 e3;refine⟨u',r',?_⟩;rcases q with q|⟨k,c',e,z'⟩
    ·exact .inl q
    ·refine .inr ⟨k,c',e,z'.sameBut hs ?_⟩;rintro rfl;exact hj (Gq hN e1 (I.ok.inj _ _ _ e hc ▸ hi))
  ·by_cases hcc:c'=c
   ·subst hcc;exact⟨_,hc'⟩
   ·obtain⟨w2,z2⟩:=I.cell y c' e;exact⟨w2,z2.sameBut hs hcc⟩
  ·obtain⟨e,n,ne,nf,d⟩:=I.pin p hp;refine⟨(hs.2 p.1 ?_).trans e,n,ne,nf,d⟩;intro q;rw[q,hoc]at e;have q':oc=p.2:=Option.some.inj e;exact d w' (by rw[<-q'];exact hocd)
theorem Kl{M:Model}{A:Around}{E:VP}{i:Nat}{x:Str}{v:V}{u:Value}{Q:Unit->Shared->Prop}(I:Inv X pins σ H s)(hN:X.N.Nodup)(hi:X.N[i]?=some x)(hx:Loc X.env.scope x)(r:RelV v u)(h:∀s',Inv X pins (σ.set i (some v)) H s'->Q () s')(hf:X.fn x=true\/X.env.scope.names.lookup x=some .local:=by first|exact .inl rfl|exact .inr rfl|assumption):wpAny M A (storeName X.env x u) Q E s:=S5 I hN hi hx r (λs' I' _=>h s' I') hf
theorem Inv.call'{s':Shared}{ch:List Addr}(I:Inv X pins σ H s)(ho:s'.os=s.os)(u:Un (PM X.stack) ch H H' s.heap s'.heap)(hok:HOk X.prog X.w H' s'.heap)(hg:AllBare s'.gens)(hch:∀b∈ch,(b∈X.ex\/X.s₀.heap.objs.size<=b)/\b≠X.env.locals/\(∀x c,X.env.cells.lookup x=some c->c≠b)/\∀p∈X.pn++pins,p.1≠b):Inv X pins σ H' s':=by obtain⟨h',g',d',t',o'⟩:=s';have e:o'=s.os:=ho;subst e;exact I.call (g':=g') (t':=t') (d':=d') u hok hg hch
end
abbrev XK:=Value->Option Addr->Hp->Prop
abbrev St:=List (Option V)
abbrev VK:=V->Hp->Prop
abbrev TE:=St->Hp->VK->Prop
abbrev TT:=St->Hp->(Bool->Hp->Prop)->Prop
abbrev TA:=St->Hp->(List V->Hp->Prop)->Prop
structure Ends where
 nx:St->Hp->Prop
 rt:VK
 bk:St->Hp->Prop:=λ_ _=>False
 ct:St->Hp->Prop:=λ_ _=>False
abbrev TS:=Ends->St->Hp->Prop
def EP(X:Cx)(pins:YD)(σ:St)(Q:VK)(u:Value)(s':Shared):Prop:=∃v H',Inv X pins σ H' s'/\RelV v u/\Q v H'
def TP(X:Cx)(pins:YD)(σ:St)(Q:Bool->Hp->Prop)(b:Bool)(s':Shared):Prop:=∃H',Inv X pins σ H' s'/\Q b H'
def AP(X:Cx)(pins:YD)(σ:St)(Q:List V->Hp->Prop)(us:List Value)(s':Shared):Prop:=∃vs H',Inv X pins σ H' s'/\Vals vs us/\Q vs H'
def SP(X:Cx)(pins:YD)(D:Ends)(f:Flow)(s':Shared):Prop:=
 match f with
 |.next=>∃σ' H',Inv X pins σ' H' s'/\D.nx σ' H'|.brk=>∃σ' H',Inv X pins σ' H' s'/\D.bk σ' H'|.cont=>∃σ' H',Inv X pins σ' H' s'/\D.ct σ' H'|.ret u=>∃v σ' H',Inv X pins σ' H' s'/\RelV v u/\D.rt v H'
def PE(X:Cx)(e:Expr)(t:TE):Prop:=∀(pins:YD)(s:Shared)(σ:St)(H:Hp)(Q:VK),Inv X pins σ H s->t σ H Q->wpAny (model X.prog X.w) X.A (eval e X.env) (EP X pins σ Q) X.xe s
def PT(X:Cx)(e:Expr)(t:TT):Prop:=∀(pins:YD)(s:Shared)(σ:St)(H:Hp)(Q:Bool->Hp->Prop),Inv X pins σ H s->t σ H Q->wpAny (model X.prog X.w) X.A (isTrue e X.env (eval e X.env)) (TP X pins σ Q) X.xe s
def PW(X:Cx)(e:Expr)(t:TT):Prop:=∀(whole:Sem Value)(pins:YD)(s:Shared)(σ:St)(H:Hp)(Q:Bool->Hp->Prop),Inv X pins σ H s->t σ H Q->wpAny (model X.prog X.w) X.A (isTrue e X.env whole) (TP X pins σ Q) X.xe s
theorem PW.pt(h:PW X e t):PT X e t:=h _
def PA(X:Cx)(es:List Expr)(t:TA):Prop:=∀(pos:Pos)(pins:YD)(s:Shared)(σ:St)(H:Hp)(Q:List V->Hp->Prop),Inv X pins σ H s->t σ H Q->wpAny (model X.prog X.w) X.A (spliced (backTo pos (starEach es X.env))) (AP X pins σ Q) X.xe s
def PS(X:Cx)(st:Stmt)(t:TS):Prop:=∀(pins:YD)(s:Shared)(σ:St)(H:Hp)(D:Ends),Inv X pins σ H s->t D σ H->wpAny (model X.prog X.w) X.A (exec st X.env) (SP X pins D) X.xe s
def PN(X:Cx)(st:List Stmt)(t:TS):Prop:=∀(pins:YD)(s:Shared)(σ:St)(H:Hp)(D:Ends),Inv X pins σ H s->t D σ H->wpAny (model X.prog X.w) X.A (execs st X.env) (SP X pins D) X.xe s
theorem ZD(h:wpAny M A t Q E s)(hQ:∀a s,Q a s->Q' a s):wpAny M A t Q' E s:=TC h hQ λ_ _ x=>x
section
variable{X:Cx}
def sV(i:Nat):TE:=λσ H Q=>∃v,σ[i]?=some (some v)/\Q v H
def tC(v:V):TE:=λ_ H Q=>Q v H
theorem jY(hN:X.N[i]?=some x)(hv:rW X.env.scope x)(hd:(x==("__debug__" : Str))=false:=by decide)(hcd:(x==("__classdict__" : Str))=false:=by decide):PE X (.Name x pos) (sV i):=by
 intro pins s σ H Q I h;obtain⟨v,e,h⟩:=h;obtain⟨m,hn,hl⟩:=I.loc;obtain⟨u,r,l⟩:=hl i x v hN e hv;have fin:EP X pins σ Q u s:=⟨v,H,I,r,h⟩;rcases l with⟨hk,hm⟩|⟨hk,c,hc,hcell⟩
 ·exact wpAny_Name (wpAny_loadName_local I.ok.kind hk hn hm fin) hd
 ·rcases hk with hk|hk
  ·exact wpAny_Name (wpAny_loadName_cell I.ok.kind hk hc hcell fin) hd
  ·exact wpAny_Name (wpAny_loadName_free I.ok.kind hk hc hcell fin hcd) hd
theorem jZ:PE X (.Constant (.int i) j pos) (tC (.int i)):=λ_ _ _ H _ I h=>wpAny_Constant_int ⟨.int i,H,I.tok _,⟨_,rfl⟩,h⟩
theorem oV:PE X (.Constant (.bool b) j pos) (tC (.bl b)):=λ_ _ _ H _ I h=>Constant_bool ⟨.bl b,H,I,rfl,h⟩
theorem kA:PE X (.Constant .none j pos) (tC .non):=λ_ _ _ H _ I h=>Constant_none ⟨.non,H,I,rfl,h⟩
theorem kB:PE X (.Constant (.str x) j pos) (tC (.str x)):=λ_ _ _ H _ I h=>Calls.Constant_str ⟨.str x,H,I.tok _,⟨_,rfl⟩,h⟩
def Gl(X:Cx)(x:Str):Prop:=X.env.kindOf x=some .globalImplicit
theorem Tm{E:VP}{pins:YD}{s:Shared}{σ:St}{H:Hp}{x:Str}{u:Value}{pos:Pos}{Q:VP}(I:Inv X pins σ H s)(hg:Gl X x)(hm:X.mg x=some u)(h:Q u s)(hd:(x==("__debug__" : Str))=false:=by decide):wpAny (model X.prog X.w) X.A (eval (.Name x pos) X.env) Q E s:=WV I.ok.kind hg (Calls.loadGlobal_global (by rw[I.ok.glob];exact I.mod.glob.keeps I.bk) hm h) hd
theorem Xv{E:VP}{pins:YD}{s:Shared}{σ:St}{H:Hp}{x:Str}{u:Value}{pos:Pos}{Q:VP}(I:Inv X pins σ H s)(hg:Gl X x)(hm:X.mg x=none)(hv:bootBuiltins x=some u)(h:Q u s)(hn:x ≠"__name__":=by decide)(hd:(x==("__debug__" : Str))=false:=by decide):wpAny (model X.prog X.w) X.A (eval (.Name x pos) X.env) Q E s:=by obtain⟨mb,h1,h2⟩:=I.mod.blt;exact WV I.ok.kind hg (Calls.loadGlobal_builtin (by rw[I.ok.glob];exact I.mod.glob.keeps I.bk) hm (by rw[I.ok.blt];exact h1.keeps I.bk) ((h2 x hn).trans hv) h) hd
theorem CZ(hg:Gl X x)(hm:X.mg x=some u)(r:RelV v u)(hd:(x==("__debug__" : Str))=false:=by decide):PE X (.Name x pos) (tC v):=λ_ _ _ H _ I h=>Tm I hg hm ⟨v,H,I,r,h⟩ hd
theorem PQ(hg:Gl X x)(hm:X.mg x=none)(hv:bootBuiltins x=some u)(r:RelV v u)(hn:x ≠"__name__":=by decide)(hd:(x==("__debug__" : Str))=false:=by decide):PE X (.Name x pos) (tC v):=λ_ _ _ H _ I h=>Xv I hg hm hv ⟨v,H,I,r,h⟩ hn hd
variable{a b:Expr}{ta tb:TE}{pos:Pos}
def tB(t:TE):TT:=λσ H Q=>t σ H λx H1=>∃c,x=.bl c/\Q c H1
theorem kC(h:PE X e t)(he:∀whole,isTrue e X.env whole=(do let v <-whole;standAt e.pos;holding [v] (truthy v)):=by intro _;rfl):PT X e (tB t):=by intro pins s σ H Q I hw;refine isTrue_plain (ZD (h pins s σ H _ I hw) λv s1 ⟨x,H1,I1,r1,q1⟩=>?_) (he _);obtain⟨d,rfl,q⟩:=q1;cases r1;exact Ta ⟨H1,I1,q⟩
variable{tA tB':TT}{rest:List Expr}
def sW(t u:TT):TT:=λσ H Q=>t σ H λc H1=>if c=true then u σ H1 Q else Q false H1
def wA(t u:TT):TT:=λσ H Q=>t σ H λc H1=>if c=true then Q true H1 else u σ H1 Q
def sX(t:TT):TT:=λσ H Q=>t σ H λc H1=>Q (!c) H1
theorem dP(ha:PT X a tA):PW X (.BoolOp .And [a] pos) tA:=by
 intro wh pins s σ H Q I h;refine isTrue_and (ZD (ha pins s σ H Q I h) λc s1 e=>?_);cases c with
 |true=>exact isTrue_and_nil e|false=>exact e
theorem kD(ha:PT X a tA):PW X (.BoolOp .Or [a] pos) tA:=by
 intro wh pins s σ H Q I h;refine isTrue_or (ZD (ha pins s σ H Q I h) λc s1 e=>?_);cases c with
 |false=>exact isTrue_or_nil e|true=>exact e
theorem kE(ha:PT X a tA)(hb:PW X (.BoolOp .And (b::rest) pos) tB'):PW X (.BoolOp .And (a::b::rest) pos) (sW tA tB'):=by
 intro wh pins s σ H Q I h;refine isTrue_and (ZD (ha pins s σ H _ I h) λc s1 ⟨H1,I1,q1⟩=>?_);cases c with
 |true=>exact hb wh pins s1 σ H1 Q I1 q1|false=>exact⟨H1,I1,q1⟩
theorem oX(ha:PT X a tA)(hb:PW X (.BoolOp .Or (b::rest) pos) tB'):PW X (.BoolOp .Or (a::b::rest) pos) (wA tA tB'):=by
 intro wh pins s σ H Q I h;refine isTrue_or (ZD (ha pins s σ H _ I h) λc s1 ⟨H1,I1,q1⟩=>?_);cases c with
 |true=>exact⟨H1,I1,q1⟩|false=>exact hb wh pins s1 σ H1 Q I1 q1
theorem kF(ha:PT X a tA):PT X (.UnaryOp .Not a pos) (sX tA):=by intro pins s σ H Q I h;exact isTrue_not (ha pins s σ H (λc H1=>Q (!c) H1) I h)
def oY(ta tb:TE):TE:=λσ H Q=>ta σ H λx H1=>∃c,x=.bl c/\if c=true then tb σ H1 Q else Q (.bl false) H1
def oZ(ta:TE):TE:=λσ H Q=>ta σ H λx H1=>∃c,x=.bl c/\Q (.bl (!c)) H1
theorem kG(h:PE X a t):PE X (.BoolOp op [a] pos) t:=λpins s σ H Q I hw=>BoolOp_one (h pins s σ H Q I hw)
theorem kH(ha:PE X a ta)(hb:PE X (.BoolOp .And (b::rest) pos) tb):PE X (.BoolOp .And (a::b::rest) pos) (oY ta tb):=by
 intro pins s σ H Q I h;refine BoolOp_and (ZD (ha pins s σ H _ I h) λv s1 ⟨x,H1,I1,r1,q1⟩=>?_);obtain⟨c,rfl,q1⟩:=q1;cases r1;refine Ta ?_;cases c with
 |true=>exact hb pins s1 σ H1 Q I1 q1|false=>exact⟨.bl false,H1,I1,rfl,q1⟩
theorem kI(ha:PE X a ta):PE X (.UnaryOp .Not a pos) (oZ ta):=by intro pins s σ H Q I h;refine UnaryOp_ (ZD (ha pins s σ H _ I h) λv s1 ⟨x,H1,I1,r1,q1⟩=>?_);obtain⟨c,rfl,q1⟩:=q1;cases r1;exact not_of (Ta ⟨.bl (!c),H1,I1,rfl,q1⟩)
def wB(t:TT)(ta tb:TE):TE:=λσ H Q=>t σ H λc H1=>if c=true then ta σ H1 Q else tb σ H1 Q
theorem Dl(hc:PT X c tA)(ha:PE X a ta)(hb:PE X b tb):PE X (.IfExp c a b pos) (wB tA ta tb):=by
 intro pins s σ H Q I h;refine wpAny_IfExp (ZD (hc pins s σ H _ I h) λd s1 ⟨H1,I1,q1⟩=>?_);cases d with
 |true=>exact ha pins s1 σ H1 Q I1 q1|false=>exact hb pins s1 σ H1 Q I1 q1
end
def SqL(K:Frag)(H:Hp)(a:Addr)(xs:List V):Prop:=Rd H a (.lst xs)\/∃(o:Obj)(its:Array Value)(n:Nat),K.lookup a=some o/\o.cls=.type "list"/\o.dict=none/\o.data=.seq its n/\its.size<=sizeLine/\Vals xs its.toList
def SqT(K:Frag)(H:Hp)(a:Addr)(xs:List V):Prop:=Rd H a (.tup xs)\/∃(o:Obj)(its:Array Value)(n:Nat),K.lookup a=some o/\o.cls=.type "tuple"/\o.data=.seq its n/\its.size<=sizeLine/\Vals xs its.toList
def sY:Value->Option V
 |.none=>some .non|.bool b=>some (.bl b)|.int i _=>some (.int i)|.str x _=>some (.str x)|.bytes b _=>some (.byt b)|.float b _=>some (.flt b)|.ref a=>some (.ref a)|.type n=>some (.ty n)|_=>none
theorem RelV.abs(r:RelV x u):sY u=some x:=by
 cases x with
 |non=>cases r;rfl|bl _=>cases r;rfl|int _=>obtain⟨t,rfl⟩:=r;rfl|str _=>obtain⟨t,rfl⟩:=r;rfl|byt _=>obtain⟨t,rfl⟩:=r;rfl|flt _=>obtain⟨t,rfl⟩:=r;rfl|ref _=>cases r;rfl|ty _=>cases r;rfl
theorem RelV.inj(r:RelV x u)(q:RelV y u):x=y:=Option.some.inj (r.abs.symm.trans q.abs)
theorem Vals.inj:∀{xs ys:List V}{us:List Value},Vals xs us->Vals ys us->xs=ys
 |_,_,_,.nil,.nil=>rfl|_,_,_,.cons r t,.cons r' t'=>by rw[r.inj r',Vals.inj t t']
theorem SqL.of{K:Frag}(h:H a=some (.lst xs)):SqL K H a xs:=.inl (.inl h)
theorem SqT.of{K:Frag}(h:H a=some (.tup xs)):SqT K H a xs:=.inl (.inl h)
theorem Inv.list(I:Inv X pins σ H s)(h:SqL X.K H a xs):∃its:List Value,Vals xs its/\PlainL s.heap a its.toArray/\xs.length<=sizeLine:=by
 rcases h with h|⟨o,its,n,hk,hc,hd,hs,hz,r⟩
 ·obtain⟨z,its,n,r,e⟩:=h.ok I.hok;exact⟨its,r,⟨_,n,e,rfl,rfl,rfl⟩,z⟩
 ·refine⟨its.toList,r,⟨o,n,I.kIn a o hk,hc,hd,by simpa using hs⟩,?_⟩;have e:=r.length;simp only[U7]at e;omega
theorem Inv.tuple(I:Inv X pins σ H s)(h:SqT X.K H a xs):∃its:List Value,Vals xs its/\IsTup s.heap a its.toArray/\xs.length<=sizeLine:=by
 rcases h with h|⟨o,its,n,hk,hc,hs,hz,r⟩
 ·obtain⟨z,its,r,p⟩:=h.ok I.hok;exact⟨its,r,p,z⟩
 ·refine⟨its.toList,r,⟨o,I.kIn a o hk,hc,n,by simpa using hs⟩,?_⟩;have e:=r.length;simp only[U7]at e;omega
theorem Inv.list_inj(I:Inv X pins σ H s)(h:SqL X.K H a xs)(h':SqL X.K H a ys):xs=ys:=by
 obtain⟨its,r,⟨o,n,e,_,_,d⟩,_⟩:=I.list h;obtain⟨its',r',⟨o',n',e',_,_,d'⟩,_⟩:=I.list h';rw[e]at e';cases e';rw[d]at d';injection d' with d1 _;have:its=its':=by simpa using Rf Array.toList d1
 subst this;exact r.inj r'
theorem Inv.tuple_inj(I:Inv X pins σ H s)(h:SqT X.K H a xs)(h':SqT X.K H a ys):xs=ys:=by
 obtain⟨its,r,⟨o,e,_,n,d⟩,_⟩:=I.tuple h;obtain⟨its',r',⟨o',e',_,n',d'⟩,_⟩:=I.tuple h';rw[e]at e';cases e';rw[d]at d';injection d' with d1 _;have:its=its':=by simpa using Rf Array.toList d1
 subst this;exact r.inj r'
abbrev Cx.wish(X:Cx)(E:VP):Cx:={X with xe:=E}
abbrev Cx.nox(X:Cx):Cx:=X.wish λ_ _=>False
theorem Cx.Ok.wish{X:Cx}(ok:X.Ok)(E:VP):(X.wish E).Ok:=⟨ok.mod,ok.kind,ok.glob,ok.blt,ok.above,ok.inj,ok.has,ok.cab,ok.hd,ok.frames,ok.stk,ok.exf,ok.bs,ok.bsz,ok.noex,ok.exfs,ok.funs,ok.frf⟩
theorem Cx.Ok.unwish{X:Cx}{E:VP}(ok:(X.wish E).Ok):X.Ok:=⟨ok.mod,ok.kind,ok.glob,ok.blt,ok.above,ok.inj,ok.has,ok.cab,ok.hd,ok.frames,ok.stk,ok.exf,ok.bs,ok.bsz,ok.noex,ok.exfs,ok.funs,ok.frf⟩
section
variable{X:Cx}{pins:YD}{σ:St}{H:Hp}{s:Shared}{E:VP}
theorem Inv.wish(I:Inv X pins σ H s)(E:VP):Inv (X.wish E) pins σ H s:=⟨I.ok.wish E,I.os,I.bare,I.base,I.loc,I.cell,I.free,I.freeC,I.pin,I.hok,I.len⟩
theorem Inv.unwish(I:Inv (X.wish E) pins σ H s):Inv X pins σ H s:=⟨I.ok.unwish,I.os,I.bare,I.base,I.loc,I.cell,I.free,I.freeC,I.pin,I.hok,I.len⟩
theorem SP.unwish(h:SP (X.wish E) pins D f s'):SP X pins D f s':=by
 cases f with
 |next=>obtain⟨σ',H',I,q⟩:=h;exact⟨σ',H',I.unwish,q⟩|brk=>obtain⟨σ',H',I,q⟩:=h;exact⟨σ',H',I.unwish,q⟩|cont=>obtain⟨σ',H',I,q⟩:=h;exact⟨σ',H',I.unwish,q⟩|ret u=>obtain⟨v,σ',H',I,r,q⟩:=h;exact⟨v,σ',H',I.unwish,r,q⟩
end
section
variable{X:Cx}{st:Stmt}{rest:List Stmt}{t u:TS}{e:Expr}{te:TE}{pos:Pos}
def pA:TS:=λD σ H=>D.nx σ H
def pB(t u:TS):TS:=λD σ H=>t {D with nx:=u D} σ H
theorem PR:PN X [] pA:=λ_ _ σ H _ I h=>WG ⟨σ,H,I,h⟩
theorem Dm(h1:PS X st t)(h2:PN X rest u):PN X (st::rest) (pB t u):=by
 intro pins s σ H D I h;refine wpAny_execs_cons (ZD (h1 pins s σ H {D with nx:=u D} I h) λf s1 q=>?_);cases f with
 |next =>obtain⟨σ',H',I',q⟩:=q;exact h2 pins s1 σ' H' D I' q|ret v=>exact q|brk=>exact q|cont=>exact q
theorem dQ(h1:PS X st t):PN X [st] t:=by
 intro pins s σ H D I h;refine wpAny_execs_cons (ZD (h1 pins s σ H D I h) λf s1 q=>?_);cases f with
 |next=>exact WG q|ret v=>exact q|brk=>exact q|cont=>exact q
theorem Inv.quiet(I:Inv X pins σ H s):interactive X.env=false:=by simp[interactive,I.ok.kind]
def pC(te:TE):TS:=λD σ H=>te σ H λ_ H1=>D.nx σ H1
theorem dR(he:PE X e te)(hs:swapsWith e none pos.line X.env=pure false:=by rfl):PS X (.Expr e pos) (pC te):=by intro pins s σ H D I h;exact wpAny_Expr_any (ZD (he pins s σ H _ I h) λv s1 ⟨x,H1,I1,r1,q1⟩=>⟨σ,H1,I1,q1⟩) I.quiet hs
def sZ(te:TE):TS:=λD σ H=>te σ H D.rt
theorem kJ(he:PE X e te):PS X (.Return (some e) pos) (sZ te):=by intro pins s σ H D I h;exact wpAny_Return_some (ZD (he pins s σ H _ I h) λv s1 ⟨x,H1,I1,r1,q1⟩=>⟨x,σ,H1,I1,r1,q1⟩)
def pD:TS:=λD _ H=>D.rt .non H
theorem dS:PS X (.Return none pos) pD:=λ_ _ σ H _ I h=>wpAny_Return_none ⟨.non,σ,H,I,rfl,h⟩
def tD(c:TT)(t u:TS):TS:=λD σ H=>c σ H λb H1=>if b=true then t D σ H1 else u D σ H1
theorem pE(hc:PT X c tc)(ha:PN X a t)(hb:PN X b u):PS X (.If c a b pos) (tD tc t u):=by
 intro pins s σ H D I h;refine wpAny_If (ZD (hc pins s σ H _ I h) λd s1 ⟨H1,I1,q1⟩=>?_);cases d with
 |true=>exact ha pins s1 σ H1 D I1 q1|false=>exact hb pins s1 σ H1 D I1 q1
def kK:TS:=λ_ _ _=>False
theorem Do:PS X st kK:=λ_ _ _ _ _ _ h=>h.elim
end
abbrev TG:=V->St->Hp->(St->Hp->Prop)->Prop
abbrev iQ:=List V->St->Hp->(St->Hp->Prop)->Prop
def PG(X:Cx)(target:Expr)(t:TG):Prop:=∀(pins:YD)(s:Shared)(σ:St)(H:Hp)(v:V)(u:Value)(Q:St->Hp->Prop),Inv X pins σ H s->RelV v u->t v σ H Q->wpAny (model X.prog X.w) X.A (assign target X.env u) (λ_ s'=>∃σ' H',Inv X pins σ' H' s'/\Q σ' H') X.xe s
def kL(X:Cx)(ts:List Expr)(t:iQ):Prop:=∀(pins:YD)(s:Shared)(σ:St)(H:Hp)(vs:List V)(us:List Value)(Q:St->Hp->Prop),Inv X pins σ H s->Vals vs us->t vs σ H Q->wpAny (model X.prog X.w) X.A (assignInOrder ((assignEach ts X.env).map (·.2)) us) (λ_ s'=>∃σ' H',Inv X pins σ' H' s'/\Q σ' H') X.xe s
abbrev kM:=V->V->V->Hp->(Hp->Prop)->Prop
def dU(X:Cx)(t:kM):Prop:=∀(pins:YD)(s:Shared)(σ:St)(H:Hp)(o i v:V)(ov iv u:Value)(Q:Hp->Prop),Inv X pins σ H s->RelV o ov->RelV i iv->RelV v u->t o i v H Q->wpAny (model X.prog X.w) X.A (setItem ov iv u) (λ_ s'=>∃H',Inv X pins σ H' s'/\Q H') X.xe s
def iR(i:Nat):TG:=λv σ H Q=>Q (σ.set i (some v)) H
theorem dW(hN:X.N.Nodup)(hi:X.N[i]?=some x)(hx:Loc X.env.scope x)(hf:X.fn x=true\/X.env.scope.names.lookup x=some .local:=by first|exact .inl rfl|exact .inr rfl|assumption):PG X (.Name x pos) (iR i):=by intro pins s σ H v u Q I r h;exact wpAny_assign_Name (Kl I hN hi hx r (λs' I'=>⟨_,H,I',h⟩) hf)
def tE:iQ:=λvs σ H Q=>vs=[]/\Q σ H
def pF(t:TG)(u:iQ):iQ:=λvs σ H Q=>∃v r,vs=v::r/\t v σ H λσ' H'=>u r σ' H' Q
theorem dX:kL X [] tE:=by intro pins s σ H vs us Q I r h;obtain⟨e,h⟩:=h;subst e;cases r;exact assignInOrder_nil ⟨σ,H,I,h⟩
theorem Dp{e:Expr}{es:List Expr}{t:TG}{u:iQ}(h1:PG X e t)(h2:kL X es u)(hs:(assignEach (e::es) X.env).map (·.2)=assign e X.env::(assignEach es X.env).map (·.2):=by rfl):kL X (e::es) (pF t u):=by
 intro pins s σ H vs us Q I r h;obtain⟨v,vr,e1,h⟩:=h;subst e1;cases r with
 |cons r rr =>rw[hs];refine WX (ZD (h1 pins s σ H _ _ _ I r h) λ_ s1 ⟨σ1,H1,I1,q1⟩=>?_);exact h2 pins s1 σ1 H1 _ _ Q I1 rr q1
def tF(K:Frag)(n:Nat)(t:iQ):TG:=λv σ H Q=>∃a xs,v=.ref a/\SqT K H a xs/\xs.length=n/\t xs σ H Q
theorem kN{es:List Expr}{k:Nat}{t:iQ}{n:Nat}(hc:X.calm=true)(h:kL X es t)(hn:(assignEach es X.env).length=n:=by rfl)(hst:(assignEach es X.env).findIdx? (·.1)=none:=by rfl):PG X (.Tuple es k pos) (tF X.K n t):=by intro pins s σ H v u Q I r hw;obtain⟨a,xs,e1,hq,hl,hw⟩:=hw;subst e1;cases r;obtain⟨its,rv,ht,hz⟩:=I.tuple hq;refine assign_Tuple_tuple (I.ok.hd hc) ht (by simp[hn,<-hl,rv.length]) hst λh' hx=>?_;have I1:Inv X pins σ H {s with heap:=h'}:=I.kept (t':=s.toks) λb o e=>hx b o (UH (Ul e)) e;exact h pins _ σ H xs _ Q I1 (by simpa using rv) hw
def tG(to ti:TE)(t:kM):TG:=λv σ H Q=>to σ H λo H1=>ti σ H1 λi H2=>t o i v H2 λH3=>Q σ H3
theorem Ot{o i:Expr}{to ti:TE}{t:kM}(ho:PE X o to)(hi:PE X i ti)(hs:dU X t)(ha:∀v,assign (.Subscript o i pos) X.env v=(do
   let ov <-holding [v] (eval o X.env)
   let iv <-holding [v,ov] (eval i X.env)
   standAt pos
   holding [v,ov,iv] (setItem ov iv v)
   release [v,ov,iv] []):=by intro _;rfl):PG X (.Subscript o i pos) (tG to ti t):=by
 intro pins s σ H v u Q I r h;rw[ha];refine Ua (U5 (ZD (ho pins s σ H _ I h) λov s1 ⟨x,H1,I1,r1,q1⟩=>?_));refine Ua (U5 (ZD (hi pins s1 σ H1 _ I1 q1) λiv s2 ⟨y,H2,I2,r2,q2⟩=>?_));refine Ua (Bc (Ua (U5 (ZD (hs pins s2 σ H2 x y v ov iv u _ I2 r1 r2 r q2) λ_ s3 ⟨H3,I3,q3⟩=>?_))));exact wpAny_release ⟨σ,H3,I3,q3⟩
def kO(te:TE)(g:TG):TS:=λD σ H=>te σ H λx H1=>g x σ H1 D.nx
theorem Ld{tg e:Expr}{te:TE}{g:TG}(he:PE X e te)(hg:PG X tg g)(hs:swapsWithSole [tg] e pos.line X.env=pure false:=by rfl)(hw:swappedStores [tg] e X.env=pure none:=by rfl)(h1:(assignEach [tg] X.env).map (·.2)=[assign tg X.env]:=by rfl):PS X (.Assign [tg] e pos) (kO te g):=by intro pins s σ H D I h;refine wpAny_Assign_stores (ZD (he pins s σ H _ I h) λv s1 ⟨x,H1,I1,r1,q1⟩=>?_) hs hw;rw[h1];exact ZD (hg pins s1 σ H1 x v _ I1 r1 q1) λ_ s2 q=>q
theorem kP(hN:X.N.Nodup)(hi:X.N[i]?=some x)(hx:Loc X.env.scope x)(he:PE X e te)(hs:swapsWith e (some (.Name x pos')) pos.line X.env=pure false:=by rfl)(hf:X.fn x=true\/X.env.scope.names.lookup x=some .local:=by first|exact .inl rfl|exact .inr rfl|assumption):
  PS X (.Assign [.Name x pos'] e pos) (kO te (iR i)):=by
 intro pins s σ H D I h;refine wpAny_Assign_Name (ZD (he pins s σ H _ I h) λv s1 ⟨y,H1,I1,r1,q1⟩=>?_) hs;exact Kl I1 hN hi hx r1 (λs2 I2=>⟨_,H1,I2,q1⟩) hf
def tH(i j:Nat)(ta:TA):TS:=λD σ H=>ta σ H λvs H1=>∃v w,vs=[v,w]/\D.nx ((σ.set i (some v)).set j (some w)) H1
theorem kQ{i j:Nat}{x y:Str}{a b:Expr}{ta:TA}{px py pt:Pos}{kt k2 pt2}(hc:X.calm=true)(hN:X.N.Nodup)(hi:X.N[i]?=some x)(hj:X.N[j]?=some y)(hij:i≠j)(hx:X.env.scope.names.lookup x=some .local)(hy:X.env.scope.names.lookup y=some .local)(ha:PA X [a,b] ta)(hw:swappedStores [.Tuple [.Name x px,.Name y py] kt pt] (.Tuple [a,b] k2 pt2) X.env=pure (some [x,y]))(hs:swapsWithSole [.Tuple [.Name x px,.Name y py] kt pt] (.Tuple [a,b] k2 pt2) pos.line X.env=pure false:=by rfl):
  PS X (.Assign [.Tuple [.Name x px,.Name y py] kt pt] (.Tuple [a,b] k2 pt2) pos) (tH i j ta):=by
 intro pins s σ H D I h;rw[exec_Assign_arm];refine Ua (Bc ?_);rw[hs];refine Ua (Ub ?_);rw[Uf (by decide)];refine Ua (Tuple_ (ZD (ha _ pins s σ H _ I h) λus s1 ⟨vs,H1,I1,r1,q1⟩=>?_));obtain⟨v,w,e1,q1⟩:=q1;subst e1;obtain⟨u1,u2,rfl,rv,rw'⟩:∃u1 u2,us=[u1,u2]/\RelV v u1/\RelV w u2:=by
  cases r1 with
  |cons p q=>
   cases q with
   |cons p' q' =>cases q';exact⟨_,_,rfl,p,p'⟩
 refine UB ?_ (by show 2<=sizeLine;decide);have I2:Inv X pins σ H1 {s1 with heap:=s1.heap.push {cls:=.type "tuple",data:=.seq [u1,u2].toArray} }:=I1.kept (t':=s1.toks) λb o e=>Uc _ e;rw[hw];refine Ua (Ub ?_);show wpAny (model X.prog X.w) X.A (do rule "assign.swapped-stores";let items <-unpackItems (.ref s1.heap.objs.size) 2 none;assignInOrder [λv=>bindName X.env y v,λv=>bindName X.env x v] items.reverse;pure Flow.next) _ _ _;refine Ua (TL (Ua (unpackItems_tuple (items:=#[u1,u2]) (I.ok.hd hc) (IsTup.new s1.heap _) λh' hx'=>?_)));have I3:=I2.kept (h':=h') (t':=s1.toks) λb o e=>hx' b o (UH (Ul e)) e;show wpAny _ _ (assignInOrder [λv=>bindName X.env y v,λv=>bindName X.env x v] [u2,u1] >>= λ_=>pure Flow.next) _ _ _;refine Ua (WX (wpAny_bindName (Kl I3 hN hj (.inl hy) rw' (λs2 I4=>?_) (.inr hy))));refine WX (wpAny_bindName (Kl I4 hN hi (.inl hx) rv (λs3 I5=>assignInOrder_nil (Ub ?_)) (.inr hx)));rw[List.set_comm _ _ (Ne.symm hij)]at I5;exact⟨_,H1,I5,q1⟩
def kR(c:TT)(tb:TS):TS:=λD σ H=>∃W:Nat->St->Hp->Prop,(∃m,W m σ H)/\∀m σ H,W m σ H->c σ H λb H1=>if b=true then ∃N:St->Hp->Prop,(∀σ' H',N σ' H'->∃m',m'<m/\W m' σ' H')/\tb {D with nx:=N,ct:=N,bk:=D.nx} σ H1 else D.nx σ H1
theorem Dq(hp:PassesOwn (model X.prog X.w) X.A X.env X.xe)(hc:PT X c tc)(hb:PN X body tb):PS X (.While c body [] pos) (kR tc tb):=by
 intro pins s σ H D I h;obtain⟨W,⟨m0,w0⟩,turn⟩:=h;refine wpAny_While (codeAny_whileLoop (λn s'=>∃σ' H',Inv X pins σ' H' s'/\W n σ' H') ?_ m0 ⟨σ,H,I,w0⟩);rintro n s1 ⟨σ1,H1,I1,w1⟩;refine Rm hp (ZD (hc pins s1 σ1 H1 _ I1 (turn n σ1 H1 w1)) λb s2 ⟨H2,I2,q2⟩=>?_);cases b with
 |true=>
  obtain⟨N,hN,q2⟩:=q2;rw[Ud rfl];refine Rm hp (ZD (hb pins s2 σ1 H2 _ I2 q2) λf s3 q3=>?_);cases f with
  |next =>obtain⟨σ3,H3,I3,n3⟩:=q3;obtain⟨m',hm,w3⟩:=hN σ3 H3 n3;exact⟨m',hm,σ3,H3,I3,w3⟩|cont =>obtain⟨σ3,H3,I3,n3⟩:=q3;obtain⟨m',hm,w3⟩:=hN σ3 H3 n3;exact⟨m',hm,σ3,H3,I3,w3⟩|brk=>exact q3|ret v=>exact q3
 |false =>rw[Uf Ue];exact WG ⟨σ1,H2,I2,q2⟩
structure It where
 go:Nat->Hp->Prop
 yld:Nat->Hp->V->Hp->Prop
 stop:Nat->Hp->Prop
def FpOk(X:Cx)(pins:YD)(H:Hp)(b:Addr):Prop:=H b=none/\b≠X.env.locals/\b∉X.fs/\(b∈X.ex\/X.s₀.heap.objs.size<=b)/\(∀x c,X.env.cells.lookup x=some c->c≠b)/\∀p∈X.pn++pins,p.1≠b
theorem Inv.fpOk(I:Inv X pins σ H s)(hb:s.heap.objs.size<=b)(hn:H' b=none):FpOk X pins H' b:=by
 refine⟨hn,Wf (Uu I.lt hb),I.nofs hb,.inr (Uo I.sz hb),λx c e z=>?_,λp hp z=>?_⟩
 ·obtain⟨v,q⟩:=I.cell x c e;exact absurd (Uu q.lt (by rw[z];exact hb)) (Tx _)
 ·exact absurd (Uu (Ul (I.pin p hp).1) (by rw[z];exact hb)) (Tx _)
structure Turn(P:Program)(w:World)(K:Frag)(tg:Expr)(J:It)(fp:List Addr)(it:Addr)(tn:Nat->Heap->Prop):Prop where
 mem:it∈fp
 obj:∀i h,tn i h->∀b∈fp,∃o,h.get? b=some o/\∀v,o.data≠.cell v
 keep:∀i h h',tn i h->(∀b∈fp,∀o,h.get? b=some o->h'.get? b=some o)->tn i h'
 item:∀(X:Cx),X.prog=P->X.w=w->X.K=K->X.calm=true->∀(i:Nat)(pins:YD)(s:Shared)(σ:St)(H:Hp)(E:VP),Inv X pins σ H s->(∀b∈fp,FpOk X pins H b)->tn i s.heap->J.go i H->wpAny (model P w) X.A (pyNext (.ref it)) (λr s1=>∃u,r=some u/\wpAny (model P w) X.A (letOwnedTupleGo tg (.ref it) u) (λ_ s2=>∃x H',Inv X pins σ H' s2/\RelV x u/\J.yld i H x H'/\tn (i+1) s2.heap/\∀b∈fp,H' b=none) E s1) E s
 done:∀(X:Cx),X.prog=P->X.w=w->X.K=K->X.calm=true->∀(i:Nat)(pins:YD)(s:Shared)(σ:St)(H:Hp)(E:VP),Inv X pins σ H s->(∀b∈fp,FpOk X pins H b)->tn i s.heap->J.stop i H->wpAny (model P w) X.A (pyNext (.ref it)) (λr s1=>r=none/\Inv X pins σ H s1) E s
 self:∀(A:Around)(i:Nat)(s:Shared)(Q:VP)(E:VP),tn i s.heap->Q (.ref it) s->wpAny (model P w) A (pyIter (.ref it)) Q E s
abbrev TI:=St->Hp->(It->Hp->Prop)->Prop
def vF(X:Cx)(pins:YD)(σ:St)(tg:Expr)(R:It->Hp->Prop)(itv:Value)(s2:Shared):Prop:=∃(it:Addr)(fp:List Addr)(tn:Nat->Heap->Prop)(J:It)(H':Hp),itv=.ref it/\Inv X pins σ H' s2/\Turn X.prog X.w X.K tg J fp it tn/\tn 0 s2.heap/\(∀b∈fp,FpOk X pins H' b)/\R J H'
def PI(X:Cx)(tg iter:Expr)(wi:TI):Prop:=∀(pins:YD)(s:Shared)(σ:St)(H:Hp)(R:It->Hp->Prop),Inv X pins σ H s->wi σ H R->wpAny (model X.prog X.w) X.A (eval iter X.env) (λv s1=>wpAny (model X.prog X.w) X.A (pyIter v) (vF X pins σ tg R) X.xe s1) X.xe s
theorem Gs{M:Model}{A:Around}{E:VP}{s:Shared}{tg:Expr}{it:Addr}{u:Value}{o:Obj}{n:String}{vs:Array Value}{Q:Unit->Shared->Prop}(ho:s.heap.get? it=some o)(hc:o.cls=.type n)(hd:o.data=.fields vs)(hn:["enumerate","zip","dict_itemiterator","dict_reverseitemiterator","odict_iterator","itertools.zip_longest","itertools.pairwise"].contains n=false)(hQ:Q () s):wpAny M A (letOwnedTupleGo tg (.ref it) u) Q E s:=by
  unfold letOwnedTupleGo;cases tg<;>first
    |exact Ub hQ
    | (cases u<;>first
        |exact Ub hQ
        | (refine Ua (wpAny_load ho ?_)
           rw[hc,hd];show wpAny M A (if (["enumerate","zip","dict_itemiterator","dict_reverseitemiterator","odict_iterator","itertools.zip_longest","itertools.pairwise"].contains n&&vs[0]? == some (rawInt _))=true then _ else _) Q E s;rw[Uf (by intro h;rw[hn,Bool.false_and]at h;cases h)];exact Ub hQ))
def rX(K:Frag)(a:Addr):It:=⟨λi H=>∃xs x,SqL K H a xs/\xs[i]?=some x,λi H x H'=>H'=H/\∀xs,SqL K H a xs->xs[i]?=some x,λi H=>∃xs,SqL K H a xs/\xs.length<=i⟩
def tI(K:Frag)(a:Addr):It:=⟨λi H=>∃xs x,SqT K H a xs/\xs[i]?=some x,λi H x H'=>H'=H/\∀xs,SqT K H a xs->xs[i]?=some x,λi H=>∃xs,SqT K H a xs/\xs.length<=i⟩
def pG(lo:Int)(n:Nat):It:=⟨λi _=>i<n,λi H x H'=>H'=H/\x=.int (lo+i),λi _=>n<=i⟩
theorem S6{P:Program}{w:World}{K:Frag}{tg:Expr}(a it:Addr):Turn P w K tg (rX K a) [it] it (λi h=>h.IsListIter it a i) where
 mem:=by simp
 obj:=λi h st b hb=>by
  have e:b=it:=by simpa using hb
  subst e;obtain⟨o,e,c,d⟩:=st;exact⟨o,e,λv z=>by rw[d]at z;cases z⟩
 keep:=λi h h' st k=>st.at λo e=>k it (by simp) o e
 item:=by intro X hP hw hK hc i pins s σ H E I hf st hg;subst hP hw hK;obtain⟨xs,x,hq,hx⟩:=hg;obtain⟨its,rv,p,hz⟩:=I.list hq;obtain⟨u,hu,ru⟩:=rv.get hx;obtain⟨f0,f1,f2,f3,f4,f5⟩:=hf it (by simp);refine wpAny_pyNext_list_item st p.isList (x:=u) (by simpa using hu) λh' st' sb=>?_;have I1:Inv X pins σ H {s with heap:=h'}:=I.turned (t':=s.toks) (λb o hb e=>(sb.2 b hb).trans e) f0 f1 f3 f4 f5;obtain⟨o,e,c,d⟩:=id st';exact⟨u,rfl,Gs (s:={s with heap:=h'}) e c d (by decide) ⟨x,H,I1,ru,⟨rfl,λys hy=>by rw[I.list_inj hy hq];exact hx⟩,st',λb hb=>(hf b hb).1⟩⟩
 done:=by intro X hP hw hK hc i pins s σ H E I hf st hg;subst hP hw hK;obtain⟨xs,hq,hx⟩:=hg;obtain⟨its,rv,p,hz⟩:=I.list hq;obtain⟨f0,f1,f2,f3,f4,f5⟩:=hf it (by simp);have hl:=rv.length;exact wpAny_pyNext_list_end (I.ok.hd hc) st p.isList (by simp;omega) λh' eb=>⟨rfl,I.turned (t':=s.toks) (λb o hb e=>eb b o hb e) f0 f1 f3 f4 f5⟩
 self:=λ_ _ _ _ _ st h=>wpAny_pyIter_listiter st h
theorem Ou{P:Program}{w:World}{K:Frag}{tg:Expr}(a it:Addr):Turn P w K tg (tI K a) [it] it (λi h=>h.IsTupleIter it a i) where
 mem:=by simp
 obj:=λi h st b hb=>by
  have e:b=it:=by simpa using hb
  subst e;obtain⟨o,e,c,d⟩:=st;exact⟨o,e,λv z=>by rw[d]at z;cases z⟩
 keep:=λi h h' st k=>st.at λo e=>k it (by simp) o e
 item:=by intro X hP hw hK hc i pins s σ H E I hf st hg;subst hP hw hK;obtain⟨xs,x,hq,hx⟩:=hg;obtain⟨its,rv,p,hz⟩:=I.tuple hq;obtain⟨u,hu,ru⟩:=rv.get hx;obtain⟨f0,f1,f2,f3,f4,f5⟩:=hf it (by simp);refine wpAny_pyNext_tuple_item st (show s.heap.IsTuple a its.toArray from p) (x:=u) (by simpa using hu) λh' st' sb=>?_;have I1:Inv X pins σ H {s with heap:=h'}:=I.turned (t':=s.toks) (λb o hb e=>(sb.2 b hb).trans e) f0 f1 f3 f4 f5;obtain⟨o,e,c,d⟩:=id st';exact⟨u,rfl,Gs (s:={s with heap:=h'}) e c d (by decide) ⟨x,H,I1,ru,⟨rfl,λys hy=>by rw[I.tuple_inj hy hq];exact hx⟩,st',λb hb=>(hf b hb).1⟩⟩
 done:=by intro X hP hw hK hc i pins s σ H E I hf st hg;subst hP hw hK;obtain⟨xs,hq,hx⟩:=hg;obtain⟨its,rv,p,hz⟩:=I.tuple hq;obtain⟨f0,f1,f2,f3,f4,f5⟩:=hf it (by simp);have hl:=rv.length;exact wpAny_pyNext_tuple_end (I.ok.hd hc) st (show s.heap.IsTuple a its.toArray from p) (by simp;omega) λh' eb=>⟨rfl,I.turned (t':=s.toks) (λb o hb e=>eb b o hb e) f0 f1 f3 f4 f5⟩
 self:=λ_ _ _ _ _ st h=>wpAny_pyIter_tupleiter st h
theorem Ov{P:Program}{w:World}{K:Frag}{tg:Expr}(it:Addr)(lo:Int)(n:Nat):Turn P w K tg (pG lo n) [it] it (λi h=>IsRangeIter h it (lo+(i:Nat)*1) ((n:Int) - (i:Nat)) 1) where
 mem:=by simp
 obj:=λi h st b hb=>by
  have e:b=it:=by simpa using hb
  subst e;exact⟨_,st,λv z=>by have z':Data.fields _=Data.cell v:=z;cases z'⟩
 keep:=λi h h' st k=>k it (by simp) _ st
 item:=by intro X hP hw hK hc i pins s σ H E I hf st hg;subst hP hw hK;obtain⟨f0,f1,f2,f3,f4,f5⟩:=hf it (by simp);have W:=Walks.range (prog:=X.prog) (w:=X.w) (I.ok.hd hc) it lo 1 n;refine W.item i s _ _ hg st λv h' tk hv st' kk=>?_;obtain⟨t,rfl⟩:=hv;have I1:Inv X pins σ H {s with heap:=h',toks:=tk}:=I.turned (λb o hb e=>kk b o (by simpa using hb) e) f0 f1 f3 f4 f5;refine⟨_,rfl,Gs (s:={s with heap:=h',toks:=tk}) (n:="range_iterator") st' rfl rfl (by decide) ⟨.int (lo+i),H,I1,⟨t,?_⟩,⟨rfl,rfl⟩,st',λb hb=>(hf b hb).1⟩⟩;rw[Int.mul_one]
 done:=by intro X hP hw hK hc i pins s σ H E I hf st hg;subst hP hw hK;obtain⟨f0,f1,f2,f3,f4,f5⟩:=hf it (by simp);exact wpAny_pyNext_range_end (I.ok.hd hc) st (by have:n<=i:=hg;omega) λh' eb=>⟨rfl,I.turned (t':=s.toks) (λb o hb e=>eb b o hb e) f0 f1 f3 f4 f5⟩
 self:=λ_ _ _ _ _ st h=>wpAny_pyIter_rangeiter st h
theorem Mx{pins:YD}{σ:St}{H:Hp}{s:Shared}{R:It->Hp->Prop}{E:VP}{lo hi:Int}{t u v:Tok}{tk:Nat}(I:Inv X pins σ H s)(h1:-(2^62)<=lo)(h2:lo<2^62)(h3:-(2^62)<=hi)(h4:hi<2^62)(q:R (pG lo (hi-lo).toNat) H):wpAny (model X.prog X.w) X.A (pyIter (.ref s.heap.objs.size)) (vF X pins σ tg R) E {s with heap:=s.heap.push {cls:=.type "range",data:=.fields #[.int lo t,.int hi u,.int 1 v]},toks:=tk}:=by
 refine wpAny_pyIter_range (IsRange.new ..) (small_one h1 h2 h3 h4) ?_;have I1:Inv X pins σ H {s with heap:=s.heap.push {cls:=.type "range",data:=.fields #[.int lo t,.int hi u,.int 1 v]},toks:=tk}:=I.kept λb o e=>Uc _ e;refine⟨(s.heap.push {cls:=.type "range",data:=.fields #[.int lo t,.int hi u,.int 1 v]}).objs.size,[(s.heap.push {cls:=.type "range",data:=.fields #[.int lo t,.int hi u,.int 1 v]}).objs.size],_,_,H,rfl,I1.kept (t':=tk) λb o e=>Uc _ e,Ov _ lo (hi-lo).toNat,?_,λb hb=>?_,q⟩
 ·have e1:lo+((0:Nat):Int)*1=lo:=by simp
  have e2:(((hi-lo).toNat:Nat):Int) - ((0:Nat):Int)=Builtin.Range.rangeSize lo hi 1:=by rw[rangeSize_one];split<;>omega
  show IsRangeIter _ _ (lo+((0:Nat):Int)*1) ((((hi-lo).toNat:Nat):Int) - ((0:Nat):Int)) 1;rw[e1,e2];exact Uk _ rfl
 ·have e:b=(s.heap.push {cls:=.type "range",data:=.fields #[.int lo t,.int hi u,.int 1 v]}).objs.size:=by simpa using hb
  subst e;exact I1.fpOk (Ug _) (I1.hok.fresh (Ug _))
def pH(ta:TA):TI:=λσ H R=>ta σ H λvs H1=>∃j:Int,vs=[.int j]/\-(2^62)<=j/\j<2^62/\R (pG 0 j.toNat) H1
def pI(ta:TA):TI:=λσ H R=>ta σ H λvs H1=>∃i j:Int,vs=[.int i,.int j]/\(-(2^62)<=i/\i<2^62/\-(2^62)<=j/\j<2^62)/\R (pG i (j-i).toNat) H1
theorem S7(hg:Gl X "range")(hm:X.mg "range"=none)(ha:PA X [a] ta)(hs:starEach [a] X.env=[(false,eval a X.env)]:=by rfl):PI X tg (.Call (.Name "range" p) [a] [] pos) (pH ta):=by
 intro pins s σ H R I h;refine Call_ (Xv I hg hm boot_range (UR (ZD (ha pos pins s σ H _ I h) λus s1 ⟨vs,H1,I1,r1,q1⟩=>?_) hs rfl));obtain⟨j,e,q1,q2,q⟩:=q1;subst e;cases r1 with
 |cons r rr =>cases rr;obtain⟨t,rfl⟩:=r;exact call_range_1 (Mx I1 (by omega) (by omega) q1 q2 (by simpa using q))
theorem S8(hg:Gl X "range")(hm:X.mg "range"=none)(ha:PA X [a,b] ta)(hs:starEach [a,b] X.env=[(false,eval a X.env),(false,eval b X.env)]:=by rfl)(hs2:starEach [b] X.env=[(false,eval b X.env)]:=by rfl):
  PI X tg (.Call (.Name "range" p) [a,b] [] pos) (pI ta):=by
 intro pins s σ H R I h;refine Call_ (Xv I hg hm boot_range (UR (ZD (ha pos pins s σ H _ I h) λus s1 ⟨vs,H1,I1,r1,q1⟩=>?_) (by rw[hs,hs2]) (by rw[hs2];rfl)));obtain⟨i,j,e,⟨q1,q2,q3,q4⟩,q⟩:=q1;subst e;cases r1 with
 |cons r rr=>
  cases rr with
  |cons r' rr =>cases rr;obtain⟨t,rfl⟩:=r;obtain⟨t',rfl⟩:=r';exact call_range_2 (Mx I1 q1 q2 q3 q4 q)
def tJ(wi:TI)(g:TG)(tb:TS):TS:=λD σ H=>wi σ H λJ H1=>∃W:Nat->Nat->St->Hp->Prop,(∃m,W 0 m σ H1)/\∀i m σ H,W i m σ H->(J.stop i H/\D.nx σ H)\/(J.go i H/\∃N:St->Hp->Prop,(∀σ' H',N σ' H'->∃m',m'<m/\W (i+1) m' σ' H')/\∀x H',J.yld i H x H'->g x σ H' λσ2 H2=>tb {D with nx:=N,ct:=N,bk:=D.nx} σ2 H2)
def Gu(fp:List Addr)(h:Heap):List (Addr×Obj):=fp.filterMap λb=>(h.get? b).map λo=>(b,o)
theorem VC(hb:b∈fp)(e:h.get? b=some o):(b,o)∈Gu fp h:=WY.mpr ⟨b,hb,by rw[e];rfl⟩
theorem S9(hp:p∈Gu fp h):p.1∈fp/\h.get? p.1=some p.2:=by
 obtain⟨b,hb,e⟩:=WY.mp hp;cases q:h.get? b with
 |none=>rw[q]at e;cases e|some o =>rw[q]at e;have e':(b,o)=p:=Option.some.inj e;subst e';exact⟨hb,q⟩
theorem Inv.pinned(I:Inv X pins σ H s)(hf:∀b∈fp,FpOk X pins H b)(ho:∀b∈fp,∃o,s.heap.get? b=some o/\∀v,o.data≠.cell v):Inv X (pins++Gu fp s.heap) σ H s:=
 I.pins_of λp hp=>(UO.mp hp).elim (λz=>I.pin p (UQ _ z)) λz=>by obtain⟨hb,e⟩:=S9 z;obtain⟨f0,f1,f2,_⟩:=hf p.1 hb;obtain⟨o,e',d⟩:=ho p.1 hb;rw[e]at e';cases e';exact⟨e,f0,f1,f2,d⟩
theorem Inv.unpinned(I:Inv X (pins++pl) σ H s):Inv X pins σ H s:=I.pins_of λp hp=>I.pin p (UQ _ (Rl _ hp))
theorem kS{iter:Expr}{body:List Stmt}{wi:TI}{g:TG}{tb:TS}{pos:Pos}(hp:PassesOwn (model X.prog X.w) X.A X.env X.xe)(hc:X.calm=true)(hi:PI X tg iter wi)(hg:PG X tg g)(hb:PN X body tb)(hs:∀x,foldedSetIterable iter X.env x=pure x:=by intro _;rfl):PS X (.For tg iter body [] pos) (tJ wi g tb):=by
 intro pins s σ H D I h;refine wpAny_For (ZD (hi pins s σ H _ I h) λv s1 h1=>ZD h1 λitv s2 h2=>?_) hs;obtain⟨it,fp,tn,J,H2,e,I2,T,st2,f2,W,⟨m0,w0⟩,turn⟩:=h2;subst e
 -- what stays true of the iterator's objects through the loop
 have stat:∀{H':Hp},(∀b∈fp,H' b=none)->∀b∈fp,FpOk X pins H' b:=λhn b hb=>⟨hn b hb,(f2 b hb).2⟩;refine codeAny_forLoop_any (λn s'=>∃i σ' H',Inv X pins σ' H' s'/\tn i s'.heap/\(∀b∈fp,H' b=none)/\W i n σ' H') ?_ m0 ⟨0,σ,H2,I2,st2,λb hb=>(f2 b hb).1,w0⟩;rintro n s3 ⟨i,σ3,H3,I3,st3,fr3,w3⟩;rcases turn i n σ3 H3 w3 with⟨stop,qn⟩|⟨go,N,hN,step⟩
 ·refine Rm hp (ZD (T.done X rfl rfl rfl hc i pins s3 σ3 H3 X.xe I3 (stat fr3) st3 stop) λr s4 ⟨hr,I4⟩=>?_);subst hr;exact WG ⟨σ3,H3,I4,qn⟩
 ·refine Rm hp (ZD (T.item X rfl rfl rfl hc i pins s3 σ3 H3 X.xe I3 (stat fr3) st3 go) λr s4 ⟨u,hr,h4⟩=>?_);subst hr;refine Rm hp (ZD h4 λ_ s5 ⟨x,H5,I5,r5,y5,st5,fr5⟩=>?_);have I5':=I5.pinned (stat fr5) (T.obj _ _ st5);refine Rm hp (ZD (hg _ s5 σ3 H5 x u _ I5' r5 (step x H5 y5)) λ_ s6 ⟨σ6,H6,I6,q6⟩=>?_);refine Rm hp (ZD (hb _ s6 σ6 H6 _ I6 q6) λf s7 q7=>?_);have again:∀{σ7:St}{H7:Hp},Inv X (pins++Gu fp s5.heap) σ7 H7 s7->N σ7 H7->∃m,m<n/\∃i σ' H',Inv X pins σ' H' s7/\tn i s7.heap/\(∀b∈fp,H' b=none)/\W i m σ' H':=λ{σ7 H7} I7 n7=>by obtain⟨m',hm,w7⟩:=hN σ7 H7 n7;refine⟨m',hm,i+1,σ7,H7,I7.unpinned,T.keep _ _ _ st5 λb hb o e=>(I7.pin (b,o) (UQ _ (UQ _ (VC hb e)))).1,λb hb=>?_,w7⟩;obtain⟨o,e,d⟩:=T.obj _ _ st5 b hb;exact(I7.pin (b,o) (UQ _ (UQ _ (VC hb e)))).2.1
  cases f with
  |next=>obtain⟨σ7,H7,I7,n7⟩:=q7;exact again I7 n7|cont=>obtain⟨σ7,H7,I7,n7⟩:=q7;exact again I7 n7|brk=>obtain⟨σ7,H7,I7,q7⟩:=q7;exact⟨σ7,H7,I7.unpinned,q7⟩|ret v=>obtain⟨x7,σ7,H7,I7,r7,q7⟩:=q7;exact⟨x7,σ7,H7,I7.unpinned,r7,q7⟩
abbrev R2:=V->V->Hp->VK->Prop
def OpR(X:Cx)(f:Value->Value->Sem Value)(r:R2):Prop:=∀(pins:YD)(s:Shared)(σ:St)(H:Hp)(x y:V)(v u:Value)(Q:VK),Inv X pins σ H s->RelV x v->RelV y u->r x y H Q->wpAny (model X.prog X.w) X.A (f v u) (EP X pins σ Q) X.xe s
def rY(X:Cx)(f:Value->Sem Value)(r:V->Hp->VK->Prop):Prop:=∀(pins:YD)(s:Shared)(σ:St)(H:Hp)(x:V)(v:Value)(Q:VK),Inv X pins σ H s->RelV x v->r x H Q->wpAny (model X.prog X.w) X.A (f v) (EP X pins σ Q) X.xe s
def JL(X:Cx)(f:Value)(r:List V->Hp->VK->Prop):Prop:=∀(pins:YD)(s:Shared)(σ:St)(H:Hp)(xs:List V)(us:List Value)(Q:VK),Inv X pins σ H s->Vals xs us->r xs H Q->wpAny (model X.prog X.w) X.A (call f us) (EP X pins σ Q) X.xe s
def pJ(r:R2)(ta tb:TE):TE:=λσ H Q=>ta σ H λx H1=>tb σ H1 λy H2=>r x y H2 Q
def wC(r:V->Hp->VK->Prop)(ta:TE):TE:=λσ H Q=>ta σ H λx H1=>r x H1 Q
def rI(C:Int->Int->Prop)(g:Int->Int->V):R2:=λx y H Q=>∃i j,x=.int i/\y=.int j/\C i j/\Q (g i j) H
def dI(g:Int->Int->V):R2:=λx y H Q=>∃i j,x=.int i/\y=.int j/\Q (g i j) H
def rU(g:Int->V):V->Hp->VK->Prop:=λx H Q=>∃i,x=.int i/\Q (g i) H
theorem kT(ha:PE X a ta)(hb:PE X b tb){pins:YD}{s:Shared}{σ:St}{H:Hp}{R:V->V->Hp->Prop}(I:Inv X pins σ H s)(h:ta σ H λx H1=>tb σ H1 λy H2=>R x y H2){Q:VP}{f:Value->Value->Sem Value}(hf:∀v u s2 x y H2,Inv X pins σ H2 s2->RelV x v->RelV y u->R x y H2->wpAny (model X.prog X.w) X.A (f v u) Q X.xe s2):
  wpAny (model X.prog X.w) X.A (eval a X.env) (λv s₁=>wpAny (model X.prog X.w) X.A (eval b X.env) (λu s₂=>wpAny (model X.prog X.w) X.A (f v u) Q X.xe s₂) X.xe s₁) X.xe s:=by
 refine ZD (ha pins s σ H _ I h) λv s1 ⟨x,H1,I1,r1,q1⟩=>?_;refine ZD (hb pins s1 σ H1 _ I1 q1) λu s2 ⟨y,H2,I2,r2,q2⟩=>?_;exact hf v u s2 x y H2 I2 r1 r2 q2
theorem pK(ho:OpR X (binaryOp op) r)(ha:PE X a ta)(hb:PE X b tb):PE X (.BinOp a op b pos) (pJ r ta tb):=by intro pins s σ H Q I h;exact wpAny_BinOp (kT ha hb I h λv u s2 x y H2 I2 rx ry q=>ho pins s2 σ H2 x y v u Q I2 rx ry q)
theorem pL(ho:rY X (unaryOp op) r)(ha:PE X a ta):PE X (.UnaryOp op a pos) (wC r ta):=by intro pins s σ H Q I h;exact UnaryOp_ (ZD (ha pins s σ H _ I h) λv s1 ⟨x,H1,I1,r1,q1⟩=>ho pins s1 σ H1 x v Q I1 r1 q1)
theorem rZ{f:Value->Value->Sem Value}{C:Int->Int->Prop}{g:Int->Int->Int}(rule:∀(i j:Int) (t u:Tok) (s:Shared) (Q:VP) (E:VP),C i j->Q (.int (g i j) s.toks) {s with toks:=s.toks+1}->wpAny (model X.prog X.w) X.A (f (.int i t) (.int j u)) Q E s):
  OpR X f (rI C λi j=>.int (g i j)):=by
 intro pins s σ H x y v u Q I rx ry h;obtain⟨i,j,rfl,rfl,hc,q⟩:=h;obtain⟨t,rfl⟩:=rx;obtain⟨t',rfl⟩:=ry;exact rule i j t t' s _ _ hc ⟨.int (g i j),H,I.tok _,⟨_,rfl⟩,q⟩
theorem pM{f:Value->Value->Sem Value}{g:Int->Int->Int}(rule:∀(i j:Int) (t u:Tok) (s:Shared) (Q:VP) (E:VP),Q (.int (g i j) s.toks) {s with toks:=s.toks+1}->wpAny (model X.prog X.w) X.A (f (.int i t) (.int j u)) Q E s):
  OpR X f (dI λi j=>.int (g i j)):=by
 intro pins s σ H x y v u Q I rx ry h;obtain⟨i,j,rfl,rfl,q⟩:=h;obtain⟨t,rfl⟩:=rx;obtain⟨t',rfl⟩:=ry;exact rule i j t t' s _ _ ⟨.int (g i j),H,I.tok _,⟨_,rfl⟩,q⟩
theorem dY{f:Value->Value->Sem Value}{g:Int->Int->Bool}(rule:∀(i j:Int) (t u:Tok) (s:Shared) (Q:VP) (E:VP),Q (.bool (g i j)) s->wpAny (model X.prog X.w) X.A (f (.int i t) (.int j u)) Q E s):
  OpR X f (dI λi j=>.bl (g i j)):=by
 intro pins s σ H x y v u Q I rx ry h;obtain⟨i,j,rfl,rfl,q⟩:=h;obtain⟨t,rfl⟩:=rx;obtain⟨t',rfl⟩:=ry;exact rule i j t t' s _ _ ⟨.bl (g i j),H,I,rfl,q⟩
def tK(i j:Int):Prop:=0<j/\j<1073741824
def tL(i j:Int):Prop:=0<=j/\j<=1000000/\i.natAbs<2^64
def CMul(i j:Int):Prop:=(-(2^64)<i/\i<2^64)\/(-(2^64)<j/\j<2^64)
theorem CMul.ok(h:CMul i j):IntMulOk i j:=by
 rcases h with⟨h1,h2⟩|⟨h1,h2⟩
 ·exact .of_left (intBits_le_64 h1 h2)
 ·exact .of_right (intBits_le_64 h1 h2)
theorem op_add:OpR X (binaryOp .Add) (dI λi j=>.int (i+j)):=pM λ_ _ _ _ _ _ _ q=>add_int q
theorem kU:OpR X (binaryOp .Sub) (dI λi j=>.int (i-j)):=pM λ_ _ _ _ _ _ _ q=>sub_int q
theorem kW:OpR X (binaryOp .Mult) (rI CMul λi j=>.int (i*j)):=rZ λ_ _ _ _ _ _ _ hc q=>mul_int q hc.ok
theorem dZ:OpR X (binaryOp .FloorDiv) (rI tK λi j=>.int (i/j)):=rZ λi j _ _ _ _ _ hc q=>by have h1:(0:Int)<j:=hc.1;have h2:j<1073741824:=hc.2;exact floordiv_int (by omega) (by rw[Int.fdiv_eq_ediv_of_nonneg i (by omega)];exact q) (.inl (Bo (by omega)))
theorem kX:OpR X (binaryOp .Mod) (rI (λ_ j=>0<j) λi j=>.int (i%j)):=rZ λi j _ _ _ _ _ hc q=>by have h1:(0:Int)<j:=hc;exact mod_int' (by omega) (by rw[Int.fmod_eq_emod_of_nonneg i (by omega)];exact q)
theorem kY:OpR X (binaryOp .Pow) (rI tL λi j=>.int (i^j.toNat)):=rZ λ_ _ _ _ _ _ _ hc q=>pow_int_small hc.1 hc.2.1 hc.2.2 q
theorem wD{f:Value->Sem Value}{g:Int->Int}(rule:∀(i:Int) (t:Tok) (s:Shared) (Q:VP) (E:VP),Q (.int (g i) s.toks) {s with toks:=s.toks+1}->wpAny (model X.prog X.w) X.A (f (.int i t)) Q E s):
  rY X f (rU λi=>.int (g i)):=by
 intro pins s σ H x v Q I rx h;obtain⟨i,rfl,q⟩:=h;obtain⟨t,rfl⟩:=rx;exact rule i t s _ _ ⟨.int (g i),H,I.tok _,⟨_,rfl⟩,q⟩
theorem kZ:rY X (unaryOp .USub) (rU λi=>.int (-i)):=wD λ_ _ _ _ _ q=>neg_int q
def pN:V->V->Bool
 |.non,.non=>true | .non,.int _=>true | .int _,.non=>true | .non,.bl _=>true | .bl _,.non=>true | .non,.str _=>true | .str _,.non=>true|.int _,.int _=>true | .bl _,.bl _=>true | .str _,.str _=>true | .byt _,.byt _=>true|.int _,.str _=>true | .str _,.int _=>true | .bl _,.str _=>true | .str _,.bl _=>true|_,_=>false
def vG:R2:=λx y H Q=>pN x y=true/\Q (.bl (decide (x=y))) H
def vH:R2:=λx y H Q=>pN x y=true/\Q (.bl (!decide (x=y))) H
theorem Gd:decide (V.int i=V.int j)=(i==j):=by rw[Rn];simp
theorem Ow:decide (V.bl i=V.bl j)=(i==j):=by rw[Rn];simp
theorem Le:decide (V.str i=V.str j)=(i==j):=by rw[Rn];simp
theorem PU:decide (V.byt i=V.byt j)=(i.toList==j.toList):=by rw[Rn];cases i;cases j;simp
theorem Q5(I:Inv X pins σ H s)(q:Q (.bl k) H)(e:k=k'):EP X pins σ Q (.bool k') s:=by subst e;exact⟨.bl k,H,I,rfl,q⟩
theorem op_eq:OpR X (compareOp .Eq) vG:=by
 intro pins s σ H x y v u Q I rx ry h;obtain⟨hs,q⟩:=h;cases x with
 |non=>
  cases rx;cases y with
  |non=>cases ry;exact PySem.EqNone.eq_none_none (Q5 I q (by simp))|bl j=>cases ry;exact PySem.EqNone.eq_none_bool (Q5 I q (by simp))|int j=>obtain⟨t',rfl⟩:=ry;exact PySem.EqNone.eq_none_int (Q5 I q (by simp))|str j=>obtain⟨t',rfl⟩:=ry;exact PySem.EqNone.eq_none_str (Q5 I q (by simp))|_=>exact absurd (show false=true from hs) Ue
 |bl i=>
  cases rx;cases y with
  |non=>cases ry;exact PySem.EqNone.eq_bool_none (Q5 I q (by simp))|bl j=>cases ry;exact eq_bool (Q5 I q Ow)|str j=>obtain⟨t',rfl⟩:=ry;exact PySem.EqMixed.eq_bool_str (Q5 I q (by simp))|_=>exact absurd (show false=true from hs) Ue
 |int i=>
  obtain⟨t,rfl⟩:=rx;cases y with
  |non=>cases ry;exact PySem.EqNone.eq_int_none (Q5 I q (by simp))|int j=>obtain⟨t',rfl⟩:=ry;exact eq_int (Q5 I q Gd)|str j=>obtain⟨t',rfl⟩:=ry;exact PySem.EqMixed.eq_int_str (Q5 I q (by simp))|_=>exact absurd (show false=true from hs) Ue
 |str i=>
  obtain⟨t,rfl⟩:=rx;cases y with
  |non=>cases ry;exact PySem.EqNone.eq_str_none (Q5 I q (by simp))|bl j=>cases ry;exact PySem.EqMixed.eq_str_bool (Q5 I q (by simp))|int j=>obtain⟨t',rfl⟩:=ry;exact PySem.EqMixed.eq_str_int (Q5 I q (by simp))|str j=>obtain⟨t',rfl⟩:=ry;exact eq_str (Q5 I q Le)|_=>exact absurd (show false=true from hs) Ue
 |byt i=>
  obtain⟨t,rfl⟩:=rx;cases y with
  |byt j=>obtain⟨t',rfl⟩:=ry;exact eq_bytes (Q5 I q PU)|_=>exact absurd (show false=true from hs) Ue
 |_=>cases y<;>exact absurd (show false=true from hs) Ue
theorem pO:OpR X (compareOp .NotEq) vH:=by
 intro pins s σ H x y v u Q I rx ry h;obtain⟨hs,q⟩:=h;cases x with
 |non=>
  cases rx;cases y with
  |non=>cases ry;exact PySem.EqNone.ne_none_none (Q5 I q (by simp))|bl j=>cases ry;exact PySem.EqNone.ne_none_bool (Q5 I q (by simp))|int j=>obtain⟨t',rfl⟩:=ry;exact PySem.EqNone.ne_none_int (Q5 I q (by simp))|str j=>obtain⟨t',rfl⟩:=ry;exact PySem.EqNone.ne_none_str (Q5 I q (by simp))|_=>exact absurd (show false=true from hs) Ue
 |bl i=>
  cases rx;cases y with
  |non=>cases ry;exact PySem.EqNone.ne_bool_none (Q5 I q (by simp))|bl j=>cases ry;exact ne_bool (Q5 I q (Rf not Ow))|str j=>obtain⟨t',rfl⟩:=ry;exact PySem.EqMixed.ne_bool_str (Q5 I q (by simp))|_=>exact absurd (show false=true from hs) Ue
 |int i=>
  obtain⟨t,rfl⟩:=rx;cases y with
  |non=>cases ry;exact PySem.EqNone.ne_int_none (Q5 I q (by simp))|int j=>obtain⟨t',rfl⟩:=ry;exact ne_int (Q5 I q (Rf not Gd))|str j=>obtain⟨t',rfl⟩:=ry;exact PySem.EqMixed.ne_int_str (Q5 I q (by simp))|_=>exact absurd (show false=true from hs) Ue
 |str i=>
  obtain⟨t,rfl⟩:=rx;cases y with
  |non=>cases ry;exact PySem.EqNone.ne_str_none (Q5 I q (by simp))|bl j=>cases ry;exact PySem.EqMixed.ne_str_bool (Q5 I q (by simp))|int j=>obtain⟨t',rfl⟩:=ry;exact PySem.EqMixed.ne_str_int (Q5 I q (by simp))|str j=>obtain⟨t',rfl⟩:=ry;exact ne_str (Q5 I q (Rf not Le))|_=>exact absurd (show false=true from hs) Ue
 |byt i=>
  obtain⟨t,rfl⟩:=rx;cases y with
  |byt j=>obtain⟨t',rfl⟩:=ry;exact ne_bytes (Q5 I q (Rf not PU))|_=>exact absurd (show false=true from hs) Ue
 |_=>cases y<;>exact absurd (show false=true from hs) Ue
theorem iS:OpR X (compareOp .Lt) (dI λi j=>.bl (decide (i<j))):=dY λ_ _ _ _ _ _ _ q=>lt_int q
theorem iT:OpR X (compareOp .LtE) (dI λi j=>.bl (decide (i<=j))):=dY λ_ _ _ _ _ _ _ q=>le_int q
theorem iU:OpR X (compareOp .Gt) (dI λi j=>.bl (decide (j<i))):=dY λ_ _ _ _ _ _ _ q=>gt_int q
theorem pP:OpR X (compareOp .GtE) (dI λi j=>.bl (decide (j<=i))):=dY λ_ _ _ _ _ _ _ q=>ge_int q
theorem Dr:OpR X (compareOp .Is) (λx y H Q=>y=.non/\Q (.bl (decide (x=.non))) H):=by
 intro pins s σ H x y v u Q I rx ry h;obtain⟨rfl,q⟩:=h;cases ry;refine is_none_gen (Q5 I q ?_);cases x<;>first
  | (cases rx;rfl)
  | (obtain⟨t,rfl⟩:=rx;rfl)
theorem eB:OpR X (compareOp .IsNot) (λx y H Q=>y=.non/\Q (.bl (!decide (x=.non))) H):=by
 intro pins s σ H x y v u Q I rx ry h;obtain⟨rfl,q⟩:=h;cases ry;refine isnot_none_gen (Q5 I q ?_);cases x<;>first
  | (cases rx;rfl)
  | (obtain⟨t,rfl⟩:=rx;rfl)
theorem OpR.or(h:OpR X f r)(h':OpR X f r'):OpR X f (λx y H Q=>r x y H Q\/r' x y H Q):=by
 intro pins s σ H x y v u Q I rx ry q;rcases q with q|q
 ·exact h pins s σ H x y v u Q I rx ry q
 ·exact h' pins s σ H x y v u Q I rx ry q
theorem Xw(b:Expr)(h:op≠.In:=by decide)(h2:op≠.NotIn:=by decide):behindInMarks op b=false:=by
 have e1:(op==CmpOp.In)=false:=by cases op<;>first|rfl|exact absurd rfl h
 have e2:(op==CmpOp.NotIn)=false:=by cases op<;>first|rfl|exact absurd rfl h2
 cases b<;>simp[behindInMarks,e1,e2]
theorem eD(ho:OpR X (compareOp op) r)(ha:PE X a ta)(hb:PE X b tb)(hm:behindInMarks op b=false):PE X (.Compare a [op] [b] pos) (pJ r ta tb):=by intro pins s σ H Q I h;exact wpAny_Compare1 (kT ha hb I h λv u s2 x y H2 I2 rx ry q=>ho pins s2 σ H2 x y v u Q I2 rx ry q) hm
def pQ(t:TE):TT:=λσ H Q=>t σ H λx H'=>∃k,x=.bl k/\Q k H'
theorem eF(ho:OpR X (compareOp op) r)(ha:PE X a ta)(hb:PE X b tb)(hm:behindInMarks op b=false):PT X (.Compare a [op] [b] pos) (pQ (pJ r ta tb)):=by
 intro pins s σ H Q I h;refine wpAny_isTrue_Compare1 (ZD (ha pins s σ H _ I h) λv s1 ⟨x,H1,I1,r1,q1⟩=>ZD (hb pins s1 σ H1 _ I1 q1) λu s2 ⟨y,H2,I2,r2,q2⟩=>
  ZD (ho pins s2 σ H2 x y v u _ I2 r1 r2 q2) λc s3 ⟨z,H3,I3,r3,k,e,q3⟩=>?_) hm
 subst e;cases r3;exact Ta ⟨H3,I3,q3⟩
def Ds(r r':R2)(ta tb tc:TE):TE:=λσ H Q=>ta σ H λx H1=>tb σ H1 λy H2=>r x y H2 λz H3=>∃k,z=.bl k/\(if k=true then tc σ H3 λw' H4=>r' y w' H4 Q else Q (.bl false) H3)
theorem Dt{op op':CmpOp}{r r':R2}(ho:OpR X (compareOp op) r)(ho':OpR X (compareOp op') r')(ha:PE X a ta)(hb:PE X b tb)(hc:PE X c tc)(hm:lastMarks [op,op'] [b,c]=false:=by with_unfolding_all rfl):PE X (.Compare a [op,op'] [b,c] pos) (Ds r r' ta tb tc):=by
 intro pins s σ H Q I h;refine Compare_chain (ZD (ha pins s σ H _ I h) λv s1 ⟨x,H1,I1,r1,q1⟩=>chain_link (ZD (hb pins s1 σ H1 _ I1 q1) λu s2 ⟨y,H2,I2,r2,q2⟩=>
  ZD (ho pins s2 σ H2 x y v u _ I2 r1 r2 q2) λd s3 ⟨z,H3,I3,r3,k,e,q3⟩=>?_)) hm
 subst e;cases r3;refine Ta ?_;cases k with
 |false=>exact ite_ff ⟨.bl false,H3,I3,rfl,q3⟩|true=>exact ite_tt (chain_last (ZD (hc pins s3 σ H3 _ I3 q3) λw' s4 ⟨z',H4,I4,r4,q4⟩=>ho' pins s4 σ H4 y z' u w' Q I4 r2 r4 q4))
theorem Km:(sizeLine:Nat)<2^63:=by rw[Td];decide
theorem iV(r:Vals [x] us):∃u,us=[u]/\RelV x u:=by
 cases r with
 |cons r1 r2=>cases r2;exact⟨_,rfl,r1⟩
theorem iW(r:Vals [x,y] us):∃u w',us=[u,w']/\RelV x u/\RelV y w':=by
 cases r with
 |cons r1 r2=>
  cases r2 with
  |cons r3 r4=>cases r4;exact⟨_,_,rfl,r1,r3⟩
theorem Aa(hc:X.calm=true):JL X (.builtin "max") (λxs H Q=>∃i j,xs=[.int i,.int j]/\Q (.int (if j>i then j else i)) H):=by
 intro pins s σ H xs us Q I r h;obtain⟨i,j,rfl,q⟩:=h;obtain⟨u,w',rfl,⟨t,rfl⟩,⟨t',rfl⟩⟩:=iW r;refine max_two_ints (I.ok.hd hc) λh' tk k=>⟨_,H,I.kept k,?_,q⟩;by_cases hj:j>i
 ·rw[Ud hj,Ud hj];exact⟨_,rfl⟩
 ·rw[Uf hj,Uf hj];exact⟨_,rfl⟩
theorem Ab(hc:X.calm=true):JL X (.builtin "min") (λxs H Q=>∃i j,xs=[.int i,.int j]/\Q (.int (if j<i then j else i)) H):=by
 intro pins s σ H xs us Q I r h;obtain⟨i,j,rfl,q⟩:=h;obtain⟨u,w',rfl,⟨t,rfl⟩,⟨t',rfl⟩⟩:=iW r;refine min_two_ints (I.ok.hd hc) λh' tk k=>⟨_,H,I.kept k,?_,q⟩;by_cases hj:j<i
 ·rw[Ud hj,Ud hj];exact⟨_,rfl⟩
 ·rw[Uf hj,Uf hj];exact⟨_,rfl⟩
structure ObjM(h:Heap)(x dx C:Addr)(mA:Vb):Prop where
 obj:h.get? x=some (instObj C dx)
 ns:h.Ns1 dx mA
 ne:dx≠x
theorem Ac{h:Heap}{dx:Addr}{mA:Vb}(n:h.Ns1 dx mA):∃od,h.get? dx=some od/\∀name,lookIn name od=some (mA name):=by
 obtain⟨o,es,ep,ho,hd,hk,_,hm⟩:=n;refine⟨o,ho,λname=>?_⟩;have e:=hm name;unfold nsFind findBy at e;rw[<-Array.find?_toList]at e;unfold lookIn;rw[hd];dsimp only;split
 ·rename_i y q;rw[q]at e;exact Rf some e
 ·rename_i q;rw[q]at e;have a:es.toList.any (·.refKey)=false:=by rw[List.any_eq_false];intro y hy;obtain⟨z,t,hkey⟩:=hk y (Array.mem_toList_iff.mp hy);simp[DictEntry.refKey,hkey]
  have a':¬es.toList.any (·.refKey)=true:=by rw[a];exact Ue
  rw[Uf a'];exact Rf some e
theorem ObjM.look(I:ObjM h x dx C mA):∃od,PySem.W.InstAt h x (instObj C dx) C (some od)/\∀name,lookIn name od=some (mA name):=
 let ⟨od,ho,hl⟩:=Ac I.ns
 ⟨od,⟨I.obj,rfl,rfl,ho⟩,hl⟩
section
variable{prog:Program}{w:World}{A:Around}{E:VP}{s:Shared}{K:Frag}{x dx C f:Addr}{mA:Vb}{name:Str}{v:Value}
theorem eG{expr:Bool}{Q:VP}(X:K.In s.heap)(I:ObjM s.heap x dx C mA)(hg:plainGet K C name=true)(hh:hasDictIn K C=true)(ha:findIn K (.ref C) name=some none)(hv:mA name=some v)(hv':handedIn v=true)(h:Q v {s with toks:=s.toks+1}):
  wpAny (model prog w) A (getAttr (.ref x) name expr) Q E s:=by
 obtain⟨od,J,hl⟩:=I.look;exact get_value X J (WL hg).1 (findObj_own hh ha rfl (by rw[hl,hv])) hv' h
theorem Du{pl:Sem Bool}{Q:Value×List Value->Shared->Prop}(X:K.In s.heap)(I:ObjM s.heap x dx C mA)(hg:plainGet K C name=true)(hf:findIn K (.ref C) name=some (some (.ref f)))(ht:isFn K (.ref f)=true)(hv:mA name=none)(h:Q (.ref f,[.ref x]) s):
  wpAny (model prog w) A (getMethod (.ref x) name pl) Q E s:=by
 obtain⟨od,J,hl⟩:=I.look;exact method_fn X J (WL hg).1 (WL hg).2 hf (Tn.mp ht) (by show(lookIn name od).map (·.isSome)=some false;rw[hl,hv];rfl) h
theorem eH{ns:List Str}{Q:Unit->Shared->Prop}(X:K.In s.heap)(I:ObjM s.heap x dx C mA)(hs:findIn K (.ref C) "__setattr__"=some (some (.builtin "object.__setattr__")))(hp:plainOver K C=true)(ht:takerIn K C name=some none)(hh:hasDictIn K C=true)(hw:PySem.Within mA ns)(hsz:ns.length<=sizeLine)(h:∀h',ObjM h' x dx C (λy=>if y=name then some v else mA y)->Heap.SameBut dx s.heap h'->Q () {s with heap:=h',toks:=s.toks+2}):
  wpAny (model prog w) A (setAttr (.ref x) name v) Q E s:=by
 obtain⟨od,J,hl⟩:=I.look;refine set_plain X J hs (osa_open (s:={s with toks:=s.toks+1}) (r:=none) X J hp ht λb=>?_);obtain⟨cd,hc,hd'⟩:=any_some hh;have hx:s.heap.get? x=some ⟨.ref C,some dx,.plain,#[]⟩:=I.obj;refine Ua (Ub (Ua (Ua (BO hx (Ua (Looks.here (s:={s with toks:=s.toks+1}) (looks_clsIn X hc) ?_))))));rw[hd'];refine Ub (a:=some dx) (Ua (Ub (Ua ?_)));refine wpAny_nsSet1 (s:={s with toks:=s.toks+1}) I.ns λh' hn2 hs2=>?_;obtain⟨oD,esD,epD,hoD,hdD,hcD⟩:=hn2.count (PySem.Within.cons name v hw);refine Ua (wpAny_lookBehind hoD (by rw[hdD];exact pastItsLine_dict (Uo hcD (by rw[UA];omega))) ?_);exact Ub (h _ ⟨(hs2.2 _ (Ne.symm I.ne)).trans I.obj,hn2,I.ne⟩ hs2)
theorem Dv{R:Result->Shared->Prop}{vs:List Value}{kw:List (Str×Value)}(X:K.In s.heap)(hm:makesIn K C=true)(hi:findIn K (.ref C) "__init__"=some (some (.ref f)))(hf:typeIn K (.ref f)=some (.type "function"))(h:codeAny (model prog w) (A.under (.builtin "type.__call__" ⟨.ref C::vs,kw⟩)) (.call (.ref f) ⟨.ref (s.heap.objs.size+1)::vs,kw⟩) (InitBack (s.heap.objs.size+1) R)
   {s with heap:=(s.heap.push emptyDict).push (instObj C s.heap.objs.size)}):
  codeAny (model prog w) A (.call (.ref C) ⟨vs,kw⟩) R s:=by
 obtain⟨hh,g,d,t,os⟩:=s;exact make_core (makes_of X hm) (Wy X hi) (λself=>bind_fn X self hf) (.inl rfl) h
end
def VD(f:Str)(v:V):List (Str×V)->List (Str×V)
 |[]=>[(f,v)]| (g,x)::r=>if g=f then (g,v)::r else (g,x)::VD f v r
theorem FB(f g:Str)(v:V):∀fs:List (Str×V),(VD f v fs).lookup g=if g=f then some v else fs.lookup g
 |[]=>by
  show List.lookup g [(f,v)]=_;by_cases h:g=f
  ·have hb:(g==f)=true:=Tn.mpr h;simp only[List.lookup,hb,Ud h]
  ·have hb:(g==f)=false:=U2.mpr h;simp only[List.lookup,hb,Uf h]
 | (k,x)::r=>by
  have ih:=FB f g v r;rw[show VD f v ((k,x)::r)=(if k=f then (k,v)::r else (k,x)::VD f v r) from rfl];by_cases hk:k=f
  ·rw[Ud hk];by_cases h:g=k
   ·have hb:(g==k)=true:=Tn.mpr h;simp only[List.lookup,hb,Ud (h.trans hk)]
   ·have hb:(g==k)=false:=U2.mpr h;simp only[List.lookup,hb,Uf (λe:g=f=>h (e.trans hk.symm))]
  ·rw[Uf hk];by_cases h:g=k
   ·have hb:(g==k)=true:=Tn.mpr h;simp only[List.lookup,hb,Uf (λe:g=f=>hk (h.symm.trans e))]
   ·have hb:(g==k)=false:=U2.mpr h;simp only[List.lookup,hb];exact ih
theorem E0(f:Str)(v:V):∀fs:List (Str×V),f∈(VD f v fs).map (·.1)/\∀g,g∈fs.map (·.1)->g∈(VD f v fs).map (·.1)
 |[]=>⟨by simp[VD],λg h=>by simp at h⟩| (k,x)::r=>by
  obtain⟨i1,i2⟩:=E0 f v r;rw[show VD f v ((k,x)::r)=(if k=f then (k,v)::r else (k,x)::VD f v r) from rfl];by_cases hk:k=f
  ·rw[Ud hk];subst hk;exact⟨by simp,λg h=>by simpa using h⟩
  ·rw[Uf hk];refine⟨?_,λg h=>?_⟩
   ·rw[UL];exact Uw _ i1
   ·rw[UL]at h ⊢;rcases Uz.mp h with e|e
    ·exact Uz.mpr (.inl e)
    ·exact Uw _ (i2 g e)
theorem FC(f:Str)(v:V):∀fs:List (Str×V),(VD f v fs).length<=fs.length+1
 |[]=>by simp[VD]
 | (k,x)::r=>by
  have ih:=FC f v r;rw[show VD f v ((k,x)::r)=(if k=f then (k,v)::r else (k,x)::VD f v r) from rfl];by_cases hk:k=f
  ·rw[Ud hk,UA,UA];omega
  ·rw[Uf hk,UA,UA];omega
theorem RelO.some_of(r:RelO (some v) o):∃u,o=some u/\RelV v u:=by
 cases o with
 |none=>exact(show False from r).elim|some u=>exact⟨u,rfl,r⟩
theorem RelO.none_of(r:RelO none o):o=none:=by
 cases o with
 |none=>rfl|some u=>exact(show False from r).elim
theorem Ad(r:RelV v u):handedIn u=true:=by
 cases v with
 |non=>cases (show u=Value.none from r);rfl|bl b=>cases (show u=Value.bool b from r);rfl|int i=>obtain⟨t,e⟩:=(show ∃t,u=Value.int i t from r);cases e;rfl|str x=>obtain⟨t,e⟩:=(show ∃t,u=Value.str x t from r);cases e;rfl|byt b=>obtain⟨t,e⟩:=(show ∃t,u=Value.bytes b t from r);cases e;rfl|flt b=>obtain⟨t,e⟩:=(show ∃t,u=Value.float b t from r);cases e;rfl|ref a=>cases (show u=Value.ref a from r);rfl|ty n=>cases (show u=Value.type n from r);rfl
theorem Ge(hok:HOk P w H h)(e:H a=some (.ins C dx fs)):∃mA,ObjM h a dx C mA/\(∀f,RelO (fs.lookup f) (mA f))/\PySem.Within mA (fs.map (·.1))/\fs.length<=1000/\H dx=some (.own a):=by obtain⟨d,z,ne,ob,mA,n,r,q⟩:=(show ObjOk P w H h a (.ins C dx fs) from hok a _ e);exact⟨mA,⟨ob,n,ne⟩,r,q,z,d⟩
structure Cls(K:Frag)(C:Addr):Prop where
 pg:plainGet K C Str.empty=true
 hd:hasDictIn K C=true
 po:plainOver K C=true
 sa:findIn K (.ref C) "__setattr__"=some (some (.builtin "object.__setattr__"))
theorem Cls.get{K:Frag}{C:Addr}(c:Cls K C)(f:Str):plainGet K C f=true:=c.pg
def NoAttr(K:Frag)(C:Addr)(f:Str):Prop:=findIn K (.ref C) f=some none
theorem NoAttr.taker{K:Frag}{C:Addr}{f:Str}(n:NoAttr K C f):takerIn K C f=some none:=by unfold takerIn;rw[show findIn K (.ref C) f=some none from n];rfl
structure Meth(K:Frag)(C:Addr)(m:Str)(f:Addr):Prop where
 at_:findIn K (.ref C) m=some (some (.ref f))
 fn:isFn K (.ref f)=true
 kp:keepIn K (.ref f)=true
theorem Ox{b:Bool}{Q:VP}(I:Inv X pins σ H s)(e:H a=some (.ins C dx fs))(c:Cls X.K C)(n:NoAttr X.K C f)(l:fs.lookup f=some v)(h:∀u s',Inv X pins σ H s'->RelV v u->Q u s'):wpAny (model X.prog X.w) A (getAttr (.ref a) f b) Q E s:=by obtain⟨mA,O,r,_,_,_⟩:=Ge I.hok e;obtain⟨u,hu,ru⟩:=RelO.some_of (v:=v) (o:=mA f) (by rw[<-l];exact r f);exact eG I.kIn O (c.get f) c.hd n hu (Ad ru) (h u _ (I.tok _) ru)
theorem Gv{m:Str}{g:Addr}{pl:Sem Bool}{Q:Value×List Value->Shared->Prop}(I:Inv X pins σ H s)(e:H a=some (.ins C dx fs))(c:Cls X.K C)(k:Meth X.K C m g)(l:fs.lookup m=none)(h:Q (.ref g,[.ref a]) s):wpAny (model X.prog X.w) A (getMethod (.ref a) m pl) Q E s:=by obtain⟨mA,O,r,_,_,_⟩:=Ge I.hok e;have hn:mA m=none:=RelO.none_of (by rw[<-l];exact r m);exact Du I.kIn O (c.get m) k.at_ k.fn hn h
theorem setattr_ok{y:V}{u:Value}{Q:Unit->Shared->Prop}(I:Inv X pins σ H s)(e:H a=some (.ins C dx fs))(c:Cls X.K C)(n:NoAttr X.K C f)(hl:fs.length<1000)(ry:RelV y u)(h:∀s',Inv X pins σ (Zi H a (.ins C dx (VD f y fs))) s'->Q () s'):wpAny (model X.prog X.w) A (setAttr (.ref a) f u) Q E s:=by
 obtain⟨mA,O,r,wi,_,ho⟩:=Ge I.hok e;have hz:(fs.map (·.1)).length<=sizeLine:=by rw[Uh,Td];omega
 refine eH I.kIn O c.sa c.po n.taker c.hd wi hz λh' O' sb=>h _ ?_;have hd:∃o,h'.get? dx=some o:=let ⟨o,_,_,e',_⟩:=O'.ns;⟨o,e'⟩;refine I.write (x:=a) (e:=dx) (by rw[e];exact True.intro) (.inr ho) (λb q hb z=>(sb.2 b hb).trans z) hd ?_;refine⟨by rw[Qz O.ne];exact ho,?_,O.ne,O'.obj,_,O'.ns,λg=>?_,λg hg=>?_⟩
 ·have:=FC f y fs;omega
 ·show RelO ((VD f y fs).lookup g) (if g=f then some u else mA g);rw[FB];by_cases q:g=f
  ·rw[Ud q,Ud q];exact ry
  ·rw[Uf q,Uf q];exact r g
 ·by_cases q:g=f
  ·rw[q];exact(E0 f y fs).1
  ·refine(E0 f y fs).2 g (wi g λz=>hg ?_);show(if g=f then some u else mA g)=none;rw[Uf q];exact z
theorem Inv.made(I:Inv X pins σ H s):Inv X pins σ (Zi (Zi H s.heap.objs.size (.own (s.heap.objs.size+1))) (s.heap.objs.size+1) (.ins C s.heap.objs.size []))
  {s with heap:=(s.heap.push emptyDict).push (instObj C s.heap.objs.size)}:=by
 have e1:(s.heap.push emptyDict).get? s.heap.objs.size=some emptyDict:=Uk s.heap rfl;have e2:((s.heap.push emptyDict).push (instObj C s.heap.objs.size)).get? (s.heap.objs.size+1)=some (instObj C s.heap.objs.size):=by have:=Uk (s.heap.push emptyDict) (o:=instObj C s.heap.objs.size) rfl;rwa[TZ]at this
 have e3:(s.heap.push emptyDict).Ns s.heap.objs.size (λ_=>none):=⟨emptyDict,#[],_,e1,rfl,(λe he=>absurd he (by simp)),λ_=>rfl⟩;have I1:=I.laid (a:=s.heap.objs.size) (o:=.own (s.heap.objs.size+1)) (h':=s.heap.push emptyDict) (t':=s.toks) (λb u q=>Uc _ q) (Ug _) ⟨_,e1⟩;refine I1.laid (a:=s.heap.objs.size+1) (o:=.ins C s.heap.objs.size []) (t':=s.toks) (λb u q=>Uc _ q) (Nat.le_of_eq (TZ _ _)) ?_;have ne:s.heap.objs.size≠s.heap.objs.size+1:=UH (TB _);refine⟨by rw[Qz ne,Qy],T3 _,ne,e2,λ_=>none,(Heap.Ns1.of_empty e3).at λo q=>Uc _ q,λ_=>True.intro,λy hy=>absurd rfl hy⟩
theorem eI{prog:Program}{w:World}{env:Env}{e:Expr}{f:Str}{pos:Pos}{s:Shared}{Q:VP}(hb:attributeBase e f env (eval e env)=eval e env)(h:wpAny (model prog w) A (eval e env) (λo s₁=>wpAny (model prog w) A (getAttr o f true) Q E s₁) E s):wpAny (model prog w) A (eval (.Attribute e f pos) env) Q E s:=Attribute_any_ h (by rw[arm_eval_Attribute,hb])
def tM(K:Frag)(ta:TE)(f:Str):TE:=λσ H Q=>ta σ H λx H1=>∃a C dx fs v,x=.ref a/\H1 a=some (.ins C dx fs)/\Cls K C/\NoAttr K C f/\fs.lookup f=some v/\Q v H1
def tN(K:Frag)(ta tv:TE)(f:Str):TS:=λD σ H=>tv σ H λy H1=>ta σ H1 λx H2=>∃a C dx fs,x=.ref a/\H2 a=some (.ins C dx fs)/\Cls K C/\NoAttr K C f/\fs.length<1000/\D.nx σ (Zi H2 a (.ins C dx (VD f y fs)))
theorem lA(he:PE X e ta)(hb:attributeBase e f X.env (eval e X.env)=eval e X.env):PE X (.Attribute e f pos) (tM X.K ta f):=by intro pins s σ H Q I h;refine eI hb (ZD (he pins s σ H _ I h) λu s1 ⟨x,H1,I1,rx,a,C,dx,fs,v,ex,ea,c,n,l,q⟩=>?_);subst ex;obtain rfl:u=Value.ref a:=rx;exact Ox I1 ea c n l λu' s2 I2 ru=>⟨v,H1,I2,ru,q⟩
theorem lC(ha:PE X o ta)(hv:PE X value tv)(hs:swapsWith value (some (.Attribute o f pos')) pos.line X.env=pure false):PS X (.Assign [.Attribute o f pos'] value pos) (tN X.K ta tv f):=by intro pins s σ H D I h;refine plainObj_wpAny_Assign_Attribute (ZD (hv pins s σ H _ I h) λu s1 ⟨y,H1,I1,ry,q⟩=>ZD (ha pins s1 σ H1 _ I1 q) λov s2 ⟨x,H2,I2,rx,a,C,dx,fs,ex,ea,c,n,l,q2⟩=>?_) hs;subst ex;obtain rfl:ov=Value.ref a:=rx;exact setattr_ok I2 ea c n l ry λs3 I3=>⟨σ,_,I3,q2⟩
inductive TyOf(K:Frag)(H:Hp):V->Value->Prop where
 |non:TyOf K H .non (.type "NoneType")
 |bl (x:Bool):TyOf K H (.bl x) (.type "bool")
 |int (i:Int):TyOf K H (.int i) (.type "int")
 |str (x:Str):TyOf K H (.str x) (.type "str")
 |flt (x:UInt64):TyOf K H (.flt x) (.type "float")
 |lst {a:Addr} {xs:List V} (e:H a=some (.lst xs)):TyOf K H (.ref a) (.type "list")
 |frz {a:Addr} {o:Obj} {xs:List V} (e:H a=some (.frz o (.lst xs))):TyOf K H (.ref a) (.type "list")
 |tup {a:Addr} {xs:List V} (e:H a=some (.tup xs)):TyOf K H (.ref a) (.type "tuple")
 |dK {a:Addr} {kvs:List (B6×V)} (e:H a=some (.dK kvs)):TyOf K H (.ref a) (.type "dict")
 |dT {a:Addr} {kvs:List (List B6×V)} (e:H a=some (.dT kvs)):TyOf K H (.ref a) (.type "dict")
 |ins {a C dx:Addr} {fs:List (Str×V)} (e:H a=some (.ins C dx fs)) (cl:Cls K C) (ha:findIn K (.ref C) "__class__"=some (some (.builtin "object.__class__")))
   (hn:specialIn K (.builtin "object.__class__") "__get__"=some (some (.builtin "getset_descriptor.__get__"))) (htk:takesIn K (.builtin "object.__class__")=some true)
   (hm:mroIn K C (.type "object")=some true):TyOf K H (.ref a) (.ref C)
theorem Ju(I:Inv X pins σ H s)(rx:RelV x u)(ty:TyOf X.K H x t)(e:kitOne X.K t c=some b)(h:∀tk,Q (.bool b) {s with toks:=tk}):
  wpAny (model X.prog X.w) A (call (.builtin "isinstance") [u,c]) Q E s:=by
 cases ty with
 |non=>cases (show u=Value.none from rx);exact UX kitx_none I.kIn True.intro e (λz=>nomatch z) h|bl y=>cases (show u=Value.bool y from rx);exact UX kitx_bool I.kIn True.intro e (λz=>nomatch z) h|int i=>obtain⟨t,q⟩:=(show ∃t,u=Value.int i t from rx);cases q;exact UX kitx_int I.kIn True.intro e (λz=>nomatch z) h|str y=>obtain⟨t,q⟩:=(show ∃t,u=Value.str y t from rx);cases q;exact UX kitx_str I.kIn True.intro e (λz=>nomatch z) h|flt y=>obtain⟨t,q⟩:=(show ∃t,u=Value.float y t from rx);cases q;exact UX kitx_float I.kIn True.intro e (λz=>nomatch z) h|@lst a xs ea =>cases (show u=Value.ref a from rx);obtain⟨_,_,n,_,h1⟩:=(show ObjOk X.prog X.w H s.heap a (.lst xs) from I.hok a _ ea);exact UX W7 I.kIn ⟨_,h1,rfl⟩ e (λz=>nomatch z) h|@frz a ob xs ea =>cases (show u=Value.ref a from rx);obtain⟨_,_,_,n,_,h1⟩:=(show ObjOk X.prog X.w H s.heap a (.frz ob (.lst xs)) from I.hok a _ ea);exact UX W7 I.kIn ⟨_,h1,rfl⟩ e (λz=>nomatch z) h|@tup a xs ea =>cases (show u=Value.ref a from rx);obtain⟨_,_,_,p⟩:=(show ObjOk X.prog X.w H s.heap a (.tup xs) from I.hok a _ ea);obtain⟨o,h1,h2,_⟩:=p;exact UX kitx_tuple I.kIn ⟨o,h1,h2⟩ e (λz=>nomatch z) h|@dK a kvs ea =>cases (show u=Value.ref a from rx);obtain⟨_,_,vs,_,p⟩:=(show ObjOk X.prog X.w H s.heap a (.dK kvs) from I.hok a _ ea);obtain⟨o,es,ep,h1,h2,_⟩:=p;exact UX kitx_dict I.kIn ⟨o,h1,h2.1⟩ e (λz=>nomatch z) h|@dT a kvs ea =>cases (show u=Value.ref a from rx);obtain⟨_,_,xs,_,o,es,ep,h1,h2,_⟩:=(show ObjOk X.prog X.w H s.heap a (.dT kvs) from I.hok a _ ea);exact UX kitx_dict I.kIn ⟨o,h1,h2.1⟩ e (λz=>nomatch z) h|@ins a C dx fs ea cl ha hn htk hm =>cases (show u=Value.ref a from rx);obtain⟨mA,O,_⟩:=Ge I.hok ea;obtain⟨od,J,_⟩:=O.look;exact UX (kitx_own (cl.get _) cl.hd ha hn htk hm) I.kIn J e (λz=>nomatch z) h
structure Room(k:Nat)(A:Around):Prop where
 hd:A.handled=none
 dp:A.depth+3*k+5<recursionLimit
 un:A.units+16*k+200<cLine
theorem Room.mono(r:Room k A)(h:j<=k):Room j A:=⟨r.hd,by have:=r.dp;omega,by have:=r.un;omega⟩
theorem Room.deeper(r:Room (k+1) A)(env:Env):Room k (A.deeper env):=⟨r.hd,by have:=r.dp;show A.depth+1+3*k+5<_;omega,by have:=r.un;show A.units+3+16*k+200<_;omega⟩
theorem Oy{A:Around}{C:Addr}{us:List Value}{kw:List (Str×Value)}:(A.under (.builtin "type.__call__" ⟨.ref C::us,kw⟩)).depth=A.depth+1:=by first|rfl|simp[Around.under,Code.weight,Code.isCreation,Code.isGuard,Code.isCaller,Code.frames,Code.isFrame,guardIds]
theorem Oz{A:Around}{C:Addr}{us:List Value}{kw:List (Str×Value)}:(A.under (.builtin "type.__call__" ⟨.ref C::us,kw⟩)).units=A.units+1:=by first|rfl|simp[Around.under,Code.cUnits,Code.frames,Code.isFrame]
theorem Room.make(r:Room (k+1) A)(C:Addr)(us:List Value)(kw:List (Str×Value)):Room k (A.under (.builtin "type.__call__" ⟨.ref C::us,kw⟩)):=⟨r.hd,by have:=r.dp;rw[Oy];omega,by have:=r.un;rw[Oz];omega⟩
theorem Room.depth(r:Room k A):A.depth<recursionLimit:=by have:=r.dp;omega
theorem Room.units(r:Room k A):A.units+64<cLine:=by have:=r.un;omega
def tO:TA:=λ_ H Q=>Q [] H
def pR(ta:TE)(tr:TA):TA:=λσ H Q=>ta σ H λx H1=>tr σ H1 λxs H2=>Q (x::xs) H2
theorem E1:PA X [] tO:=λ_ _ _ _ H Q I h=>Calls.spliced_nil ⟨[],H,I,.nil,h⟩
theorem YX(ha:PE X e te)(hr:PA X es t)(hs:starEach (e::es) X.env=(false,eval e X.env)::starEach es X.env:=by rfl):PA X (e::es) (pR te t):=by intro pos pins s σ H Q I h;rw[hs];show wpAny _ _ (spliced ((false,eval e X.env)::backTo pos (starEach es X.env))) _ _ s;refine Calls.spliced_cons (ZD (ha pins s σ H _ I h) λu s1 ⟨x,H1,I1,r1,q1⟩=>?_);exact ZD (hr pos pins s1 σ H1 _ I1 q1) λus s2 ⟨xs,H2,I2,r2,q2⟩=>⟨x::xs,H2,I2,.cons r1 r2,q2⟩
def tP(t:TA):TE:=λσ H Q=>t σ H λxs H1=>xs.length<=sizeLine/\∀p,H1 p=none->Q (.ref p) (Zi H1 p (.tup xs))
def tQ(t:TA):TE:=λσ H Q=>t σ H λxs H1=>xs.length<=sizeLine/\∀p,H1 p=none->Q (.ref p) (Zi H1 p (.lst xs))
theorem Dw(h:PA X es t):PE X (.Tuple es x1 pos) (tP t):=by intro pins s σ H Q I hq;refine wpAny_Tuple_spliced (ZD (h pos pins s σ H _ I hq) λus s1 ⟨xs,H1,I1,r,z,q⟩=>⟨by rw[<-r.length];exact z,?_⟩);have hf:H1 s1.heap.objs.size=none:=I1.hok.fresh (Ug _);refine⟨.ref s1.heap.objs.size,Zi H1 s1.heap.objs.size (.tup xs),I1.laid (t':=s1.toks) (λb u e=>Uc _ e) (Ug _) ?_,rfl,q _ hf⟩;exact⟨z,us,r,⟨_,Uk _ rfl,rfl,_,rfl⟩⟩
theorem lD(h:PA X es t):PE X (.List es pos) (tQ t):=by intro pins s σ H Q I hq;refine wpAny_List_spliced (ZD (h pos pins s σ H _ I hq) λus s1 ⟨xs,H1,I1,r,z,q⟩=>⟨by rw[<-r.length];exact z,?_⟩);have hf:H1 s1.heap.objs.size=none:=I1.hok.fresh (Ug _);refine⟨.ref s1.heap.objs.size,Zi H1 s1.heap.objs.size (.lst xs),I1.laid (t':=s1.toks) (λb u e=>Uc _ e) (Ug _) ?_,rfl,q _ hf⟩;exact⟨z,us,0,r,Uk _ rfl⟩
abbrev Sp:=List V->Hp->VK->XK->Prop
abbrev eJ:=List Env->Hp->Shared->XK->Value->Shared->Prop
structure Env0(P:Program)(w:World)(K:Frag)(mg:Vb)(base:Heap)(A:Around)(outer:List Env)(s:Shared)(H:Hp):Prop where
 frames:A.frames=some outer
 mod:Mod K mg base
 bs:∀b o,base.get? b=some o->s.heap.get? b=some o/\H b=none
 bsz:base.objs.size<=s.heap.objs.size
 funs:s.heap.FunFrames base outer
 frf:∀b∈PM outer,H b=none
 hok:HOk P w H s.heap
 bare:AllBare s.gens
def CE(outer:List Env)(P:Program)(w:World)(H:Hp)(s:Shared)(Q:VK)(u:Value)(s':Shared):Prop:=∃v H',s'.os=s.os/\AllBare s'.gens/\Un (PM outer) [] H H' s.heap s'.heap/\HOk P w H' s'.heap/\RelV v u/\Q v H'
def CR(CX:eJ)(outer:List Env)(P:Program)(w:World)(H:Hp)(s:Shared)(Q:VK)(E:XK)(r:Result)(s':Shared):Prop:=
 match r with
 |.ok (.ret u)=>CE outer P w H s Q u s'|.ok _=>False|.error e=>CX outer H s E e s'
structure FnOk(P:Program)(w:World)(K:Frag)(mg:Vb)(base:Heap)(CX:eJ)(k:Nat)(f:Addr)(fd:FuncData)(ps:List Str)(sp:Sp):Prop where
 len:∀vs H Q E,sp vs H Q E->vs.length=ps.length
 run:∀(A:Around)(outer:List Env)(s:Shared)(H:Hp)(args:Args)(us:List Value)(vs:List V)(Q:VK)(E:XK),Room k A->Env0 P w K mg base A outer s H->BindsTo s fd args (ps.zip us)->Vals vs us->sp vs H Q E->codeAny (model P w) A (.call (.ref f) args) (CR CX outer P w H s Q E) s
theorem Env0.make{P:Program}{w:World}{K:Frag}{mg:Vb}{base:Heap}{A:Around}{outer:List Env}{s:Shared}{H:Hp}(e:Env0 P w K mg base A outer s H)(C:Addr)(us:List Value)(kw:List (Str×Value)):
  Env0 P w K mg base (A.under (.builtin "type.__call__" ⟨.ref C::us,kw⟩)) outer s H:=⟨by first|exact e.frames|(simpa[Around.under,Code.envs,Code.isFrame,pushEnvs]using e.frames),e.mod,e.bs,e.bsz,e.funs,e.frf,e.hok,e.bare⟩
theorem Inv.env0(I:Inv X pins σ H s):Env0 X.prog X.w X.K X.mg X.base X.A X.stack s H:=⟨I.ok.frames,I.ok.mod,I.bs,Uo I.ok.bsz I.sz,I.stack,I.stkFree,I.hok,I.bare⟩
theorem Inv.after(I:Inv X pins σ H s)(h:CE X.stack X.prog X.w H s Q u s'):EP X pins σ Q u s':=by obtain⟨v,H',os,bare,un,hok,r,q⟩:=h;obtain⟨hh,g,d,t,os'⟩:=s';obtain rfl:os'=s.os:=os;exact⟨v,H',I.call (h':=hh) (g':=g) (d':=d) (t':=t) (ch:=[]) un hok bare (λb z=>absurd z (by simp)),r,q⟩
def Binds(K:Frag)(fd:FuncData)(ps:List Str)(ds:List Value):Prop:=∀(s:Shared)(us:List Value),K.In s.heap->(us++ds).length=ps.length->BindsTo s fd ⟨us,[]⟩ (ps.zip (us++ds))
theorem Binds.all{K:Frag}{fd:FuncData}{ps:List Str}(h:∀us:List Value,us.length=ps.length->bindArgs fd ⟨us,[]⟩=pure (ps.zip us)):Binds K fd ps []:=λs us _ hl=>by rw[UY]at hl ⊢;exact .of_eq (h us hl)
structure Mk(K:Frag)(C f:Addr):Prop where
 makes:makesIn K C=true
 init:findIn K (.ref C) "__init__"=some (some (.ref f))
 fn:isFn K (.ref f)=true
 kp:keepIn K (.ref C)=true
structure FnScope(N P:List Str)(sc:Scope):Prop where
 kind:sc.kind=.function
 co:sc.isCoroutine=false
 gen:sc.isGenerator=false
 nd:N.Nodup
 pre:N.take P.length=P
 par:∀x∈P,sc.names.lookup x=some .local\/sc.names.lookup x=some .cell
 nofree:∀y∈sc.names,y.2≠.free
theorem Ip{kindOf:Str->Option NameKind}{x:Str}:∀{binds:List (Str×Value)}{m:Vb},(∀v,(x,v)∉binds)->bindL kindOf binds m x=m x
 |[],_,_=>rfl| (n,v)::r,m,h=>by
  unfold bindL;rw[Ip λw hw=>h w (Uw _ hw)];split
  ·have:x≠n:=by rintro rfl;exact h v Ux
   simp[this]
  ·rfl
theorem Iq{kindOf:Str->Option NameKind}{x:Str}:∀{binds:List (Str×Value)}{m:Vb},(∀v,(x,v)∉binds)->bindC kindOf binds m x=m x
 |[],_,_=>rfl| (n,v)::r,m,h=>by
  unfold bindC;rw[Iq λw hw=>h w (Uw _ hw)];split
  ·rfl
  ·have:x≠n:=by rintro rfl;exact h v Ux
   simp[this]
theorem Ir{kindOf:Str->Option NameKind}{x:Str}{v:Value}:∀{P:List Str}{vs:List Value}{i:Nat}{m:Vb},P.Nodup->P[i]?=some x->vs[i]?=some v->kindOf x=some .local->bindL kindOf (P.zip vs) m x=some v
 |[],_,_,_,_,h,_,_=>by simp at h
 |_::_,[],_,_,_,_,h,_=>by simp at h
 |p::P,w::vs,0,m,nd,h1,h2,hk=>by simp at h1 h2;subst h1;subst h2;show bindL kindOf ((p,w)::P.zip vs) m p=_;unfold bindL;rw[Ip λv hv=>(RC.mp nd).1 (Bx hv).1,Ud hk];simp
 |p::P,w::vs,i+1,m,nd,h1,h2,hk=>by show bindL kindOf ((p,w)::P.zip vs) m x=_;unfold bindL;exact Ir (i:=i) (RC.mp nd).2 (by simpa using h1) (by simpa using h2) hk
theorem Iu{kindOf:Str->Option NameKind}{x:Str}{v:Value}:∀{P:List Str}{vs:List Value}{i:Nat}{m:Vb},P.Nodup->P[i]?=some x->vs[i]?=some v->kindOf x≠some .local->bindC kindOf (P.zip vs) m x=some v
 |[],_,_,_,_,h,_,_=>by simp at h
 |_::_,[],_,_,_,_,h,_=>by simp at h
 |p::P,w::vs,0,m,nd,h1,h2,hk=>by simp at h1 h2;subst h1;subst h2;show bindC kindOf ((p,w)::P.zip vs) m p=_;unfold bindC;rw[Iq λv hv=>(RC.mp nd).1 (Bx hv).1,Uf hk];simp
 |p::P,w::vs,i+1,m,nd,h1,h2,hk=>by show bindC kindOf ((p,w)::P.zip vs) m x=_;unfold bindC;exact Iu (i:=i) (RC.mp nd).2 (by simpa using h1) (by simpa using h2) hk
def start(N:List Str)(vs:List V):St:=vs.map some++List.replicate (N.length-vs.length) none
def E2(CX:eJ)(P:Program)(w:World)(K:Frag)(mg:Vb)(base:Heap)(N:List Str)(qual:Str)(scope:Scope)(f:Addr)(cd:Value)(A:Around)(outer:List Env)(s:Shared)(H:Hp)(E:XK):Cx where
 prog:=P
 w:=w
 K:=K
 mg:=mg
 base:=base
 A:=A.deeper (envOfC qual scope s.heap.objs.size f cd)
 N:=N
 s₀:=s
 H₀:=H
 env:=envOfC qual scope s.heap.objs.size f cd
 outer:=outer
 stack:=envOfC qual scope s.heap.objs.size f cd::outer
 ex:=[]
 calm:=true
 fn:=λ_=>true
 pn:=[]
 xe:=λe s'=>wpAny (model P w) (A.deeper (envOfC qual scope s.heap.objs.size f cd)) (leaving (envOfC qual scope s.heap.objs.size f cd) e) (λ_ s''=>CX outer H s E e s'') (λe' s''=>CX outer H s E e' s'') s'
theorem My{sc:Scope}{n:Nat}{x:Str}(h:sc.names.lookup x=some .cell):∃c,(cellsFrom n sc.names []).lookup x=some c:=by have q:=Bp sc.names n [] (.inl h);exact TU.mp q
theorem Ae{CX:eJ}{P:Program}{w:World}{K:Frag}{mg:Vb}{base:Heap}{N ps:List Str}{qual:Str}{scope:Scope}{f:Addr}{cd:Value}{A:Around}{outer:List Env}{s s1:Shared}{H:Hp}{E:XK}{us:List Value}{vs:List V}(S:FnScope N ps scope)(hd:A.handled=none)(e0:Env0 P w K mg base A outer s H)(hl:vs.length=ps.length)(r:Vals vs us)(x:InCallC s s.heap.objs.size (bindL (envOfC qual scope s.heap.objs.size f cd).kindOf (ps.zip us) λ_=>none) (cellsFrom (s.heap.objs.size+1) scope.names []) (bindC (envOfC qual scope s.heap.objs.size f cd).kindOf (ps.zip us) λ_=>none) s1):
  Inv (E2 CX P w K mg base N qual scope f cd A outer s H E) [] (start N vs) H s1:=by
 have hpl:ps.length<=N.length:=by have:=Rf List.length S.pre;rw[Ws]at this;omega
 obtain⟨h1,tk,rfl,hk⟩:=x.done;have noA:∀b:Addr,b∉(E2 CX P w K mg base N qual scope f cd A outer s H E).ex:=λb z=>absurd (show b∈([]:List Addr) from z) (by simp);refine⟨⟨e0.mod,S.kind,rfl,rfl,Ug _,λy z c h1 h2=>?_,λy hy=>?_,λy c _ h=>?_,λ_=>hd,Around.frames_deeper e0.frames,.inr ⟨rfl,rfl⟩,λb z=>absurd z (noA b),e0.bs,e0.bsz,λb _ _=>noA b,λb z=>absurd z (noA b),e0.funs,e0.frf⟩,rfl,e0.bare,Un.kept hk,⟨_,x.toInCall.ns,λi y v h1 h2 h3=>?_⟩,λy c h=>⟨_,x.cell y c h⟩,e0.hok.fresh (Ug _),λy c h=>?_,λp hp=>absurd (show p∈([]:YD) from hp) (by simp),e0.hok.kept hk,?_⟩
 ·exact name_of_addr x.apart (T6 h1) (T6 h2)
 ·have hy:scope.names.lookup y=some .cell\/scope.names.lookup y=some .free:=hy;rcases hy with hy|hy
  ·exact My hy
  ·exact absurd rfl (S.nofree _ (T6 hy))
 ·exact TJ (x.above y c (T6 h))
 ·have hi:i<vs.length:=by
   unfold start at h2;by_cases hi:i<vs.length
   ·exact hi
   ·rw[UT (by simpa using hi)]at h2;rw[Ru]at h2;split at h2<;>cases h2
  have ha:vs[i]?=some v:=by
   unfold start at h2;rw[Uj (by simpa using hi),Uy]at h2;cases e:vs[i]? with
   |none=>rw[e]at h2;cases h2|some a=>rw[e]at h2;cases h2;rfl
  obtain⟨u,hu,rv⟩:=r.get ha;have hp:ps[i]?=some y:=by rw[<-S.pre,List.getElem?_take_of_lt (by omega)];exact h1
  have ndP:ps.Nodup:=by rw[<-S.pre];exact S.nd.sublist (List.take_sublist _ _)
  refine⟨u,rv,?_⟩;rcases S.par y (Tg hp) with k|k
  ·exact .inl ⟨k,Ir ndP hp hu k⟩
  ·obtain⟨c,e⟩:=My (n:=s.heap.objs.size+1) k;refine .inr ⟨.inl k,c,e,?_⟩;have q:=x.cell y c e;rw[Iu ndP hp hu (by show scope.names.lookup y≠_;rw[k];decide)]at q;exact q
 ·exact e0.hok.fresh (TJ (x.above y c (T6 h)))
 ·unfold start;show _=N.length;rw[Um,Uh,U1];omega
theorem iX{CX:eJ}{P:Program}{w:World}{K:Frag}{mg:Vb}{base:Heap}{k:Nat}{f:Addr}{name qual:Str}{params:Arguments}{body:List Stmt}{scope:Scope}{dV kV doc pm cdv ct oc:Value}{an od:Option Addr}{osl:Array (Option Value)}{N ps:List Str}{sp:Sp}(lk:K.lookup f=some ⟨oc,od,.func (fnOf name qual params body scope dV kV doc pm an cdv ct),osl⟩)(hcd:codeIn K cdv qual=true)(S:FnScope N ps scope)(len:∀vs H Q E,sp vs H Q E->vs.length=ps.length)(hbody:∀(A:Around) (outer:List Env) (s:Shared) (H:Hp) (vs:List V) (Q:VK) (E:XK),Room k (A.deeper (envOfC qual scope s.heap.objs.size f cdv))->sp vs H Q E->∃t,PN (E2 CX P w K mg base N qual scope f cdv A outer s H E) body t/\t {nx:=λ_ H'=>Q .non H',rt:=Q} (start N vs) H):
  FnOk P w K mg base CX (k+1) f (fnOf name qual params body scope dV kV doc pm an cdv ct) ps sp:=by
 refine⟨len,λA outer s H args us vs Q E hr e0 hb r hsp=>?_⟩;have hl:=len _ _ _ _ hsp;have KX:K.In s.heap:=e0.mod.kin.keeps λb o e=>(e0.bs b o e).1;have lim:s.heap.NoLimit:=e0.mod.nolimit.keeps λb o e=>(e0.bs b o e).1;have hkind:∀y∈ps.zip us,scope.names.lookup y.1=some .local\/(scope.names.lookup y.1=some .cell/\((cellsFrom (s.heap.objs.size+1) scope.names []).lookup y.1).isSome=true):=λ⟨n,v⟩ hy=>by
  rcases S.par n (Bx hy).1 with q|q
  ·exact .inl q
  ·exact .inr ⟨q,Bp _ _ _ (.inl q)⟩
 refine codeAny_call_function hr.depth (KX _ _ lk) rfl S.co S.gen rfl (codeRec_of KX hcd) (hb _ _ _ _ ?_);refine wpAny_newFunctionEnv_cells S.kind hkind λenv he s1 x=>?_;subst he;refine⟨lim.keeps x.toInCall.keep,codeAny_func ?_⟩;obtain⟨t,ht,hq⟩:=hbody A outer s H vs Q E (hr.deeper _) hsp;have I:Inv (E2 CX P w K mg base N qual scope f cdv A outer s H E) [] (start N vs) H s1:=Ae S hr.hd e0 hl r x;refine TC (ht [] s1 (start N vs) H _ I hq) (λfl s' hs=>?_) λe s' hs=>hs;have fin:∀{σ':St}{H':Hp}{v:V}{u:Value},Inv (E2 CX P w K mg base N qual scope f cdv A outer s H E) [] σ' H' s'->RelV v u->Q v H'->CE outer P w H s Q u s':=λ{σ' H' v u} J rv q=>⟨v,H',J.os,J.bare,J.base,J.hok,rv,q⟩
 cases fl with
 |ret u =>obtain⟨v,σ',H',J,rv,q⟩:=hs;exact fin J rv q|next =>obtain⟨σ',H',J,q⟩:=hs;exact fin (v:=V.non) (u:=Value.none) J rfl q|brk =>obtain⟨_,_,_,q⟩:=hs;exact False.elim q|cont =>obtain⟨_,_,_,q⟩:=hs;exact False.elim q
section
variable{X:Cx}{x:Str}{p pos:Pos}{e:Expr}{es:List Expr}{t:TA}{id T:String}{r:List V->Hp->VK->Prop}
def vJ(r:List V->Hp->VK->Prop)(t:TA):TE:=λσ H Q=>t σ H λvs H1=>r vs H1 Q
theorem Vn(hc:JL X (.builtin id) r)(hg:Gl X x)(hm:X.mg x=none)(hv:bootBuiltins x=some (.builtin id))(ha:PA X (e::es) t)(hn:x ≠"__name__":=by decide)(hdb:(x==("__debug__" : Str))=false:=by decide)(he:starEach (e::es) X.env=(false,eval e X.env)::starEach es X.env:=by rfl)(hpl:(backTo pos (starEach es X.env)).any (·.1)=false:=by rfl):PE X (.Call (.Name x p) (e::es) [] pos) (vJ r t):=by intro pins s σ H Q I h;refine Ry (Xv I hg hm hv ?_ hn hdb);exact PyProof.Rows.callWith_builtin1 (ZD (ha pos pins s σ H _ I h) λus s1 ⟨vs,H1,I1,r1,q1⟩=>hc pins s1 σ H1 vs us Q I1 r1 q1) he hpl
theorem Af(hc:JL X (.type T) r)(hg:Gl X x)(hm:X.mg x=none)(hv:bootBuiltins x=some (.type T))(ha:PA X (e::es) t)(hn:x ≠"__name__":=by decide)(hdb:(x==("__debug__" : Str))=false:=by decide)(he:starEach (e::es) X.env=(false,eval e X.env)::starEach es X.env:=by rfl)(hpl:(backTo pos (starEach es X.env)).any (·.1)=false:=by rfl):PE X (.Call (.Name x p) (e::es) [] pos) (vJ r t):=by intro pins s σ H Q I h;refine Ry (Xv I hg hm hv ?_ hn hdb);exact UR (ZD (ha pos pins s σ H _ I h) λus s1 ⟨vs,H1,I1,r1,q1⟩=>hc pins s1 σ H1 vs us Q I1 r1 q1) he hpl
end
end L2
namespace HT
open PySem PyProof.Rows
theorem cat_tup{t b:Addr}{vs ws:List Value}{Q:VP}(ht:IsTup s.heap t vs.toArray)(hb:IsTup s.heap b ws.toArray)(hv:vs≠[])(h1:ws=[]->Q (.ref t) s)(h2:ws≠[]->Q (.ref s.heap.objs.size) {s with heap:=s.heap.push {cls:=.type "tuple",data:=.seq (vs++ws).toArray} })(hsz:vs.length+ws.length<=sizeLine):wpAny (model prog w) A (binaryOp .Add (.ref t) (.ref b)) Q E s:=by
 obtain⟨⟨cls,dd,data,sl⟩,ho,hc,n,hd⟩:=id ht;obtain⟨⟨cls2,dd2,data2,sl2⟩,ho2,hc2,n2,hd2⟩:=id hb;simp only at hc hd hc2 hd2;subst hc hd hc2 hd2;have e:vs.toArray++ws.toArray=(vs++ws).toArray:=by simp
 by_cases hw:ws=[]
 ·exact concat_meets ⟨_,ho,rfl⟩ ⟨_,ho2,rfl⟩ Bk seq_tuple_add RZ RT (RP _ _)
   (tuple_addW1 t b vs.toArray ws.toArray n n2 dd dd2 sl sl2 (by simpa using hv) (by simp[hw])) ⟨ho,ho2,h1 hw⟩
 ·refine concat_meets ⟨_,ho,rfl⟩ ⟨_,ho2,rfl⟩ Bk seq_tuple_add RZ RT (RP _ _)
   (tuple_addW2 t b vs.toArray ws.toArray n n2 dd dd2 sl sl2 (by simpa using hv) (by simpa using hw) (by rw[Us,Us];exact hsz)) ⟨ho,ho2,?_⟩
  rw[e];exact h2 hw
def sIx(n d:Nat):Option Int->Nat
 |none=>d|some v=>if v<0 then (v+(n:Int)).toNat else min v.toNat n
theorem lE(n d:Nat)(hd:d<=n)(o:Option Int):sIx n d o<=n:=by
 cases o with
 |none=>exact hd|some v=>
  show(if v<0 then (v+(n:Int)).toNat else min v.toNat n)<=n;by_cases hv:v<0
  ·rw[Ud hv];omega
  ·rw[Uf hv];exact Nat.min_le_right _ _
theorem PV(v:Int)(n d:Nat):(if v<0 then max (v+(n:Int)) 0 else min v (n:Int))=((sIx n d (some v):Nat):Int):=by
 show(if v<0 then max (v+(n:Int)) 0 else min v (n:Int))=(((if v<0 then (v+(n:Int)).toNat else min v.toNat n):Nat):Int);by_cases hv:v<0
 ·simp only[Ud hv];omega
 ·simp only[Uf hv];omega
theorem OA(lo hi:Option Int)(n:Nat):Builtin.Slice.sliceAdjust lo hi 1 (n:Int)=(((sIx n 0 lo:Nat):Int),((sIx n n hi:Nat):Int)):=by
 have h1:¬((1:Int)<0):=by omega
 unfold Builtin.Slice.sliceAdjust;simp only[h1,Ti];refine Prod.ext ?_ ?_
 ·cases lo with
  |none=>rfl|some v=>exact PV v n 0
 ·cases hi with
  |none=>rfl|some v=>exact PV v n n
theorem OB(i j:Nat):Builtin.Slice.slicePlaces (i:Int) (j:Int) 1=j-i:=by
 unfold Builtin.Slice.slicePlaces;have h1:(1:Int)>0:=by omega
 simp only[h1,RK,Int.ediv_one];split<;>omega
theorem Gw(p:IsPart v o)(h:Q o s):wpAny (model prog w) A (Builtin.Slice.slicePartIndex v) Q E s:=by
 cases p with
 |none=>exact slicePart_none h|int i t=>exact slicePart_int h
theorem sliceApplied_gen{sl:Addr}{vl vu:Value}{lo hi:Option Int}{n:Nat}{Q:Int×Int×Nat->Shared->Prop}(hs:s.heap.IsSliceOf sl vl vu .none)(pl:IsPart vl lo)(pu:IsPart vu hi)(h:Q (((sIx n 0 lo:Nat):Int),1,sIx n n hi-sIx n 0 lo) s):wpAny (model prog w) A (Builtin.Slice.sliceApplied (.ref sl) (pure (n:Int))) Q E s:=by obtain⟨os,hos,hcs,hds⟩:=id hs;unfold Builtin.Slice.sliceApplied Builtin.Slice.sliceFields;refine Ua (Ua (UP hos hds (x:=vl) rfl (Ua (UP hos hds (x:=vu) rfl (Ua (UP hos hds (x:=.none) rfl (Ub ?_)))))));refine Ua (slicePart_none ?_);show wpAny _ _ (if ((1:Int)==0)=true then _ else _) _ _ s;rw[Uf (by decide)];refine Ua (Gw pl (Ua (Gw pu (Ua (Ub ?_)))));show wpAny _ _ (match Builtin.Slice.sliceAdjust lo hi 1 (n:Int) with|(lo,hi)=>pure (lo,(1:Int),Builtin.Slice.slicePlaces lo hi 1)) _ _ s;rw[OA lo hi n];show wpAny _ _ (pure (((sIx n 0 lo:Nat):Int),(1:Int),Builtin.Slice.slicePlaces ((sIx n 0 lo:Nat):Int) ((sIx n n hi:Nat):Int) 1)) _ _ s;rw[OB];exact Ub h
theorem Dx(xs:Array Value)(i k:Nat):((List.range k).filterMap λ(m:Nat)=>xs[((i:Int)+(m:Int)*1).toNat]?).toArray=((xs.toList.drop i).take k).toArray:=by
 have e:(λ(m:Nat)=>xs[((i:Int)+(m:Int)*1).toNat]?)=λm=>xs[i+m]?:=by
  funext m;have:((i:Int)+(m:Int)*1).toNat=i+m:=by omega
  rw[this]
 rw[e];have:=pick_run xs i k;rw[List.filterMap_map]at this;have e2:((λx=>xs[x]?)∘λx=>i+x)=λm=>xs[i+m]?:=rfl;rw[e2]at this;rw[this]
theorem getItem_tuple_cut{t sl:Addr}{items:Array Value}{vl vu:Value}{lo hi:Option Int}{Q:VP}(ht:IsTup s.heap t items)(hs:s.heap.IsSliceOf sl vl vu .none)(pl:IsPart vl lo)(pu:IsPart vu hi)(hw:¬(sIx items.size 0 lo=0/\sIx items.size items.size hi=items.size))(h:Q (.ref s.heap.objs.size) {s with heap:=s.heap.push {cls:=.type "tuple",data:=.seq ((items.toList.drop (sIx items.size 0 lo)).take (sIx items.size items.size hi-sIx items.size 0 lo)).toArray} })(hsz:items.size<=sizeLine):wpAny (model prog w) A (getItem (.ref t) (.ref sl)) Q E s:=by
 have htake:sizeOk (.seq ((items.toList.drop (sIx items.size 0 lo)).take (sIx items.size items.size hi-sIx items.size 0 lo)).toArray):=by show((items.toList.drop (sIx items.size 0 lo)).take (sIx items.size items.size hi-sIx items.size 0 lo)).toArray.size<=sizeLine;rw[Us,Ws,List.length_drop,U7];omega
 have hj:sIx items.size items.size hi<=items.size:=lE _ _ (Ug _) hi;obtain⟨os,hos,hcs,hds⟩:=id hs;have hTs:s.TypeIs (.ref sl) "slice":=⟨os,hos,hcs⟩;unfold getItem;try with_reducible refine U5 ?_
 first|refine Ua (Ub ?_)|skip
 refine Ua (wpAny_sequenceKey ht.typeIs (by decide) ?_);refine Ua (UG (name:=Str.ofString "__getitem__") ht.typeIs U0
  (UE U0 ht.typeIs entry_tuple_getitem ?_ (args_tuple_getitem _ _)))
 show wpAny _ _ (Builtin.Tuple.tupleItemsOf (.ref t) >>= _) _ _ s;refine Ua (tupleItemsOf_ ht ?_);refine Ua (RB hTs ?_);rw[Ud (by decide)];refine Ua (sliceApplied_gen hs pl pu ?_);have hno:¬((((sIx items.size 0 lo:Nat):Int)==0&&(1:Int)==1&&(sIx items.size items.size hi-sIx items.size 0 lo)==items.size)=true):=by intro q;rw[UK,UK]at q;have q1:((sIx items.size 0 lo:Nat):Int)=0:=eq_of_beq q.1.1;have q2:sIx items.size items.size hi-sIx items.size 0 lo=items.size:=eq_of_beq q.2;exact hw ⟨by omega,by omega⟩
 show wpAny _ _ (if (((sIx items.size 0 lo:Nat):Int)==0&&(1:Int)==1&&(sIx items.size items.size hi-sIx items.size 0 lo)==items.size)=true then _ else _) _ _ s;rw[Uf hno,Dx];first
  |exact Ua (m:=Builtin.Tuple.tupleExact _) (UB (Ub ⟨_,rfl,Ub h⟩) htake)
  |exact Ua (m:=Builtin.Tuple.tupleExact _) (UB (Ua (Ub (Ub ⟨_,rfl,Ub h⟩))) htake)
  |exact Ua (Ua (m:=Builtin.Tuple.tupleExact _) (UB (Ub (Ub ⟨_,rfl,Ub h⟩)) htake))
  |exact Ua (Ua (m:=Builtin.Tuple.tupleExact _) (UB (Ub ⟨_,rfl,Ub h⟩) htake))
end HT
namespace L2
open PySem PySem.Spec PyProof.Rows
abbrev TO:=St->Hp->(Option Int->Hp->Prop)->Prop
def PO(X:Cx)(e:Option Expr)(t:TO):Prop:=∀(pins:YD)(s:Shared)(σ:St)(H:Hp)(Q:Option Int->Hp->Prop),Inv X pins σ H s->t σ H Q->wpAny (model X.prog X.w) X.A (evalPart e X.env) (λu s'=>∃o H',Inv X pins σ H' s'/\IsPart u o/\Q o H') X.xe s
def eL:TO:=λ_ H Q=>Q none H
def pS(t:TE):TO:=λσ H Q=>t σ H λx H1=>∃i,x=.int i/\Q (some i) H1
section
variable{X:Cx}{e:Expr}{te:TE}{lo hi:Option Expr}{tl th:TO}{pos p2:Pos}
theorem eM:PO X none eL:=by intro pins s σ H Q I h;rw[evalPart_none];exact Ub ⟨none,H,I,.none,h⟩
theorem eO(h:PE X e te):PO X (some e) (pS te):=by intro pins s σ H Q I hw;rw[evalPart_some];refine ZD (h pins s σ H _ I hw) λu s1 ⟨x,H1,I1,r1,q1⟩=>?_;obtain⟨i,rfl,q⟩:=q1;obtain⟨t,rfl⟩:=r1;exact⟨some i,H1,I1,.int i t,q⟩
def SlR(X:Cx)(r:V->Option Int->Option Int->Hp->VK->Prop):Prop:=∀(pins:YD)(s:Shared)(σ:St)(H:Hp)(x:V)(v vl vu:Value)(lo hi:Option Int)(sl:Addr)(Q:VK),Inv X pins σ H s->RelV x v->s.heap.IsSliceOf sl vl vu .none->IsPart vl lo->IsPart vu hi->r x lo hi H Q->∃T id,typeLookup (.type T) "__getitem__"=pure (some (.builtin id))/\s.TypeIs v T/\wpAny (model X.prog X.w) X.A (getItem v (.ref sl)) (EP X pins σ Q) X.xe s
theorem SlR.or(h:SlR X r)(h':SlR X r'):SlR X (λx lo hi H Q=>r x lo hi H Q\/r' x lo hi H Q):=by
 intro pins s σ H x v vl vu lo hi sl Q I rx hs pl pu q;rcases q with q|q
 ·exact h pins s σ H x v vl vu lo hi sl Q I rx hs pl pu q
 ·exact h' pins s σ H x v vl vu lo hi sl Q I rx hs pl pu q
def wE(r:V->Option Int->Option Int->Hp->VK->Prop)(te:TE)(tl th:TO):TE:=λσ H Q=>te σ H λx H1=>tl σ H1 λl H2=>th σ H2 λu H3=>r x l u H3 Q
theorem Dy{r:V->Option Int->Option Int->Hp->VK->Prop}(hr:SlR X r)(he:PE X e te)(hl:PO X lo tl)(hu:PO X hi th):PE X (.Subscript e (.Slice lo hi none p2) pos) (wE r te tl th):=by intro pins s σ H Q I h;refine Subscript_ (ZD (he pins s σ H _ I h) λv s1 ⟨x,H1,I1,r1,q1⟩=>?_);refine wpAny_Slice (ZD (hl pins s1 σ H1 _ I1 q1) λvl s2 ⟨l,H2,I2,pl,q2⟩=>ZD (hu pins s2 σ H2 _ I2 q2) λvu s3 ⟨u,H3,I3,pu,q3⟩=>?_);rw[evalPart_none];refine Ub ?_;have I4:Inv X pins σ H3 {s3 with heap:=s3.heap.push {cls:=.type "slice",data:=.fields #[vl,vu,.none]} }:=I3.kept (t':=s3.toks) λb ob q=>Uc _ q;obtain⟨T,id,hT,ht,hg⟩:=hr pins {s3 with heap:=s3.heap.push {cls:=.type "slice",data:=.fields #[vl,vu,.none]} } σ H3 x v vl vu l u s3.heap.objs.size Q I4 r1 (Heap.IsSliceOf.new ..) pl pu q3;show wpAny (model X.prog X.w) X.A (subscriptTail e (.Slice lo hi none p2) v (.ref s3.heap.objs.size)) (EP X pins σ Q) X.xe {s3 with heap:=s3.heap.push {cls:=.type "slice",data:=.fields #[vl,vu,.none]} };exact tail_any (ops:=[.ref s3.heap.objs.size,v]) ht hT hg (by with_unfolding_all rfl)
def Mz(xs:List V)(lo hi:Option Int):List V:=(xs.drop (HT.sIx xs.length 0 lo)).take (HT.sIx xs.length xs.length hi-HT.sIx xs.length 0 lo)
theorem FD(xs:List V)(lo hi:Option Int):(Mz xs lo hi).length<=xs.length:=by unfold Mz;rw[Ws,List.length_drop];omega
def tR(K:Frag):V->Option Int->Option Int->Hp->VK->Prop:=λx lo hi H Q=>∃a xs,x=.ref a/\SqT K H a xs/\¬(HT.sIx xs.length 0 lo=0/\HT.sIx xs.length xs.length hi=xs.length)/\∀p,H p=none->Q (.ref p) (Zi H p (.tup (Mz xs lo hi)))
theorem sl_tup:SlR X (tR X.K):=by
 intro pins s σ H x v vl vu lo hi sl Q I rx hs pl pu h;obtain⟨a,xs,rfl,hx,hw,q⟩:=h;cases rx;obtain⟨its,r,ht,hz⟩:=I.tuple hx;have hlen:its.toArray.size=xs.length:=by rw[Us];exact r.length.symm
 refine⟨"tuple",_,U0.lookup,ht.typeIs,?_⟩;refine HT.getItem_tuple_cut ht hs pl pu (by rw[hlen];exact hw) ?_ (by rw[hlen];exact hz);rw[hlen];refine⟨.ref s.heap.objs.size,_,I.laid (t':=s.toks) (o:=.tup (Mz xs lo hi)) (λb ob q=>Uc _ q) (Ug _) ?_,rfl,q _ (I.hok.fresh (Ug _))⟩;exact⟨Uo (FD xs lo hi) hz,_,(r.drop (HT.sIx xs.length 0 lo)).take (HT.sIx xs.length xs.length hi-HT.sIx xs.length 0 lo),IsTup.new _ _⟩
def iY(K:Frag):R2:=λx y H Q=>∃a b xs ys,x=.ref a/\y=.ref b/\SqT K H a xs/\SqT K H b ys/\xs≠[]/\xs.length+ys.length<=sizeLine/\(ys=[]->Q (.ref a) H)/\(ys≠[]->∀p,H p=none->Q (.ref p) (Zi H p (.tup (xs++ys))))
theorem Vals.nil_iff(r:Vals xs us):us=[]↔xs=[]:=by
 cases r with
 |nil=>simp|cons _ _=>simp
theorem eQ:OpR X (binaryOp .Add) (iY X.K):=by intro pins s σ H x y v u Q I rx ry h;obtain⟨a,b,xs,ys,rfl,rfl,ha,hb,hx,hz,q1,q2⟩:=h;cases rx;cases ry;obtain⟨its,r1,p1,_⟩:=I.tuple ha;obtain⟨its2,r2,p2,_⟩:=I.tuple hb;refine HT.cat_tup p1 p2 (λz=>hx (r1.nil_iff.mp z)) (λz=>⟨.ref a,H,I,rfl,q1 (r2.nil_iff.mp z)⟩) (λz=>?_) (by rw[<-r1.length,<-r2.length];exact hz);refine⟨.ref s.heap.objs.size,_,I.laid (t':=s.toks) (o:=.tup (xs++ys)) (λb ob q=>Uc _ q) (Ug _) ?_,rfl,q2 (λw=>z (r2.nil_iff.mpr w)) _ (I.hok.fresh (Ug _))⟩;exact⟨by rw[Um];exact hz,_,r1.append r2,IsTup.new _ _⟩
end
def oK(n:Nat)(i:Int):Option Nat:=if 0<=i then (if i<n then some i.toNat else none) else if -(n:Int)<=i then some (i+n).toNat else none
def oM(xs:List α)(i:Int):Option α:=(oK xs.length i).bind λj=>xs[j]?
theorem PX(h:oK n i=some j):seqIndex? i n=some j/\j<n/\-(n:Int)<=i/\i<n:=by
 unfold oK at h;by_cases h0:0<=i
 ·rw[Ud h0]at h;by_cases h1:i<n
  ·rw[Ud h1]at h;have e:i.toNat=j:=Option.some.inj h;exact⟨by rw[seqIndex_of h0 h1,e],by omega,by omega,h1⟩
  ·rw[Uf h1]at h;cases h
 ·rw[Uf h0]at h;by_cases h1 : -(n:Int)<=i
  ·rw[Ud h1]at h;have e:(i+n).toNat=j:=Option.some.inj h;exact⟨by rw[seqIndex_neg (by omega) h1,e],by omega,h1,by omega⟩
  ·rw[Uf h1]at h;cases h
theorem PY(h:oM xs i=some v):∃j,seqIndex? i xs.length=some j/\xs[j]?=some v/\j<xs.length/\-(xs.length:Int)<=i/\i<xs.length:=by
 unfold oM at h;cases e:oK xs.length i with
 |none=>rw[e]at h;cases h|some j =>rw[e]at h;obtain⟨h1,h2,h3,h4⟩:=PX e;exact⟨j,h1,h,h2,h3,h4⟩
def Be(b:Expr):Prop:=∀o i,subscripted b false o i=operate [o,i] (getItem o i)
def IxR(X:Cx)(r:R2):Prop:=∀(value slice:Expr)(pins:YD)(s:Shared)(σ:St)(H:Hp)(x y:V)(v u:Value)(Q:VK),Inv X pins σ H s->RelV x v->RelV y u->r x y H Q->subscripted slice false v u=operate [v,u] (getItem v u)->wpAny (model X.prog X.w) X.A (subscriptTail value slice v u) (EP X pins σ Q) X.xe s
def oN(X:Cx)(id:String)(r:V->List V->Hp->VK->Prop):Prop:=∀(pins:YD)(s:Shared)(σ:St)(H:Hp)(x:V)(xs:List V)(v:Value)(us:List Value)(Q:VK),Inv X pins σ H s->RelV x v->Vals xs us->r x xs H Q->wpAny (model X.prog X.w) X.A (call (.builtin id) (v::us)) (EP X pins σ Q) X.xe s
section
variable{X:Cx}{a b:Expr}{ta tb:TE}{pos:Pos}
theorem IxR.or(h:IxR X r)(h':IxR X r'):IxR X (λx y H Q=>r x y H Q\/r' x y H Q):=by
 intro value slice pins s σ H x y v u Q I rx ry q hs;rcases q with q|q
 ·exact h value slice pins s σ H x y v u Q I rx ry q hs
 ·exact h' value slice pins s σ H x y v u Q I rx ry q hs
theorem pT(hr:IxR X r)(ha:PE X a ta)(hb:PE X b tb)(hs:Be b):PE X (.Subscript a b pos) (pJ r ta tb):=by intro pins s σ H Q I h;exact Subscript_ (kT ha hb I h λv u s2 x y H2 I2 rx ry q=>hr a b pins s2 σ H2 x y v u Q I2 rx ry q (hs _ _))
def pU(K:Frag):R2:=λx y H Q=>∃p xs i v,x=.ref p/\y=.int i/\SqL K H p xs/\oM xs i=some v/\Q v H
def pV(K:Frag):R2:=λx y H Q=>∃p xs i v,x=.ref p/\y=.int i/\SqT K H p xs/\oM xs i=some v/\Q v H
theorem ix_list:IxR X (pU X.K):=by
 intro value slice pins s σ H x y v u Q I rx ry h hs;obtain⟨p,xs,i,z,rfl,rfl,hq,he,q⟩:=h;cases rx;obtain⟨t,rfl⟩:=ry;obtain⟨its,r,pl,hz⟩:=I.list hq;obtain⟨j,h1,h2,h3,h4,h5⟩:=PY he;obtain⟨w,ew,rw'⟩:=r.get h2;have hl:=r.length;have hn:=Km;have fin:EP X pins σ Q w s:=⟨z,H,I,rw',q⟩;by_cases h0:0<=i
 ·have hj:i.toNat=j:=by rw[seqIndex_of h0 h5]at h1;exact Option.some.inj h1
  exact item_listR pl.isList h0 (by omega) (by rw[hj];simpa using ew) fin hs
 ·have hj:(i+(its.toArray.size:Int)).toNat=j:=by rw[seqIndex_neg (by omega) h4]at h1;rw[Us,<-hl];exact Option.some.inj h1
  exact subscriptTail_builtinR (x:=w) pl.isList.typeIs slot_list_getitem.lookup
   (wpAny_getItem_list_neg (Q:=λr s'=>r=w/\EP X pins σ Q r s') pl.isList (by omega) (by rw[Us]<;>omega) (by omega) (by rw[hj];simpa using ew) ⟨rfl,fin⟩) hs
theorem ix_tup:IxR X (pV X.K):=by
 intro value slice pins s σ H x y v u Q I rx ry h hs;obtain⟨p,xs,i,z,rfl,rfl,hq,he,q⟩:=h;cases rx;obtain⟨t,rfl⟩:=ry;obtain⟨its,r,pl,hz⟩:=I.tuple hq;obtain⟨j,h1,h2,h3,h4,h5⟩:=PY he;obtain⟨w,ew,rw'⟩:=r.get h2;have hl:=r.length;have hn:=Km;have fin:EP X pins σ Q w s:=⟨z,H,I,rw',q⟩;exact subscriptTail_builtinR (x:=w) pl.typeIs slot_tuple_getitem.lookup
  (getItem_tuple (j:=j) (Q:=λr s'=>r=w/\EP X pins σ Q r s') pl (by omega) (by omega) (by rw[Us,<-hl];exact h1) (by simpa using ew) ⟨rfl,fin⟩) hs
theorem OC(its:List Value)(n j:Nat)(u:Value):Obj.mapSeq (·.setIfInBounds j u) {cls:=.type "list",data:=.seq its.toArray n} = {cls:=.type "list",data:=.seq (its.set j u).toArray n}:=by simp[Obj.mapSeq]
theorem Inv.lst(I:Inv X pins σ H s)(h:H p=some (.lst xs)):
  ∃(its:List Value)(n:Nat),Vals xs its/\s.heap.get? p=some {cls:=.type "list",data:=.seq its.toArray n}/\xs.length<=sizeLine:=by
 obtain⟨z,its,n,r,e⟩:=I.hok p _ h;exact⟨its,n,r,e,z⟩
theorem Inv.lstUpd{pins:YD}{σ:St}{H:Hp}{s:Shared}{p:Addr}{xs ys:List V}{its its':List Value}{n n':Nat}{f:Obj->Obj}(I:Inv X pins σ H s)(h:H p=some (.lst xs))(ho:s.heap.get? p=some {cls:=.type "list",data:=.seq its.toArray n})(hf:f {cls:=.type "list",data:=.seq its.toArray n} = {cls:=.type "list",data:=.seq its'.toArray n'})(r:Vals ys its')(hz:ys.length<=sizeLine)(t:Nat):
  Inv X pins σ (Zi H p (.lst ys)) {s with heap:=s.heap.update p f,toks:=t}:=by
 have e:(s.heap.update p f).get? p=some {cls:=.type "list",data:=.seq its'.toArray n'}:=by rw[Tu f ho (by rw[hf]<;>rfl),hf]
 refine I.write (x:=p) (e:=p) (by rw[h];trivial) (.inl rfl) (λb u hb q=>(Tl _ _ (Ne.symm hb)).trans q) ⟨_,e⟩ ?_;exact⟨hz,its',n',r,e⟩
def pW:V->V->V->Hp->(Hp->Prop)->Prop:=λo i v H Q=>∃p xs k j,o=.ref p/\i=.int k/\H p=some (.lst xs)/\oK xs.length k=some j/\Q (Zi H p (.lst (xs.set j v)))
theorem Dz:dU X pW:=by
 intro pins s σ H o i v ov iv u Q I ro ri rv h;obtain⟨p,xs,k,j,rfl,rfl,hp,hj,q⟩:=h;cases ro;obtain⟨t,rfl⟩:=ri;obtain⟨its,n,r,ho,hz⟩:=I.lst hp;obtain⟨h1,h2,h3,h4⟩:=PX hj;have hl:=r.length;have hn:=Km;have I':Inv X pins σ (Zi H p (.lst (xs.set j v))) {s with heap:=s.heap.update p (Obj.mapSeq (·.setIfInBounds j u))}:=I.lstUpd hp ho (OC its n j u) (r.set rv j) (by rw[UZ];exact hz) s.toks
 by_cases h0:0<=k
 ·have hk:k.toNat=j:=by rw[seqIndex_of h0 h4]at h1;exact Option.some.inj h1
  exact ki_setAt ho h0 (by omega) (by rw[Us,<-hl];exact h4) (by rw[hk];exact⟨_,I',q⟩)
 ·have hk:(k+(its.toArray.size:Int)).toNat=j:=by rw[seqIndex_neg (by omega) h3]at h1;rw[Us,<-hl];exact Option.some.inj h1
  exact ki_setBack ho (by omega) (by rw[Us,<-hl];exact h3) (by omega) (by rw[hk];exact⟨_,I',q⟩)
theorem Lf(lo hi:Option Int)(n:Nat):(sliceBounds lo hi none n).1=((HT.sIx n 0 lo:Nat):Int)/\(sliceBounds lo hi none n).2.1=((HT.sIx n n hi:Nat):Int)/\(sliceBounds lo hi none n).2.2=1:=by
 refine⟨?_,?_,rfl⟩
 ·cases lo with
  |none=>simp[sliceBounds,HT.sIx]|some i=>
   simp only[sliceBounds,HT.sIx,Option.getD_none,show(1:Int)>0 by decide,RK];by_cases h:i<0
   ·simp only[h,RK]<;>omega
   ·simp only[h,Ti]<;>omega
 ·cases hi with
  |none=>simp[sliceBounds,HT.sIx]|some i=>
   simp only[sliceBounds,HT.sIx,Option.getD_none,show(1:Int)>0 by decide,RK];by_cases h:i<0
   ·simp only[h,RK]<;>omega
   ·simp only[h,Ti]<;>omega
theorem Hz(its:List Value)(lo hi:Option Int):slicePick its.toArray lo hi none=((its.drop (HT.sIx its.length 0 lo)).take (HT.sIx its.length its.length hi-HT.sIx its.length 0 lo)).toArray:=by obtain⟨h1,h2,h3⟩:=Lf lo hi its.toArray.size;unfold slicePick;rw[h1,h2,h3];simp only[sliceRange_one,pick_run,Us]<;>rfl
def tS(K:Frag):V->Option Int->Option Int->Hp->VK->Prop:=λx lo hi H Q=>∃a xs,x=.ref a/\SqL K H a xs/\∀p,H p=none->Q (.ref p) (Zi H p (.lst (Mz xs lo hi)))
theorem eR:SlR X (tS X.K):=by intro pins s σ H x v vl vu lo hi sl Q I rx hs pl pu h;obtain⟨a,xs,rfl,hx,q⟩:=h;cases rx;obtain⟨its,r,ht,hz⟩:=I.list hx;have hlen:=r.length;refine⟨"list",_,slot_list_getitem.lookup,ht.isList.typeIs,?_⟩;refine wpAny_getItem_list_slice ht.isList hs pl pu .none (by simp) ?_ (by rw[Us]<;>omega);rw[Hz,<-hlen];refine⟨.ref s.heap.objs.size,_,I.laid (t':=s.toks) (o:=.lst (Mz xs lo hi)) (λb ob q=>Uc _ q) (Ug _) ?_,rfl,q _ (I.hok.fresh (Ug _))⟩;exact⟨Uo (FD xs lo hi) hz,_,0,(r.drop (HT.sIx xs.length 0 lo)).take (HT.sIx xs.length xs.length hi-HT.sIx xs.length 0 lo),Uk _ rfl⟩
def B8:V->Bool
 |.non=>true|.bl _=>true|.int _=>true|.str _=>true|_=>false
def dJ:V->V->Bool
 |.non,.non=>true|.bl a,.bl b=>a==b|.bl a,.int b=>(if a then 1 else 0)==b|.int a,.bl b=>a==(if b then 1 else 0)|.int a,.int b=>a==b|.str a,.str b=>a==b|_,_=>false
theorem lF(ry:RelV y u)(rx:RelV x v)(fy:B8 y=true)(fx:B8 x=true):SeqAt.EqAt A s u v (dJ y x):=by
 cases y with
 |non=>
  cases ry;cases x with
  |non=>cases rx;exact SeqAt.EqAt.same _|bl b=>cases rx;exact SeqAt.EqAt.none_bool b|int b=>obtain⟨t,rfl⟩:=rx;exact SeqAt.EqAt.none_int b t|str b=>obtain⟨t,rfl⟩:=rx;exact SeqAt.EqAt.none_str b t|_=>exact absurd (show false=true from fx) Ue
 |bl a=>
  cases ry;cases x with
  |non=>cases rx;exact SeqAt.EqAt.bool_none a|bl b=>cases rx;exact SeqAt.EqAt.bool_bool a b|int b=>obtain⟨t,rfl⟩:=rx;exact SeqAt.EqAt.bool_int a b t|str b=>obtain⟨t,rfl⟩:=rx;exact SeqAt.EqAt.bool_str a b t|_=>exact absurd (show false=true from fx) Ue
 |int a=>
  obtain⟨t',rfl⟩:=ry;cases x with
  |non=>cases rx;exact SeqAt.EqAt.int_none a t'|bl b=>cases rx;exact SeqAt.EqAt.int_bool a t' b|int b=>obtain⟨t,rfl⟩:=rx;exact SeqAt.EqAt.int_int a t' b t|str b=>obtain⟨t,rfl⟩:=rx;exact SeqAt.EqAt.int_str a t' b t|_=>exact absurd (show false=true from fx) Ue
 |str a=>
  obtain⟨t',rfl⟩:=ry;cases x with
  |non=>cases rx;exact SeqAt.EqAt.str_none a t'|bl b=>cases rx;exact SeqAt.EqAt.str_bool a t' b|int b=>obtain⟨t,rfl⟩:=rx;exact SeqAt.EqAt.str_int a t' b t|str b=>obtain⟨t,rfl⟩:=rx;exact SeqAt.EqAt.str_str a t' b t|_=>exact absurd (show false=true from fx) Ue
 |_=>exact absurd (show false=true from fy) Ue
def eS(x:V)(u:Value):Bool:=match u with
 |.none=>dJ .non x|.bool b=>dJ (.bl b) x|.int i _=>dJ (.int i) x|.str z _=>dJ (.str z) x|_=>false
theorem DA(r:RelV y u)(f:B8 y=true):eS x u=dJ y x:=by
 cases y with
 |non=>cases r;rfl|bl b=>cases r;rfl|int i=>obtain⟨t,rfl⟩:=r;rfl|str z=>obtain⟨t,rfl⟩:=r;rfl|_=>exact absurd (show false=true from f) Ue
theorem Lg:∀{xs:List V}{us:List Value},Vals xs us->xs.all B8=true->us.any (eS x)=xs.any λy=>dJ y x
 |_,_,.nil,_=>rfl|y::xs,u::us,.cons r t,f=>by rw[Rs,UK]at f;rw[T8,T8,DA r f.1,Lg t f.2]
theorem Gx(rx:RelV x v)(fx:B8 x=true):∀{xs:List V}{us:List Value},Vals xs us->xs.all B8=true->∀u∈us,SeqAt.EqAt A s u v (eS x u)
 |_,_,.nil,_=>λu hu=>by cases hu
 |y::xs,u::us,.cons r t,f=>λu' hu=>by
  rw[Rs,UK]at f;rcases Uz.mp hu with rfl|hu
  ·rw[DA r f.1];exact lF r rx f.1 fx
  ·exact Gx rx fx t f.2 u' hu
def inV(x:V)(xs:List V):Bool:=xs.any λy=>dJ y x
def vK(K:Frag)(neg:Bool):R2:=λx y H Q=>∃p xs,y=.ref p/\(SqL K H p xs\/SqT K H p xs)/\B8 x=true/\xs.all B8=true/\Q (.bl (if neg then !inV x xs else inV x xs)) H
theorem Ag:OpR X (compareOp .In) (vK X.K false):=by
 intro pins s σ H x y v u Q I rx ry h;obtain⟨p,xs,rfl,hq,fx,fs,q⟩:=h;cases ry;rcases hq with hq|hq
 ·obtain⟨its,r,pl,hz⟩:=I.list hq;refine SeqAt.in_listAt (eS x) pl.isList (λw hw=>Gx rx fx r fs w (by simpa using hw)) ⟨.bl _,H,I,rfl,?_⟩;rw[show its.toArray.any (eS x)=its.any (eS x) by simp,Lg r fs];exact q
 ·obtain⟨its,r,pl,hz⟩:=I.tuple hq;refine SeqAt.in_tupleAt (eS x) pl (λw hw=>Gx rx fx r fs w (by simpa using hw)) ⟨.bl _,H,I,rfl,?_⟩;rw[show its.toArray.any (eS x)=its.any (eS x) by simp,Lg r fs];exact q
theorem Lh:JL X (.builtin "len") (λxs H Q=>∃p ys,xs=[.ref p]/\(SqL X.K H p ys\/SqT X.K H p ys)/\Q (.int ys.length) H):=by
 intro pins s σ H xs us Q I r h;obtain⟨p,ys,rfl,hq,q⟩:=h;obtain⟨u,rfl,rx⟩:=iV r;cases rx;have hn:=Km;rcases hq with hq|hq
 ·obtain⟨its,r',pl,hz⟩:=I.list hq;have hlen:=r'.length;exact Calls.call_len_list pl.isList (by simp only[Us]<;>omega) ⟨.int ys.length,H,I.tok _,⟨s.toks+1,by rw[Us,hlen]⟩,q⟩
 ·obtain⟨its,r',pl,hz⟩:=I.tuple hq;have hlen:=r'.length;exact len_tuple pl (by simp only[Us]<;>omega) ⟨.int ys.length,H,I.tok _,⟨s.toks+1,by rw[Us,hlen]⟩,q⟩
theorem HA:JL X (.type "tuple") (λxs H Q=>∃p ys,xs=[.ref p]/\((SqL X.K H p ys/\∀l,H l=none->Q (.ref l) (Zi H l (.tup ys)))\/(SqT X.K H p ys/\Q (.ref p) H))):=by
 intro pins s σ H xs us Q I r h;obtain⟨p,ys,rfl,h⟩:=h;obtain⟨u,rfl,rx⟩:=iV r;cases rx;rcases h with⟨hq,q⟩|⟨hq,q⟩
 ·obtain⟨its,r',pl,hz⟩:=I.list hq;have hlen:=r'.length;refine call_tuple_list pl.isList (λh' kp=>?_) (by simp only[Us]<;>omega);have I1:Inv X pins σ H {s with heap:=h'}:=I.kept (t':=s.toks) kp;have I2:Inv X pins σ (Zi H h'.objs.size (.tup ys)) {s with heap:=h'.push {cls:=.type "tuple",data:=.seq its.toArray} }:=I1.laid (t':=s.toks) (λb o e=>Uc _ e) (Ug _) (show ObjOk X.prog X.w _ _ _ (.tup ys) from ⟨hz,its,r',IsTup.new _ _⟩)
  exact⟨.ref h'.objs.size,_,I2,rfl,q _ (I1.hok.fresh (Ug _))⟩
 ·obtain⟨its,r',pl,hz⟩:=I.tuple hq;exact call_tuple_same pl ⟨.ref p,H,I,rfl,q⟩
def tT(K:Frag)(T:String)(x:V)(H:Hp):Prop:=match x with
 |.str _=>T ="str"|.int _=>T ="int"|.ref p=>(T ="list"/\∃xs,SqL K H p xs)\/(T ="tuple"/\∃o,K.lookup p=some o/\o.cls=.type "tuple"/\o.dict=none)\/(T ="dict"/\((∃kvs,H p=some (.dK kvs))\/∃kvs,H p=some (.dT kvs)))\/(T ="set"/\∃S n,H p=some (.set S n))
 |_=>False
theorem DB(I:Inv X pins σ H s)(r:RelV x v)(ty:tT X.K T x H):
  s.TypeIs v T/\∀a,v=.ref a->∃ob,s.heap.get? a=some ob/\ob.dict=none:=by
 cases x with
 |str z =>obtain⟨t,rfl⟩:=r;cases (show T ="str" from ty);exact⟨typeIs_str s z t,λ_ e=>nomatch e⟩|int i =>obtain⟨t,rfl⟩:=r;cases (show T ="int" from ty);exact⟨typeIs_int s i t,λ_ e=>nomatch e⟩|ref p=>
  cases r;rcases ty with⟨rfl,xs,hq⟩|⟨rfl,o,hk,hc,hd⟩|⟨rfl,hk⟩|⟨rfl,S,n,hk⟩
  ·obtain⟨its,_,pl,_⟩:=I.list hq;refine⟨pl.isList.typeIs,λa e=>?_⟩;cases e;obtain⟨o,n,e,c,hd,_⟩:=pl;exact⟨o,e,hd⟩
  ·refine⟨⟨o,I.kIn p o hk,hc⟩,λa e=>?_⟩;cases e;exact⟨o,I.kIn _ o hk,hd⟩
  ·have z:∃o,s.heap.get? p=some o/\o.ExactDict:=by
    rcases hk with⟨kvs,hk⟩|⟨kvs,hk⟩
    ·obtain⟨_,_,_,_,o,_,_,e,ex,_⟩:=I.hok p _ hk;exact⟨o,e,ex⟩
    ·obtain⟨_,_,_,_,o,_,_,e,ex,_⟩:=I.hok p _ hk;exact⟨o,e,ex⟩
   obtain⟨o,e,ex⟩:=z;refine⟨⟨o,e,ex.1⟩,λa e2=>?_⟩;cases e2;exact⟨o,e,ex.2.1⟩
  ·obtain⟨o,_,_,_,e,ex,_⟩:=I.hok p _ hk;refine⟨⟨o,e,ex.1⟩,λa e2=>?_⟩;cases e2;exact⟨o,e,ex.2.1⟩
 |_=>exact False.elim ty
def tU(K:Frag)(T:String)(r:V->List V->Hp->VK->Prop)(to:TE):TE:=λσ H Q=>to σ H λx H1=>tT K T x H1/\r x [] H1 Q
def wG(K:Frag)(T:String)(r:V->List V->Hp->VK->Prop)(to:TE)(t:TA):TE:=λσ H Q=>to σ H λx H1=>tT K T x H1/\t σ H1 λxs H2=>r x xs H2 Q
variable{o e:Expr}{es:List Expr}{to:TE}{t:TA}{name:Str}{apos cpos:Pos}{T id:String}{r:V->List V->Hp->VK->Prop}
theorem lG(pa:PlainAttrs T)(slot:Slot T name id)(hty:typeOf (.builtin id)=pure (.type "method_descriptor"))(hm:oN X id r)(ho:PE X o to)(hbase:attributeBase o name X.env (eval o X.env)=eval o X.env:=by rfl)(hline:(apos.endLine==cpos.line)=true:=by rfl):PE X (.Call (.Attribute o name apos) [] [] cpos) (tU X.K T r to):=by intro pins s σ H Q I h;refine wpAny_Call_method0_late hbase hline (ZD (ho pins s σ H _ I h) λv s1 ⟨x,H1,I1,r1,ty,q1⟩=>?_);obtain⟨h1,h2⟩:=DB I1 r1 ty;exact⟨T,id,pa,slot,hty,h1,h2,Rx rfl (PySem.evalArgs_none (hm pins s1 σ H1 x [] v [] Q I1 r1 .nil q1))⟩
theorem iZ(pa:PlainAttrs T)(slot:Slot T name id)(hty:typeOf (.builtin id)=pure (.type "method_descriptor"))(hm:oN X id r)(ho:PE X o to)(ha:PA X (e::es) t)(hbase:attributeBase o name X.env (eval o X.env)=eval o X.env:=by rfl)(hfew:((backTo cpos (starEach (e::es) X.env)).all (λx=>!x.1)&&(backToKw cpos (keywordEach [] X.env)).all (λx=>x.1.isSome)
   && decide ((e::es).length+([]:List Keyword).length+(if ([]:List Keyword).isEmpty then 0 else 1)<30))=true:=by rfl)(hline:(apos.endLine==cpos.line)=true:=by rfl)(hs:starEach (e::es) X.env=(false,eval e X.env)::starEach es X.env:=by rfl)(hplain:(backTo cpos (starEach es X.env)).any (·.1)=false:=by rfl):
  PE X (.Call (.Attribute o name apos) (e::es) [] cpos) (wG X.K T r to t):=by
 intro pins s σ H Q I h;refine wpAny_Call_method_late hbase hfew hline rfl (ZD (ho pins s σ H _ I h) λv s1 ⟨x,H1,I1,r1,ty,q1⟩=>?_);obtain⟨h1,h2⟩:=DB I1 r1 ty;refine⟨T,id,pa,slot,hty,h1,h2,?_⟩;have hA:=ha cpos pins s1 σ H1 _ I1 q1;rw[hs]at hA ⊢;refine Rx (by show(false||(backTo cpos (starEach es X.env)).any (·.1))=false;rw[hplain]<;>rfl) (Wz ?_);exact ZD hA λus s2 ⟨vs,H2,I2,r2,q2⟩=>hm pins s2 σ H2 x vs v us Q I2 r1 r2 q2
end
def tV(X:Cx)(id:String)(r:V->List V->Hp->VK->Prop):Prop:=∀(pins:YD)(s:Shared)(σ:St)(H:Hp)(x:V)(xs:List V)(v:Value)(us:List Value)(Q:VK),Inv X pins σ H s->RelV x v->Vals xs us->r x xs H Q->wpAny (model X.prog X.w) X.A (call (.builtin id) (v::us)) (EP X pins σ Q) X.xe s
theorem Vals.one:∀{x:V}{us:List Value},Vals [x] us->∃u,us=[u]/\RelV x u
 |_,_,.cons r .nil=>⟨_,rfl,r⟩
theorem Vals.two{x y:V}{us:List Value}(h:Vals [x,y] us):∃u v,us=[u,v]/\RelV x u/\RelV y v:=by
 cases h with
 |cons r h=>obtain⟨v,rfl,q⟩:=Vals.one h;exact⟨_,_,rfl,r,q⟩
theorem Vals.zero:∀{us:List Value},Vals [] us->us=[]
 |_,.nil=>rfl
theorem Vals.dropLast(h:Vals xs us):Vals xs.dropLast us.dropLast:=by
 induction h with
 |nil=>exact .nil|cons r t ih=>
  cases t with
  |nil=>exact .nil|cons q t'=>exact .cons r ih
theorem OD(l:List α):l.eraseIdx (l.length-1)=l.dropLast:=by
 induction l with
 |nil=>rfl|cons a r ih=>
  cases r with
  |nil=>rfl|cons b r=>
   have e:(a::b::r).length-1=((b::r).length-1)+1:=by have h1:(a::b::r).length=r.length+2:=rfl;have h2:(b::r).length=r.length+1:=rfl;omega
   rw[e,List.eraseIdx_cons_succ,ih];all_goals rfl
theorem Inv.lset{its its':List Value}{n:Nat}{f:Array Value->Array Value}{t':Nat}(I:Inv X pins σ H s)(hH:H l=some (.lst xs))(e:s.heap.get? l=some {cls:=.type "list",data:=.seq its.toArray n})(hf:f its.toArray=its'.toArray)(hv:Vals ys its')(hz:ys.length<=sizeLine):
  Inv X pins σ (Zi H l (.lst ys)) {s with heap:=s.heap.update l (Obj.mapSeq f),toks:=t'}:=by
 have q:=PySem.IsL.update e f;rw[hf]at q;refine I.write (x:=l) (e:=l) (by rw[hH];exact trivial) (.inl rfl) (λb' u hb hu=>(Tl s.heap (Obj.mapSeq f) (Ne.symm hb)).trans hu) ⟨_,q⟩ ?_;exact⟨hz,its',_,hv,q⟩
theorem Inv.fresh(I:Inv X pins σ H s):H s.heap.objs.size=none:=I.hok.fresh (Ug _)
theorem Inv.lstM(I:Inv X pins σ H s)(hH:H l=some (.lst xs)):xs.length<=sizeLine/\∃(its:List Value)(n:Nat),Vals xs its/\xs.length=its.length/\s.heap.get? l=some {cls:=.type "list",data:=.seq its.toArray n}:=by obtain⟨z,its,n,r,e⟩:=I.hok l _ hH;exact⟨z,its,n,r,r.length,e⟩
theorem DC(h:n<=sizeLine):Builtin.List.listTooLong n=false:=by unfold Builtin.List.listTooLong;exact Ut (by omega)
def eT:V->List V->Hp->VK->Prop:=λx vs H Q=>∃l xs y,x=.ref l/\vs=[y]/\H l=some (.lst xs)/\xs.length<sizeLine/\Q .non (Zi H l (.lst (xs++[y])))
theorem Ah:tV X "list.append" eT:=by intro pins s σ H x vs v us Q I rx rv h;obtain⟨l,xs,y,rfl,rfl,hH,hz,q⟩:=h;cases rx;obtain⟨u,rfl,ru⟩:=rv.one;obtain⟨z,its,n,r,hl,e⟩:=I.lstM hH;refine By F.slot_list_append ⟨_,e,rfl⟩ F.entry_list_append (F.args_list_append_2 _ _) (PySem.list_append l its.toArray n u (by rw[Us];omega)) ⟨e,?_⟩;refine⟨.non,_,I.lset (its':=its++[u]) hH e (by simp) (r.append (.cons ru .nil)) ?_,rfl,q⟩;rw[Um,U8];omega
def eU:V->List V->Hp->VK->Prop:=λx vs H Q=>∃l b xs zs,x=.ref l/\vs=[.ref b]/\H l=some (.lst xs)/\H b=some (.lst zs)/\xs.length+zs.length<=sizeLine/\Q .non (Zi H l (.lst (xs++zs)))
theorem Ai:tV X "list.extend" eU:=by
 intro pins s σ H x vs v us Q I rx rv h;obtain⟨l,b,xs,zs,rfl,rfl,hH,hB,hz,q⟩:=h;cases rx;obtain⟨u,rfl,ru⟩:=rv.one;cases ru;obtain⟨z,its,n,r,hl,e⟩:=I.lstM hH;obtain⟨z2,its2,n2,r2,hl2,e2⟩:=I.lstM hB;have hsz:its.toArray.size+its2.toArray.size<=sizeLine:=by rw[Us,Us];omega
 have hlong:¬(!its.toArray.isEmpty&&Builtin.List.listTooLong (its.toArray.size+its2.toArray.size))=true:=by rw[DC hsz,Bool.and_false];exact Ue
 refine By F.slot_list_extend ⟨_,e,rfl⟩ F.entry_list_extend (F.args_list_extend_2 _ _)
  (AutoSeq1.list_extend_list_list_0 l its.toArray n b its2.toArray n2 hlong (by rw[Us];omega) (by omega)) ⟨e,e2,?_⟩
 refine⟨.non,_,I.lset (its':=its++its2) hH e (by simp) (r.append r2) ?_,rfl,q⟩;rw[Um];omega
def tW:V->List V->Hp->VK->Prop:=λx vs H Q=>∃l xs y,x=.ref l/\vs=[]/\H l=some (.lst xs)/\xs[xs.length-1]?=some y/\Q y (Zi H l (.lst xs.dropLast))
theorem lH:tV X "list.pop" tW:=by
 intro pins s σ H x vs v us Q I rx rv h;obtain⟨l,xs,y,rfl,rfl,hH,hy,q⟩:=h;cases rx;have hus:=rv.zero;subst hus;obtain⟨z,its,n,r,hl,e⟩:=I.lstM hH;obtain⟨u,hu,ru⟩:=r.get hy;have hy':its.toArray[its.toArray.size-1]?=some u:=by show its.toArray[its.length-1]?=some u;rw[<-Wk,<-hl];exact hu
 refine By F.slot_list_pop ⟨_,e,rfl⟩ F.entry_list_pop (F.args_list_pop_1 _) (MeetsSeq.list_pop_last l its.toArray n u hy' (by rw[Us];omega)) ⟨e,?_⟩;refine⟨y,_,I.lset (its':=its.dropLast) hH e ?_ r.dropLast ?_,ru,q⟩
 ·show its.toArray.eraseIdxIfInBounds (its.toArray.size-1)=its.dropLast.toArray;rw[Us,List.eraseIdxIfInBounds_toArray,OD]
 ·rw[TX];omega
end L2
namespace Att
open PySem PySem.W PySem.Calls PyProof.Rows
theorem FT  : ∀(ns:List Int)(vs:List Value),WellAll P h vs (ns.map WData.int)->IntsAre vs ns:=by
 intro ns;induction ns with
 |nil =>intro vs w;rw[List.map_nil]at w;cases w;exact .nil|cons n ns ih=>
  intro vs w;rw[UL]at w;cases w with
  |cons a b =>cases a;exact .cons _ _ (ih _ b)
theorem Aj{l:OpenLaw}{n:Nat}(hn:l.most=some n){P:Params}{h:Heap}{args:List WData}{vals:List Value}(hpre:l.row.toRowW.claim.pre args=true)(hwl:WellAll P h vals args):
  ∃a vs ns,vals=[Value.ref a]/\args=[WData.list (ns.map WData.int)]/\h.get? a=some {cls:=.type "list",data:=.seq vs.toArray}/\IntsAre vs ns/\ns.length<=n:=by
 have hsh:WShape.hasAll [] args [.list .int]=true:=(pre_splitW hpre).1;have hc:l.pre.holds [] {args:=args}=true:=(pre_splitW hpre).2;obtain⟨d,r,rfl,h1,h2⟩:=hasAllW_cons hsh;obtain rfl:=hasAllW_nil h2;obtain⟨xs,rfl,h3⟩:=hasW_list h1;obtain⟨ns,rfl⟩:=items_int h3;have hlen:ns.length<=n:=by
  unfold OpenLaw.pre at hc;have h4:(WTm.not (.lt (.lit (.int (n:Int))) (.len (.arg 0)))).holds [] {args:=[.list (ns.map .int)]}=true:=by have h4:=(holds_andW hc).1;rw[hn]at h4;exact h4
  have h5:=condW_of h4 (w_not (w_lt w_lit (w_len_list (w_arg rfl))));rw[Uh]at h5;refine Ra λq=>?_;have q':(n:Int)<((ns.length:Nat):Int):=by omega
  first
   | (rw[Uv q']at h5;exact absurd h5 (by decide))
   | (simp at h5;omega)
 cases hwl with
 |cons w1 w2=>
  cases w2;cases w1 with
  |list ho hall=>exact⟨_,_,ns,rfl,rfl,ho,FT ns _ hall,hlen⟩
theorem Ak(l:OpenLaw)(args:List WData):l.row.toRowW.claim.post args (.bool true) args=true:=postW_of (r:=l.row.toRowW) (X:=(true==true))
  (show WShape.has [] (.bool true) .bool=true by first|rfl|decide|simp[WShape.has,WShape.arms,WShape.armsAll])
  (show(WTm.eq .res (.lit (.bool true))).value [] {args:=args,res:=some (.bool true),after:=args}=some (.bool (true==true)) from w_eq_bool (w_res rfl) w_lit) rfl
theorem attach_call{l:OpenLaw}{n:Nat}{q:Program}{loose:List Str}{XP:Vb->Heap->Prop}{YP:World->Heap->Prop}{d:DefRec}(hn:l.most=some n)(hdf:d.params.defaults=[])(call:∀(w:World) (s₀ s₁:Shared) (mg mb:Vb) (fa:Addr) (o:Obj) (pm cd doc:Value) (a:Addr) (vs:List Value) (ns:List Int),Ground q loose [] XP w s₀ mg mb s₁.heap->YP w s₁.heap->s₁.heap.get? fa=some o->o.data=.func (docDef d.name d.params d.body d.scope pm cd doc)->s₁.heap.CodeRec cd d.name->mg d.name=some (.ref fa)->s₁.heap.get? a=some {cls:=.type "list",data:=.seq vs.toArray}->IntsAre vs ns->ns.length<=n->s₁.gens = #[]->codeAny (model l.prog w) callerA (.call (.ref fa) ⟨[.ref a],[]⟩) (λr s'=>r=.ok (.ret (.bool true))/\OldK s₁.heap s'.heap/\s'.os=s₁.os/\AllBare s'.gens) s₁):
  WalkO q loose XP YP l.row.toRowW d [] (λf vs=>PySem.call f vs):=by
 intro w s₀ s₁ mg mb G Y fa o pm cd doc dV kV ho hd hcd hD hmg hg args vals as hpre hlay hrd hwl hlo;obtain rfl:dV=.none:=Dflts.none hD hdf;obtain rfl:kV=.none:=Dflts.noKw hD;obtain⟨a,vs,ns,rfl,rfl,hobj,hints,hlen⟩:=Aj hn hpre hwl;refine enter_call (Bv (call w s₀ s₁ mg mb fa o pm cd doc a vs ns G Y ho (fd_plain hd) hcd hmg hobj hints hlen hg) λr s' hq=>?_);obtain⟨rfl,h2,h3,h4⟩:=hq;exact⟨.inl ⟨.bool true,.bool true,[],rfl,λ_=>rfl,.bool true,Ak l _,λ_=>⟨List.Pairwise.nil,λ_ hm=>(nomatch hm)⟩⟩,h2,h3,h4⟩
end Att
namespace L2
open PySem PySem.Spec PyProof.Rows
theorem Iv:∀{vs:List Value}{ns:List Int},IntsAre vs ns->Vals (ns.map V.int) vs
 |_,_,.nil=>.nil|_,_,.cons n t h=>.cons ⟨t,rfl⟩ (Iv h)
def eV(H:Hp):Prop:=∀b,H b=none\/∃o xs,H b=some (.frz o (.lst xs))
theorem DD{P:Program}{w:World}{K:Frag}{mg mb:Vb}{CX:eJ}{k:Nat}{fa a:Addr}{fd:FuncData}{x:Str}{sp:Sp}{s₁:Shared}{vs:List Value}{ns:List Int}(KX:K.In s₁.heap)(hns:s₁.heap.Ns mainGlobals mg)(hb:s₁.heap.Ns builtinsNs mb)(hbb:∀x:Str,x ≠"__name__"->mb x=bootBuiltins x)(hlim:s₁.heap.NoLimit)(hg:s₁.gens = #[])(ha:s₁.heap.get? a=some {cls:=.type "list",data:=.seq vs.toArray})(hi:IntsAre vs ns)(hl:ns.length<=sizeLine)(hr:Room k callerA)(F:∀base:Heap,K.In base->base.Ns mainGlobals mg->FnOk P w K mg base CX k fa fd [x] sp)(hbind:∀(s:Shared) (u:Value),BindsTo s fd ⟨[u],[]⟩ [(x,u)])(hsp:∀H:Hp,eV H->SqL K H a (ns.map V.int)->sp [.ref a] H (λv _=>v=.bl true) λ_ _ _=>False)(hCX:∀H e s',CX [] H s₁ (λ_ _ _=>False) e s'->False):
  codeAny (model P w) callerA (.call (.ref fa) ⟨[.ref a],[]⟩) (λr s'=>r=.ok (.ret (.bool true))/\OldK s₁.heap s'.heap/\s'.os=s₁.os/\AllBare s'.gens) s₁:=by
 have rv:=Iv hi;have lenV:=hi.length
 -- from an abstract heap in which nothing but the script may be tracked
 have core:∀H:Hp,eV H->SqL K H a (ns.map V.int)->HOk P w H s₁.heap->(∀b,H b≠none->b=a)->(H a≠none->K.lookup a=none)->codeAny (model P w) callerA (.call (.ref fa) ⟨[.ref a],[]⟩) (λr s'=>r=.ok (.ret (.bool true))/\OldK s₁.heap s'.heap/\s'.os=s₁.os/\AllBare s'.gens) s₁:=by
  intro H hO hS hok hA hK;have base_of:∀{b:Addr}{o:Obj},s₁.heap.get? b=some o->H b=none->(Lc s₁.heap H).get? b=some o:=λe n=>Dk e n;have noA:∀{b:Addr}{o:Obj}{es:Array DictEntry}{ep:Nat},s₁.heap.get? b=some o->o.data=.dict es ep->H b=none:=λ{b o es ep} e d=>by
   cases q:H b with
   |none=>rfl|some u =>have e':b=a:=hA b (by rw[q];simp);subst e';rw[ha]at e;cases e;have d':Data.seq vs.toArray _=Data.dict es ep:=d;cases d'
  have nsK:∀{b:Addr}{m:Vb},s₁.heap.Ns b m->(Lc s₁.heap H).Ns b m:=λ{b m} ⟨o,es,ep,e,d,r⟩=>⟨o,es,ep,base_of e (noA e d),d,r⟩;have hKb:K.In (Lc s₁.heap H):=λb o e=>base_of (KX b o e) (by
   cases q:H b with
   |none=>rfl|some u =>have e':b=a:=hA b (by rw[q];simp);subst e';rw[hK (by rw[q];simp)]at e;cases e)
  have hM:Mod K mg (Lc s₁.heap H):=⟨hKb,nsK hns,⟨mb,nsK hb,hbb⟩,let ⟨mc,h1,h2⟩:=hlim;⟨mc,nsK h1,h2⟩⟩;have e0:Env0 P w K mg (Lc s₁.heap H) callerA [] s₁ H:=⟨rfl,hM,λb o e=>dN e,Nat.le_of_eq (S4 _ _),trivial,λb hb=>absurd (show b∈([]:List Addr) from hb) (by simp),hok,.of_eq hg⟩;refine Bv ((F _ hKb (nsK hns)).run callerA [] s₁ H ⟨[.ref a],[]⟩ [.ref a] [.ref a] _ _ hr e0 (hbind s₁ (.ref a)) (.cons rfl .nil) (hsp H hO hS)) λr s' h=>?_;cases r with
  |error e=>exact(hCX H e s' h).elim|ok fl=>
   cases fl with
   |next=>exact False.elim h|brk=>exact False.elim h|cont=>exact False.elim h|ret u=>
    obtain⟨v,H',os,bare,un,hok',r',q⟩:=h;have q':v=.bl true:=q;subst q';obtain rfl:u=Value.bool true:=r';refine⟨rfl,OldK.of_keep λb o e=>?_,os,bare⟩;cases q:H b with
    |none=>exact un.keep b o e q (by intro z;exact absurd (show b∈([]:List Addr) from z) (by simp)) (by simp)|some u=>
     rcases hO b with z|⟨ob,xs,z⟩
     ·rw[q]at z;cases z
     ·have z2:=un.frzs b ob _ z;obtain⟨e1,_⟩:=hok b _ z;obtain⟨e2,_⟩:=hok' b _ z2;rw[e]at e1;cases e1;exact e2
 cases hk:K.lookup a with
 |some o=>
  -- the script is one of the module's own objects
  have e:=KX a o hk;rw[ha]at e;cases e;refine core (λ_=>none) (λ_=>.inl rfl) (.inr ⟨_,vs.toArray,_,hk,rfl,rfl,rfl,by rw[Us,lenV];exact hl,by simpa using rv⟩) (λb u z=>by have z':(none:Option HO)=some u:=z;cases z') (λb z=>absurd rfl z) λz=>absurd rfl z
 |none=>
  refine core (λb=>if b=a then some (.frz {cls:=.type "list",data:=.seq vs.toArray} (.lst (ns.map V.int))) else none) (λb=>?_) (.inl (.inr ⟨{cls:=.type "list",data:=.seq vs.toArray},Ud rfl⟩)) (λb u z=>?_) (λb z=>?_) λ_=>hk
  ·by_cases hb:b=a
   ·exact .inr ⟨_,_,Ud hb⟩
   ·exact .inl (Uf hb)
  ·by_cases hb:b=a
   ·have z':=(Ud hb).symm.trans z;cases z';subst hb;exact⟨ha,by rw[Uh];exact hl,vs,_,rv,ha⟩
   ·have z':=(Uf hb).symm.trans z;cases z'
  ·by_cases hb:b=a
   ·exact hb
   ·exact absurd (Uf hb) z
theorem walk_of{l:PySem.W.OpenLaw}{n k:Nat}{q:Program}{loose:List Str}{XP:Vb->Heap->Prop}{YP:World->Heap->Prop}{d:DefRec}{K:Params->Frag}{CX:World->eJ}{sp:World->Sp}{x:Str}(hn:l.most=some n)(hn2:n<=sizeLine)(hdf:d.params.defaults=[])(hr:Room k callerA)(hY:∀(w:World) (h:Heap),YP w h->(K w.params).In h)(F:∀(w:World) (mg:Vb) (fa:Addr) (h:Heap),(K w.params).In h->h.Ns mainGlobals mg->mg d.name=some (.ref fa)->∃fd:FuncData,(∀(s:Shared) (u:Value),BindsTo s fd ⟨[u],[]⟩ [(x,u)])/\∀base:Heap,(K w.params).In base->base.Ns mainGlobals mg->FnOk l.prog w (K w.params) mg base (CX w) k fa fd [x] (sp w))(hsp:∀(w:World) (H:Hp) (a:Addr) (ns:List Int),ns.length<=n->eV H->SqL (K w.params) H a (ns.map V.int)->sp w [.ref a] H (λv _=>v=.bl true) λ_ _ _=>False)(hCX:∀(w:World) (H:Hp) (s:Shared) (e:Value) (s':Shared),CX w [] H s (λ_ _ _=>False) e s'->False):
  PySem.W.WalkO q loose XP YP l.row.toRowW d [] (λf vs=>PySem.call f vs):=by
 refine Att.attach_call hn hdf λw s₀ s₁ mg mb fa o pm cd doc a vs ns G Y ho hd hcd hmg hobj hints hlen hg=>?_;have KX:=hY w _ Y;obtain⟨fd,hb,hF⟩:=F w mg fa _ KX G.T.g hmg;exact DD KX G.T.g G.T.b G.T.builtins G.T.nolimit hg hobj hints (Uo hlen hn2) hr hF hb (λH hO hS=>hsp w H a ns hlen hO hS) λH e s'=>hCX w H s₁ e s'
def Zj(s:Stmt)(j:Nat):Stmt:=match s with
 |.ClassDef _ _ _ body _ _ _ _ _ _ _=>body.getD j (.Pass ⟨0,0,0,0⟩)|_=>.Pass ⟨0,0,0,0⟩
def ZY(s:Stmt):Arguments:=match s with
 |.FunctionDef _ a _ _ _ _ _ _ _ _=>a|_=>{posonlyargs:=[],args:=[],vararg:=none,kwonlyargs:=[],kw_defaults:=[],kwarg:=none,defaults:=[]}
def ZB(s:Stmt):List Stmt:=match s with
 |.FunctionDef _ _ b _ _ _ _ _ _ _=>b|_=>[]
def Qg(s:Stmt):Scope:=match s with
 |.FunctionDef _ _ _ _ _ _ sc _ _ _=>sc|_=>{kind:=.function,names:=[],isGenerator:=false,isCoroutine:=false}
abbrev wK:eJ:=λ_ _ _ _ _ _=>False
structure Fun(K:Frag)(x qual:Str)(st:Stmt)(f:Addr)(fd:FuncData):Prop where
 ex:∃(oc:Value)(od:Option Addr)(kV doc pm:Value)(an:Option Addr)(cdv ct:Value)(osl:Array (Option Value)),fd=fnOf x qual (ZY st) (ZB st) (Qg st) .none kV doc pm an cdv ct/\K.lookup f=some ⟨oc,od,.func fd,osl⟩/\codeIn K cdv qual=true
 kp:keepIn K (.ref f)=true
section
variable{P:Program}{w:World}{K:Frag}{mg:Vb}{base:Heap}
theorem Fun.binds{x qual:Str}{st:Stmt}{f:Addr}{fd:FuncData}{ps:List Str}(F:Fun K x qual st f fd)(h:∀(kV doc pm:Value) (an:Option Addr) (cdv ct:Value) (us:List Value),us.length=ps.length->bindArgs (fnOf x qual (ZY st) (ZB st) (Qg st) .none kV doc pm an cdv ct) ⟨us,[]⟩=pure (ps.zip us)):Binds K fd ps []:=by obtain⟨oc,od,kV,doc,pm,an,cdv,ct,osl,rfl,lk,hcd⟩:=F.ex;exact .all (h kV doc pm an cdv ct)
theorem OE{x qual:Str}{st:Stmt}{f:Addr}{oc:Value}{od an:Option Addr}{osl:Array (Option Value)}{kV doc pm cdv ct:Value}(l:K.lookup f=some ⟨oc,od,.func (fnOf x qual (ZY st) (ZB st) (Qg st) .none kV doc pm an cdv ct),osl⟩)(c:codeIn K cdv qual=true)(k:keepIn K (.ref f)=true):Fun K x qual st f (fnOf x qual (ZY st) (ZB st) (Qg st) .none kV doc pm an cdv ct):=⟨⟨oc,od,kV,doc,pm,an,cdv,ct,osl,rfl,l,c⟩,k⟩
end
def wH(H H':Hp):Prop:=∀b o,H b=some o->H' b=some o
end L2
set_option maxHeartbeats 4000000
namespace L3
inductive SKd where
 |inl (g:List Int)|inr (c:List Int×Int×Int×List Int)|sh (s:Int×Int×List (List Int))
 deriving DecidableEq
end L3
namespace NK
open PySem PyProof.Rows
structure VK(prog:Program)(w:World)(K:Type)[DecidableEq K] where
 is:Heap->K->Value->Prop
 hash:K->Int
 draws:K->Nat
 dep:Nat
 inj:∀{h:Heap}{v:Value}{x y:K},is h x v->is h y v->x=y
 keeps:∀{h h':Heap}{k:K}{v:Value},is h k v->(∀b o i n,h.get? b=some o->o.data=.seq i n->h'.get? b=some o)->is h' k v
 pyHash:∀{A:Around}{E:VP}{s:Shared}{k:K}{v:Value}{Q:Int->Shared->Prop},A.units+dep<cLine->is s.heap k v->Q (hash k) {s with toks:=s.toks+draws k}->wpAny (model prog w) A (PySem.pyHash v) Q E s
 eqBool:∀{A:Around}{E:VP}{s:Shared}{x y:K}{u v:Value}{Q:Bool->Shared->Prop},A.units+dep<cLine->is s.heap x u->is s.heap y v->Q (decide (x=y)) s->wpAny (model prog w) A (PySem.eqBool u v) Q E s
 quiet:∀{A:Around}{E:VP}{s:Shared}{k:K}{v:Value}{Q:Bool->Shared->Prop}(n:Nat),dep<=n->is s.heap k v->Q true s->wpAny (model prog w) A (eqIsQuiet n v) Q E s
section
variable{prog:Program}{w:World}{A:Around}{E:VP}{s:Shared}
def intV(prog:Program)(w:World):VK prog w Int where
 is:=λ_ k v=>Value.isInt k v=true
 hash:=hashInt
 draws:=λ_=>1
 dep:=0
 inj:=λhx hy=>(intKind prog w).inj _ _ _ hx hy
 keeps:=λh _=>h
 pyHash:=λ_ hv h=>(intKind prog w).pyHash hv h
 eqBool:=λ_ hu hv h=>(intKind prog w).eqBool hu hv h
 quiet:=λn _ hv h=>by rw[eqIsQuiet_byValue n ((intKind prog w).byValue _ _ hv)];exact Ub h
def Tp(h:Heap)(a:Addr)(us:List Value):Prop:=∃o items n,h.get? a=some o/\o.cls=.type "tuple"/\o.data=.seq items n/\items.toList=us
theorem Tp.typeIs(x:Tp s.heap a us):s.TypeIs (.ref a) "tuple":=let ⟨o,_,_,ho,hc,_⟩:=x;⟨o,ho,hc⟩
theorem Tp.inj(x:Tp h a us)(y:Tp h a vs):us=vs:=by obtain⟨o,i,n,ho,_,hd,rfl⟩:=x;obtain⟨o',i',n',ho',_,hd',rfl⟩:=y;obtain rfl:o=o':=Option.some.inj (ho.symm.trans ho');rw[hd]at hd';injection hd' with h1 _;rw[h1]
theorem Tp.keeps(x:Tp h a us)(k:∀b o i n,h.get? b=some o->o.data=.seq i n->h'.get? b=some o):Tp h' a us:=
 let ⟨o,i,n,ho,hc,hd,e⟩:=x;⟨o,i,n,k a o i n ho hd,hc,hd,e⟩
def DF(prog:Program)(w:World)(dep:Nat)(h:Heap)(p:Int×Nat)(v:Value):Prop:=∀{A:Around}{E:VP}{s:Shared}{Q:Int->Shared->Prop},s.heap=h->A.units+dep<cLine->Q p.1 {s with toks:=s.toks+p.2}->wpAny (model prog w) A (PySem.pyHash v) Q E s
inductive Al{α β:Type}(R:α->β->Prop):List α->List β->Prop
 |nil:Al R [] []
 |cons {a:α} {b:β} {as:List α} {bs:List β}:R a b->Al R as bs->Al R (a::as) (b::bs)
theorem Al.len(h:Al R as bs):as.length=bs.length:=by
 induction h with
 |nil=>rfl|cons _ _ ih=>simp[ih]
def OF(ps:List (Int×Nat)):Nat:=(ps.map (·.2)).sum
theorem Gy{dep:Nat}{a:Addr}{us:List Value}{ps:List (Int×Nat)}{Q:Int->Shared->Prop}(hu:A.units+(dep+1)<cLine)(ht:Tp s.heap a us)(hi:Al (DF prog w dep s.heap) ps us)(h:Q (reduceHash (Builtin.Tuple.tupleHashOf (ps.map (·.1)))) {s with toks:=s.toks+(OF ps+1)}):wpAny (model prog w) A (PySem.pyHash (.ref a)) Q E s:=by
 have hT:=ht.typeIs;obtain⟨o,items,n,ho,_,hd,rfl⟩:=ht;unfold PySem.pyHash;first|unfold pyHashByItsType|skip
 first|refine Ua (wpAny_cRoomFor_or (.inr (by omega)) ?_)|skip
 refine Ua (T4 hT Wa.lookup ?_);show wpAny _ _ (if (some (Value.builtin "tuple.__hash__")==some Value.none)=true then _ else _) Q E s;rw[Uf (by rw[beq_builtin_none];exact Ue)];refine Ua (T4 hT Wa.lookup ?_);show wpAny _ _ (callSpecialIfBoundUnlessNone? (.ref a) "__hash__" _ >>= _) Q E s;refine Ua (wpAny_callSpecialIfBoundUnlessNone?_slot hT Wa (UE Wa hT F.entry_tuple_hash ?_ (F.args_tuple_hash_1 _)));show wpAny _ _ (Builtin.Tuple.tupleItemsOf (.ref a) >>= _) _ _ s;refine Ua (Rg ho hd ?_);refine Ua ?_;rw[<-Array.forIn_toList];refine RL _
  (λrest (b:Array Int) s'=>∃done left,ps=done++left/\Al (DF prog w dep s.heap) left rest/\b.toList=done.map (·.1)/\s' = {s with toks:=s.toks+OF done})
  _ ?_ ?_ _ _ ⟨[],ps,rfl,hi,rfl,rfl⟩
 ·rintro x rest b s' ⟨done,left,rfl,hl,hb,rfl⟩;cases hl with
  |@cons p _ ps' _ h1 hl'=>
   refine Ua (h1 rfl (by show A.units+1+dep<cLine;omega) ?_);first
    |exact Ub ⟨done++[p],ps',by simp,hl',by simp[hb],by simp[OF,WA]⟩
    |exact Ua (Ub (Ub ⟨done++[p],ps',by simp,hl',by simp[hb],by simp[OF,WA]⟩))
 ·rintro b s' ⟨done,left,rfl,hl,hb,rfl⟩;cases hl;rw[UY]at h;show wpAny _ _ (retInt (Builtin.Tuple.tupleHashOf b.toList)) _ _ _;rw[hb];refine wpAny_ret_mkInt ?_;show wpAny _ _ (if (decide (-(2:Int) ^ 63<=Builtin.Tuple.tupleHashOf (done.map (·.1)))&&decide (Builtin.Tuple.tupleHashOf (done.map (·.1))<2^63))=true then _ else _) Q E _;unfold reduceHash at h;by_cases hr:(decide (-(2:Int) ^ 63<=Builtin.Tuple.tupleHashOf (done.map (·.1)))&&decide (Builtin.Tuple.tupleHashOf (done.map (·.1))<2^63))=true
  ·rw[Ud hr];rw[Ud hr]at h;exact Ub (by simpa[WA]using h)
  ·rw[Uf hr];rw[Uf hr]at h;exact Ua (TL (Ub (by simpa[WA]using h)))
def EqAt(prog:Program)(w:World)(dep:Nat)(h:Heap)(b:Bool)(p:Value×Value):Prop:=∀{A:Around}{E:VP}{s:Shared}{Q:Bool->Shared->Prop},s.heap=h->A.units+dep<cLine->Q b s->wpAny (model prog w) A (PySem.eqBool p.1 p.2) Q E s
theorem OG{dep:Nat}{a c:Addr}{us vs:List Value}{bs:List Bool}{r:Bool}{Q:Bool->Shared->Prop}(hu:A.units+(dep+1)<cLine)(hx:Tp s.heap a us)(hy:Tp s.heap c vs)(hi:Al (EqAt prog w dep s.heap) bs (us.zip vs))(hr:r=(bs.all id&&(us.length==vs.length)))(hs:a=c->r=true)(h:Q r s):wpAny (model prog w) A (PySem.eqBool (.ref a) (.ref c)) Q E s:=by
 unfold PySem.eqBool;try with_reducible refine U5 ?_
 show wpAny _ _ (if (Value.ref a==Value.ref c)=true then _ else _) Q E s;by_cases hab:(Value.ref a==Value.ref c)=true
 ·rw[Ud hab];have e:a=c:=by have:=eq_of_beq hab;injection this
  rw[hs e]at h;exact Ua (TL (Ub (by simpa using h)))
 ·rw[Uf hab];have hTa:=hx.typeIs;have hTb:=hy.typeIs;obtain⟨oa,xs,na,hoa,_,hda,rfl⟩:=hx;obtain⟨ob,ys,nb,hob,_,hdb,rfl⟩:=hy;refine Ua (WQ (op:=.Eq) hTa hTb BA (UE BA hTa F.entry_tuple_eq ?_ (F.args_tuple_eq_2 _ _)) (by omega));show wpAny _ _ (isInstance (.ref c) (.type "tuple") >>= _) _ _ s;refine Ua (TQ hTb Wl ?_);simp only[TY,UD,Ti];refine Ua (Rg hoa hda ?_);refine Ua (Rg hob hdb ?_);refine Ua ?_;have fin:wpAny (model prog w) A.in1 (pure (Fin.done (.ret (.bool r)))) (λfin s'=>∃v,fin=.done (.ret v)/\v≠.notImplemented/\wpAny (model prog w) A (truthy v) Q E s') E s:=Ub ⟨_,rfl,(λe=>nomatch e),Ta h⟩;refine RL _
   (λrest q s'=>q.1=none/\s'=s/\∃bs',Al (EqAt prog w dep s.heap) bs' rest/\(bs'.all id&&(xs.toList.length==ys.toList.length))=r)
   _ ?_ ?_ _ _ ⟨rfl,rfl,bs,hi,hr.symm⟩
  ·rintro ⟨u,v⟩ rest q s' ⟨hq,rfl,bs',hb,hdec⟩;cases hb with
   |@cons b1 _ bs'' _ h1 hb'=>
    refine Ua (h1 rfl (by show A.units+1+dep<cLine;omega) ?_);cases b1 with
    |true =>simp only[TY,UD,Ti];exact Ub ⟨rfl,rfl,bs'',hb',by simpa using hdec⟩|false=>
     simp only[W0,RK];have hf:r=false:=by rw[<-hdec];simp
     rw[hf]at h;exact Ua (Ub (Ub (Ub ⟨_,rfl,(λe=>nomatch e),Ta h⟩)))
  ·rintro ⟨r1,r2⟩ s' ⟨hq,rfl,bs',hb,hdec⟩;simp only at hq;subst hq;cases hb;refine Ub ⟨_,rfl,(λe=>nomatch e),Ta ?_⟩;have:(xs.size==ys.size)=r:=by simpa using hdec
   rw[this];exact h
theorem E3(n:Nat)(ht:Tp s.heap a us)(hi:∀v∈us,∀{A:Around} {E:VP} {Q:Bool->Shared->Prop},Q true s->wpAny (model prog w) A (eqIsQuiet n v) Q E s)(h:Q true s):wpAny (model prog w) A (eqIsQuiet (n+1) (.ref a)) Q E s:=by
 have hT:=ht.typeIs;obtain⟨o,items,k,ho,_,hd,rfl⟩:=ht;unfold eqIsQuiet;refine Ua (T4 hT BA.lookup ?_);show wpAny _ _ (isInstance (.ref a) (.type "tuple") >>= _) _ _ s;refine Ua (TQ hT Wl ?_);simp only[TY,UD,Ti];refine Ua (T0 ho hd ?_);refine Ua ?_;show wpAny _ _ (forIn items _ _) _ _ s;rw[<-Array.forIn_toList];refine RL _ (λrest r s'=>r.1=none/\s'=s/\∀v∈rest,v∈items.toList) _ ?_ ?_ _ _ ⟨rfl,rfl,λv hv=>hv⟩
 ·rintro v rest r s' ⟨hr,rfl,hall⟩;refine Ua (hi v (hall v Ux) ?_);simp only[TY,UD,Ti];exact Ub ⟨rfl,rfl,λu hu'=>hall u (Uw _ hu')⟩
 ·rintro ⟨r1,r2⟩ s' ⟨hr,rfl,_⟩;simp only at hr;subst hr;exact Ub h
theorem Al.map(h:Al R as bs)(g:∀a b,R a b->S (f a) b):Al S (as.map f) bs:=by
 induction h with
 |nil=>exact .nil|cons a _ ih=>exact .cons (g _ _ a) ih
theorem Al.imp(h:Al R as bs)(g:∀a b,R a b->S a b):Al S as bs:=by
 induction h with
 |nil=>exact .nil|cons a _ ih=>exact .cons (g _ _ a) ih
theorem Al.mem(h:Al R as bs):∀b∈bs,∃a,R a b:=by
 induction h with
 |nil=>intro b hb;cases hb|cons a _ ih=>intro b hb;rcases Uz.mp hb with rfl|z;exact⟨_,a⟩;exact ih b z
variable{K:Type}[DecidableEq K]
theorem DG{v:VK prog w K}{h:Heap}{x y:List K}{us:List Value}(hx:Al (v.is h) x us)(hy:Al (v.is h) y us):x=y:=by
 induction hx generalizing y with
 |nil=>cases hy;rfl|cons a _ ih=>cases hy with|cons b t=>rw[v.inj a b,ih t]
theorem pX{v:VK prog w K}{h:Heap}{x y:List K}{us vs:List Value}(hx:Al (v.is h) x us)(hy:Al (v.is h) y vs):∃bs,Al (EqAt prog w v.dep h) bs (us.zip vs)/\decide (x=y)=(bs.all id&&(us.length==vs.length)):=by
 induction hx generalizing y vs with
 |nil=>cases hy with
  |nil=>exact⟨[],.nil,by simp⟩|cons _ _=>exact⟨[],.nil,by simp⟩
 |@cons k u ks us' a t ih=>cases hy with
  |nil=>exact⟨[],.nil,by simp⟩|@cons k2 u2 ks2 us2 b t2=>
   obtain⟨bs,h1,h2⟩:=ih t2;refine⟨decide (k=k2)::bs,.cons (λ{A E s Q} e hu q=>v.eqBool hu (by rw[e];exact a) (by rw[e];exact b) q) h1,?_⟩;rw[Rs,UA,UA];by_cases hk:k=k2
   ·by_cases hks:ks=ks2<;>simp[hk,hks]at h2 ⊢ <;> simpa using h2
   ·simp[hk]
def lstV(v:VK prog w K):VK prog w (List K) where
 is:=λh ks u=>∃a us,u=.ref a/\Tp h a us/\Al (v.is h) ks us
 hash:=λks=>reduceHash (Builtin.Tuple.tupleHashOf (ks.map v.hash))
 draws:=λks=>(ks.map v.draws).sum+1
 dep:=v.dep+1
 inj:=λ{h u x y} hx hy=>by obtain⟨a,us,rfl,t1,i1⟩:=hx;obtain⟨b,vs,e,t2,i2⟩:=hy;injection e with e;subst e;obtain rfl:=t1.inj t2;exact DG i1 i2
 keeps:=λ{h h' k u} hx kp=>by obtain⟨a,us,rfl,t1,i1⟩:=hx;exact⟨a,us,rfl,t1.keeps kp,i1.imp λ_ _ q=>v.keeps q kp⟩
 pyHash:=λ{A E s k u Q} hu hx h=>by obtain⟨a,us,rfl,t1,i1⟩:=hx;refine Gy (ps:=k.map λx=>(v.hash x,v.draws x)) hu t1 (i1.map λx y q=>λ{A E s Q} e hu h=>v.pyHash hu (by rw[e];exact q) h) ?_;simpa[OF,Function.comp_def]using h
 eqBool:=λ{A E s x y u z Q} hu hx hy h=>by obtain⟨a,us,rfl,t1,i1⟩:=hx;obtain⟨b,vs,rfl,t2,i2⟩:=hy;obtain⟨bs,h1,h2⟩:=pX i1 i2;refine OG hu t1 t2 h1 h2 (λe=>?_) h;subst e;obtain rfl:=t1.inj t2;exact Uv (DG i1 i2)
 quiet:=λ{A E s k u Q} n hn hx h=>by obtain⟨a,us,rfl,t1,i1⟩:=hx;obtain⟨n,rfl⟩:∃j,n=j+1:=⟨n-1,by omega⟩;exact E3 n t1 (λv' hv' {A E Q} q=>let ⟨_,hq⟩:=i1.mem v' hv';v.quiet n (by omega) hq q) h
variable{K2 K3:Type}[DecidableEq K2][DecidableEq K3]
theorem up(h:dep<=dep')(hu:A.units+dep'<cLine):A.units+dep<cLine:=by omega
def tX(a:VK prog w K)(b:VK prog w K2)(c:VK prog w K3):VK prog w (K×K2×K3) where
 is:=λh k u=>∃r x y z,u=.ref r/\Tp h r [x,y,z]/\a.is h k.1 x/\b.is h k.2.1 y/\c.is h k.2.2 z
 hash:=λk=>reduceHash (Builtin.Tuple.tupleHashOf [a.hash k.1,b.hash k.2.1,c.hash k.2.2])
 draws:=λk=>a.draws k.1+(b.draws k.2.1+c.draws k.2.2)+1
 dep:=max a.dep (max b.dep c.dep)+1
 inj:=λ{h u x y} hx hy=>by obtain⟨r,x1,x2,x3,rfl,t1,i1,i2,i3⟩:=hx;obtain⟨r',y1,y2,y3,e,t2,j1,j2,j3⟩:=hy;injection e with e;subst e;have:=t1.inj t2;injection this with e1 this;injection this with e2 this;injection this with e3 this;subst e1 e2 e3;obtain⟨k1,k2,k3⟩:=x;obtain⟨l1,l2,l3⟩:=y;rw[show k1=l1 from a.inj i1 j1,show k2=l2 from b.inj i2 j2,show k3=l3 from c.inj i3 j3]
 keeps:=λ{h h' k u} hx kp=>by obtain⟨r,x1,x2,x3,rfl,t1,i1,i2,i3⟩:=hx;exact⟨r,x1,x2,x3,rfl,t1.keeps kp,a.keeps i1 kp,b.keeps i2 kp,c.keeps i3 kp⟩
 pyHash:=λ{A E s k u Q} hu hx h=>by obtain⟨r,x1,x2,x3,rfl,t1,i1,i2,i3⟩:=hx;refine Gy (ps:=[(a.hash k.1,a.draws k.1),(b.hash k.2.1,b.draws k.2.1),(c.hash k.2.2,c.draws k.2.2)]) hu t1 (.cons (λ{A E s Q} e hu h=>a.pyHash (up (by omega) hu) (by rw[e];exact i1) h) (.cons (λ{A E s Q} e hu h=>b.pyHash (up (by omega) hu) (by rw[e];exact i2) h) (.cons (λ{A E s Q} e hu h=>c.pyHash (up (by omega) hu) (by rw[e];exact i3) h) .nil))) ?_;simpa[OF]using h
 eqBool:=λ{A E s x y u z Q} hu hx hy h=>by
  obtain⟨r,x1,x2,x3,rfl,t1,i1,i2,i3⟩:=hx;obtain⟨r',y1,y2,y3,rfl,t2,j1,j2,j3⟩:=hy;obtain⟨k1,k2,k3⟩:=x;obtain⟨l1,l2,l3⟩:=y;refine OG (bs:=[decide (k1=l1),decide (k2=l2),decide (k3=l3)]) hu t1 t2 (.cons (λ{A E s Q} e hu h=>a.eqBool (up (by omega) hu) (by rw[e];exact i1) (by rw[e];exact j1) h) (.cons (λ{A E s Q} e hu h=>b.eqBool (up (by omega) hu) (by rw[e];exact i2) (by rw[e];exact j2) h) (.cons (λ{A E s Q} e hu h=>c.eqBool (up (by omega) hu) (by rw[e];exact i3) (by rw[e];exact j3) h) .nil))) ?_ (λe=>?_) h
  ·simp only[Prod.mk.injEq,BB,Rs,List.all_nil,Bool.and_true,id,UA,Wt]
  ·subst e;have:=t1.inj t2;injection this with e1 this;injection this with e2 this;injection this with e3 this;subst e1 e2 e3;have q1:k1=l1:=a.inj i1 j1;have q2:k2=l2:=b.inj i2 j2;have q3:k3=l3:=c.inj i3 j3;simp[q1,q2,q3]
 quiet:=λ{A E s k u Q} n hn hx h=>by
  obtain⟨r,x1,x2,x3,rfl,t1,i1,i2,i3⟩:=hx;obtain⟨n,rfl⟩:∃j,n=j+1:=⟨n-1,by omega⟩;refine E3 n t1 (λv' hv' {A E Q} q=>?_) h;rcases Uz.mp hv' with rfl|hv'
  ·exact a.quiet n (by omega) i1 q
  rcases Uz.mp hv' with rfl|hv'
  ·exact b.quiet n (by omega) i2 q
  rw[Ur.mp hv'];exact c.quiet n (by omega) i3 q
def hk(v:VK prog w K)(hd:v.dep<=8):HeapKind prog w K where
 is:=λh k a=>v.is h k (.ref a)
 hash:=v.hash
 draws:=v.draws
 room:=λA=>A.units+v.dep<cLine
 inj:=λhx hy=>v.inj hx hy
 keeps:=λ{h h' k a d o es ep} hx ho hdat hs=>v.keeps hx λb o' i n hb hq=>(hs.2 b (by rintro rfl;obtain rfl:o'=o:=Option.some.inj (hb.symm.trans ho);rw[hdat]at hq;exact nomatch hq)).trans hb
 pyHash:=λhu hx h=>v.pyHash hu hx h
 eqBool:=λhu hx hy h=>v.eqBool hu hx hy h
 quiet:=λhx h=>v.quiet 8 hd hx h
end
section
variable{prog:Program}{w:World}{K:Type}[DecidableEq K]{knd:HeapKind prog w K}{A:Around}{E:VP}{s:Shared}
theorem lI{d a:Addr}{xs:List (K×Addr×Value)}{k:K}{v:Value}{Q:VP}(hu:knd.room A)(hkey:knd.is s.heap k a)(hm:s.heap.DictOfH knd d xs)(hz:xs.length<=sizeLine)(h1:∀p,atKey xs k=some p->Q p.2 {s with toks:=s.toks+knd.draws k})(h2:atKey xs k=none->∀h',h'.DictOfH knd d (xs++[(k,a,v)])->Heap.SameBut d s.heap h'->Q v {s with heap:=h',toks:=s.toks+knd.draws k}):
  wpAny (model prog w) A (dictSetDefault d (.ref a) v) Q E s:=by
 obtain⟨o,es,ep,ho,hc,hd,he,his,hn⟩:=hm;unfold dictSetDefault;try with_reducible refine U5 ?_
 refine Ua (knd.pyHash hu hkey (Ua (wpAny_dictFind_heap (s:={s with toks:=s.toks+knd.draws k}) hu hkey ho hd he his hn ?_ ?_)))
 ·intro hno;have hnot:k∉xs.map (·.1):=not_mem_keys_of_get hno;refine Ua (TL (Ua (wpAny_updateDictKeys (hz:=by have e:=size_of_entries he;omega) (s:={s with toks:=s.toks+knd.draws k}) ho hd (Ub (h2 (atKey_none_of_get hno) _ ⟨_,_,ep+1,Tu _ ho (Obj.isFreed_of_dict (Obj.data_mapDictKeys hd _)),hc.mapDictKeys _,Obj.data_mapDictKeys hd _,?_,?_,?_⟩ (UV ..))))))
  ·simp[he,entryOfKey]
  ·intro x hx;rcases UO.mp hx with hx|hx
   ·exact knd.keeps (his x hx) ho hd (UV ..)
   ·rw[Ur.mp hx];exact knd.keeps hkey ho hd (UV ..)
  ·rw[UU,Tt];refine⟨hn,by simp,λx hx y hy e=>hnot ?_⟩;have hy:y=k:=by simpa using hy
   rw[<-hy,<-e];exact hx
 ·intro j p hj;refine Ua (Rr (s:={s with toks:=s.toks+knd.draws k}) ho hd ?_);rw[entry_at he j,hj];exact Ua (TL (Ub (h1 p (atKey_of_get hn hj))))
theorem meetsSetDef(hd:(d==sysModules)=false)(v:Value):
  MeetsIn prog w (Builtin.«dict.setdefault» ⟨[.ref d,.ref a,v],[]⟩) (λA R s=>knd.room A.in1/\∃k xs,knd.is s.heap k a/\s.heap.DictOfH knd d xs/\xs.length<=sizeLine/\(∀p,atKey xs k=some p->R (.ok (.ret p.2)) {s with toks:=s.toks+knd.draws k})/\(atKey xs k=none->∀h',h'.DictOfH knd d (xs++[(k,a,v)])->Heap.SameBut d s.heap h'->R (.ok (.ret v)) {s with heap:=h',toks:=s.toks+knd.draws k})):=
 .of_wp λA R s ⟨hu,k,xs,hkey,hm,hz,h1,h2⟩=>by unfold Builtin.«dict.setdefault»;refine Ua ?_;unfold Builtin.Dict.keyAndDefault;refine Ua (Wm hm.typeIs ?_);show wpAny _ _ (pure (d,Value.ref a,some v)) _ _ s;refine Ub ?_;show wpAny _ _ (if (d==sysModules)=true then _ else (dictSetDefault d (.ref a) v >>= _)) _ _ s;rw[Uf (by rw[hd];exact Ue)];exact Ua (lI hu hkey hm hz (λp hp=>Ub ⟨p.2,rfl,h1 p hp⟩) λhn h' hm' hs'=>Ub ⟨v,rfl,h2 hn h' hm' hs'⟩)
end
def DE(h:Heap)(d:Addr)(es:Array DictEntry)(ep:Nat):Prop:=∃o,h.get? d=some o/\o.ExactDict/\o.data=.dict es ep
theorem DE.typeIs{s:Shared}{d:Addr}{es:Array DictEntry}{ep:Nat}(x:DE s.heap d es ep):s.TypeIs (.ref d) "dict":=let ⟨o,ho,hc,_⟩:=x;⟨o,ho,hc.1⟩
section
variable{prog:Program}{w:World}{A:Around}{E:VP}{s:Shared}
def itIs(b:Bool)(h:Heap)(it d:Addr)(i n ep:Nat):Prop:=if b=true then h.IsValIter it d i n ep else h.IsKeyIter it d i n ep
theorem next_item(b:Bool){it d:Addr}{i ep:Nat}{es:Array DictEntry}{Q:Option Value->Shared->Prop}(hit:itIs b s.heap it d i es.size ep)(hm:DE s.heap d es ep)(hi:i<es.size)(hQ:∀h',itIs b h' it d (i+1) es.size ep->Heap.SameBut it s.heap h'->Q (some (if b=true then es[i].val else es[i].key)) {s with heap:=h'}):wpAny (model prog w) A (pyNext (.ref it)) Q E s:=by
 cases b;all_goals
  obtain⟨o,ho,hc,hd⟩:=id hit;obtain⟨od,hod,_,hdd⟩:=hm;have hT:s.TypeIs (.ref it) _:=⟨o,ho,hc⟩;have ow1:Builtin.Dict_items.ownsTuple "dict_keyiterator"=false:=by decide
  have ow2:Builtin.Dict_items.ownsTuple "dict_valueiterator"=false:=by decide
  have Zi:∃o',(s.heap.update it (Obj.mapFields (·.setIfInBounds 1 (rawInt ((i:Int)+1))))).get? it=some o'/\o'.cls=_/\o'.data=.fields #[.ref d,.int ((i+1:Nat):Int) 0,.int es.size 0,.int ep 0]:=⟨_,Tu _ ho (Rj (Th hd _)),(Wb ..).trans hc,by rw[Th hd];simp[rawInt]⟩
  have uT:({s with heap:=s.heap.update it (Obj.mapFields (·.setIfInBounds 1 (rawInt ((i:Int)+1))))}:Shared).TypeIs (.ref it) _:=let ⟨o',a,c,_⟩:=Zi;⟨o',a,c⟩;unfold pyNext;first
   |refine Ua (Tz (UG (name:=Str.ofString "__next__") hT Tw (UE Tw hT Ww ?_ (Wq _))))
   |refine Ua (Tz (UG (name:=Str.ofString "__next__") hT Tj (UE Tj hT Wg ?_ (RY _))))
  refine Ua (Ub (Ua (Ua ?_)));first|refine Ua (TV hT (Ub ?_))|refine Ua (TW hT (Ub ?_))
  refine Ua (wpAny_fieldsOf ho hd ?_);simp only[ow1,ow2,UD,Ti];show wpAny _ _ (if (Value.ref d==Value.none)=true then _ else _) _ _ s;rw[Uf (show ¬((Value.ref d==Value.none)=true) from Ue)];refine Ua (Ub (Ua (Rr hod hdd ?_)));rw[Uf (by simp)];refine Ua (Ub (Ua (WH hod hdd ?_)));rw[Uf (by simp)];refine Ub ?_;simp only[show ¬((i:Int)<0) from by omega,Ti,RE,W4 hi];refine Ua ?_;first|refine Ua (TV hT (Ub ?_))|refine Ua (TW hT (Ub ?_))
  first|refine Ua (wpAny_isOneOf_keyiter hT ?_)|refine Ua (Wn hT ?_)
  show wpAny _ _ (setField (.ref it) 1 (rawInt ((i:Int)+1)) >>= _) _ _ s;refine Ua (TH ho hd (by simp) (Ua (U5 ?_)));first
   | (refine Ua (Wn uT ?_);refine Ua (Wn uT ?_))
   |refine Ua (wpAny_isOneOf_keyiter uT ?_)
  first|show wpAny _ _ (pure es[i].key) _ _ _|show wpAny _ _ (pure es[i].val) _ _ _
  exact Ub (Ub ⟨_,rfl,Ub (hQ _ Zi (UV ..))⟩)
theorem next_end(b:Bool){it d:Addr}{i ep:Nat}{es:Array DictEntry}{Q:Option Value->Shared->Prop}(hh:A.handled=none)(hit:itIs b s.heap it d i es.size ep)(hm:DE s.heap d es ep)(hi:es.size<=i)(hQ:∀h',Heap.ExtBut it s.heap h'->Q none {s with heap:=h'}):wpAny (model prog w) A (pyNext (.ref it)) Q E s:=by
 cases b;all_goals
  obtain⟨o,ho,hc,hd⟩:=id hit;obtain⟨od,hod,_,hdd⟩:=hm;have hT:s.TypeIs (.ref it) _:=⟨o,ho,hc⟩;have ow1:Builtin.Dict_items.ownsTuple "dict_keyiterator"=false:=by decide
  have ow2:Builtin.Dict_items.ownsTuple "dict_valueiterator"=false:=by decide
  unfold pyNext;first
   |refine Ua (Tz (UG (name:=Str.ofString "__next__") hT Tw (UE Tw hT Ww ?_ (Wq _))))
   |refine Ua (Tz (UG (name:=Str.ofString "__next__") hT Tj (UE Tj hT Wg ?_ (RY _))))
  refine Ua (Ub (Ua (Ua ?_)));first|refine Ua (TV hT (Ub ?_))|refine Ua (TW hT (Ub ?_))
  refine Ua (wpAny_fieldsOf ho hd ?_);simp only[ow1,ow2,UD,Ti];show wpAny _ _ (if (Value.ref d==Value.none)=true then _ else _) _ _ s;rw[Uf (show ¬((Value.ref d==Value.none)=true) from Ue)];refine Ua (Ub (Ua (Rr hod hdd ?_)));rw[Uf (by simp)];refine Ua (Ub (Ua (WH hod hdd ?_)));rw[Uf (by simp)];refine Ub ?_;simp only[show ¬((i:Int)<0) from by omega,Ti,RE,R0 hi];refine Ua ?_;first|refine Ua (TV hT (Ub ?_))|refine Ua (TW hT (Ub ?_))
  show wpAny _ _ (setField (.ref it) 0 .none >>= _) _ _ s;refine Ua (TH ho hd (by simp) ?_);show wpAny _ _ (newExc (.type "StopIteration") [] >>= _) _ _ _;simp only[newExc,newTuple];refine Ua (Ua (UB (Ua (m:=firstArgMember _ _) (TD (a:=Value.none) (by first|rfl|(simp only[firstArgMember];rfl)) (UB ?_ (by size_fits)))) (by size_fits)));simp only[raiseNew];refine Ua (wpAny_handled ?_);rw[show A.in1.handled=none from hh];refine Ua (Ub (BS ?_));refine Ua (TQ (T:="StopIteration") (b:=true) ⟨_,Uk _ rfl,rfl⟩ BP ?_);exact Ub (hQ _ (((UV ..).extBut.push _).push _))
theorem pY{d:Addr}{es:Array DictEntry}{ep:Nat}{Q:VP}(hs:(d==sysModules)=false)(hm:DE s.heap d es ep)(hQ:Q (.ref s.heap.objs.size) {s with heap:=s.heap.push {cls:=.type "dict_keyiterator",data:=.fields #[.ref d,.int 0 0,.int es.size 0,.int ep 0]} }):wpAny (model prog w) A (pyIter (.ref d)) Q E s:=by have hT:=hm.typeIs;obtain⟨o,ho,_,hd⟩:=hm;refine W8 hT F.slot_dict_iter (UE F.slot_dict_iter hT F.entry_dict_iter ?_ (F.args_dict_iter_1 _));unfold Builtin.«dict.__iter__» Builtin.Dict.dictSlotNone;refine Ua (Ua (Wm hT ?_));show wpAny _ _ (pure (Value.ref d)) _ _ s;refine Ub ?_;show wpAny _ _ (Builtin.Dict.showsAll d >>= _) _ _ s;unfold Builtin.Dict.showsAll;rw[Uf (by rw[hs];exact Ue)];refine Ua (Ub (Ua (Rr ho hd (Ua (WH ho hd (Ua (UB (Ub ⟨_,rfl, "dict_keyiterator",_,⟨_,Uk _ rfl,rfl⟩,Tw.lookup,?_⟩))))))));simpa[rawInt]using hQ
theorem valuesK{d:Addr}(hs:(d==sysModules)=false):MeetsIn prog w (Builtin.«dict.values» ⟨[.ref d],[]⟩) (λ_ R s=>(∃es ep,DE s.heap d es ep)/\R (.ok (.ret (.ref s.heap.objs.size))) {s with heap:=s.heap.push {cls:=.type "dict_values",data:=.fields #[.ref d]} }):=
 .of_wp λA R s ⟨⟨es,ep,hm⟩,h⟩=>by refine Ua ?_;unfold Builtin.Dict.noArgs;refine Ua (Wm hm.typeIs ?_);show wpAny _ _ (pure d) _ _ s;refine Ub ?_;show wpAny _ _ (Builtin.Dict.showsAll d >>= _) _ _ s;unfold Builtin.Dict.showsAll;rw[Uf (by rw[hs];exact Ue)];exact Ua (Ub (Ua (UB (Ub ⟨_,rfl,h⟩))))
theorem iterV{v d:Addr}{es:Array DictEntry}{ep:Nat}{Q:VP}(hv:s.heap.IsValuesView v d)(hm:DE s.heap d es ep)(hQ:Q (.ref s.heap.objs.size) {s with heap:=s.heap.push {cls:=.type "dict_valueiterator",data:=.fields #[.ref d,.int 0 0,.int es.size 0,.int ep 0]} }):wpAny (model prog w) A (pyIter (.ref v)) Q E s:=by
 obtain⟨ov,hov,_,hdv⟩:=id hv;obtain⟨o,ho,_,hd⟩:=hm;have own:Builtin.Dict_items.ownsTuple "dict_valueiterator"=false:=by decide
 refine W8 hv.typeIs F.slot_dict_values_iter (UE F.slot_dict_values_iter hv.typeIs F.entry_dict_values_iter ?_ (F.args_dict_values_iter_1 _));unfold Builtin.«dict_values.__iter__» Builtin.Dict_items.dictOf Builtin.Dict_items.newIterator;refine Ua (Ub (Ua (Ua (UP hov hdv (x:=.ref d) rfl (Ub (Ua (Ua (Rr ho hd (Ua (WH ho hd ?_))))))))));simp only[own,UD,Ti];refine UB (Ub ⟨_,rfl, "dict_valueiterator",_,⟨_,Uk _ rfl,rfl⟩,Tj.lookup,?_⟩);simpa[rawInt]using hQ
end
section
variable{prog:Program}{w:World}{A:Around}{E:VP}{s:Shared}
def Iw(prog:Program)(w:World)(dep:Nat)(h:Heap)(o:Option Bool)(p:Value×Value):Prop:=∀{A:Around}{E:VP}{s:Shared},s.heap=h->A.units+dep<cLine->(∀{Q:Bool->Shared->Prop},Q o.isNone s->wpAny (model prog w) A (PySem.eqBool p.1 p.2) Q E s)/\∀r,o=some r->∀{Q:VP},Q (.bool r) s->wpAny (model prog w) A (PySem.richCompare .Lt p.1 p.2) Q E s
def Vo(z:Bool):List (Option Bool)->Bool
 |[]=>z|none::r=>Vo z r|some b::_=>b
theorem DH{dep:Nat}{a c:Addr}{us vs:List Value}{os:List (Option Bool)}{Q:VP}(hu:A.units+(dep+1)<cLine)(hx:Tp s.heap a us)(hy:Tp s.heap c vs)(hi:Al (Iw prog w dep s.heap) os (us.zip vs))(h:Q (.bool (Vo (decide (us.length<vs.length)) os)) s):wpAny (model prog w) A (PySem.richCompare .Lt (.ref a) (.ref c)) Q E s:=by
 have hTa:=hx.typeIs;have hTb:=hy.typeIs;obtain⟨oa,xs,na,hoa,_,hda,rfl⟩:=hx;obtain⟨ob,ys,nb,hob,_,hdb,rfl⟩:=hy;refine WQ (op:=.Lt) hTa hTb F.slot_tuple_lt (UE F.slot_tuple_lt hTa F.entry_tuple_lt ?_ (F.args_tuple_lt_2 _ _)) (by omega);show wpAny _ _ (isInstance (.ref c) (.type "tuple") >>= _) _ _ s;refine Ua (TQ hTb Wl ?_);simp only[TY,UD,Ti];refine Ua (Rg hoa hda ?_);refine Ua (Rg hob hdb ?_);refine Ua ?_;refine RL _
  (λrest q s'=>q.1=none/\s'=s/\∃os',Al (Iw prog w dep s.heap) os' rest/\Vo (decide (xs.toList.length<ys.toList.length)) os'=Vo (decide (xs.toList.length<ys.toList.length)) os)
  _ ?_ ?_ _ _ ⟨rfl,rfl,os,hi,rfl⟩
 ·rintro ⟨u,v⟩ rest q s' ⟨hq,rfl,os',hb,hdec⟩;cases hb with
  |@cons o1 _ os'' _ h1 hb'=>
   obtain⟨he,hl⟩:=h1 (A:=A.in1) (E:=E) (s:=s') rfl (by show A.units+1+dep<cLine;omega);refine Ua (he ?_);cases o1 with
   |none =>simp only[Option.isNone_none,TY,UD,Ti];exact Ub ⟨rfl,rfl,os'',hb',hdec⟩|some r =>simp only[Option.isNone_some,W0,RK];have hf:Vo (decide (xs.toList.length<ys.toList.length)) os=r:=hdec.symm;rw[hf]at h;refine Ua (TL ?_);refine Ua (hl r rfl ?_);exact Ua (Ub (Ub (Ub ⟨_,rfl,(λe=>nomatch e),h⟩)))
 ·rintro ⟨r1,r2⟩ s' ⟨hq,rfl,os',hb,hdec⟩;simp only at hq;subst hq;cases hb;refine Ub ⟨_,rfl,(λe=>nomatch e),?_⟩;have e:Vo (decide (xs.toList.length<ys.toList.length)) os=decide (xs.size<ys.size):=by rw[<-hdec];simp[Vo]
  rw[e]at h;exact h
end
abbrev tuples'(b:Bool):SortKind:=(sortPriv% PySem.Builtin.KeyKind.tuples) b
theorem HC(b:Bool)(x y:Value):keyLt' (tuples' b) x y=(do
  let xs <-Builtin.List.listItems x;let ys <-Builtin.List.listItems y
  for ((p,q),i) in (xs.toList.zip ys.toList).zipIdx do
   if !(<-eqBool p q) then return <-oneLt' (b&&i==0) p q
  return xs.size<ys.size):=rfl
section
variable{prog:Program}{w:World}{A:Around}{E:VP}{s:Shared}
theorem MB(hl:∀{Q:VP},Q (.bool r) s->wpAny (model prog w) A (PySem.richCompare .Lt u v) Q E s)(h:Q r s):wpAny (model prog w) A (oneLt' false u v) Q E s:=by rw[oneLt'_eq];simp only[UD,Ti];exact Ua (hl (Ta h))
theorem Ix{dep:Nat}{a c:Addr}{us vs:List Value}{os:List (Option Bool)}{b:Bool}{Q:Bool->Shared->Prop}(hu:A.units+dep<cLine)(hx:Tp s.heap a us)(hy:Tp s.heap c vs)(hi:Al (Iw prog w dep s.heap) os (us.zip vs))(hb:b=true->∀u v r,(us.zip vs).head?=some (u,v)->os.head?=some (some r)->∀{Q:Bool->Shared->Prop},Q r s->wpAny (model prog w) A (oneLt' true u v) Q E s)(h:Q (Vo (decide (us.length<vs.length)) os) s):wpAny (model prog w) A (keyLt' (tuples' b) (.ref a) (.ref c)) Q E s:=by
 obtain⟨oa,xs,na,hoa,_,hda,rfl⟩:=hx;obtain⟨ob,ys,nb,hob,_,hdb,rfl⟩:=hy;rw[HC];refine Ua (listItems_at hoa hda ?_);refine Ua (listItems_at hob hdb ?_);refine Ua ?_;refine RL _
  (λrest q s'=>q.1=none/\s'=s/\∃(j:Nat)(L:List (Value×Value))(os':List (Option Bool)),rest=L.zipIdx j/\Al (Iw prog w dep s.heap) os' L/\Vo (decide (xs.toList.length<ys.toList.length)) os'=Vo (decide (xs.toList.length<ys.toList.length)) os/\(j=0->L=xs.toList.zip ys.toList/\os'=os))
  _ ?_ ?_ _ _ ⟨rfl,rfl,0,_,os,rfl,hi,rfl,λ_=>⟨rfl,rfl⟩⟩
 ·rintro ⟨⟨u,v⟩,i⟩ rest q s' ⟨hq,rfl,j,L,os',hL,hal,hdec,hj⟩;cases hal with
  |nil=>cases hL|@cons o1 p os'' L' h1 hb'=>
   rw[Wu]at hL;injection hL with e1 e2;injection e1 with e3 e4;subst e3 e4 e2;obtain⟨he,hl⟩:=h1 (A:=A) (E:=E) (s:=s') rfl hu;refine Ua (he ?_);cases o1 with
   |none =>simp only[Option.isNone_none,TY,UD,Ti];exact Ub ⟨rfl,rfl,i+1,L',os'',rfl,hb',hdec,λz=>absurd z (Nat.succ_ne_zero _)⟩|some r=>
    simp only[Option.isNone_some,W0,RK];have hf:Vo (decide (xs.toList.length<ys.toList.length)) os=r:=hdec.symm;rw[hf]at h;have key:wpAny (model prog w) A (oneLt' (b&&i==0) u v) (λr' s2=>r'=r/\s2=s') E s':=by
     cases hbz:(b&&i==0) with
     |false=>exact MB (hl r rfl) ⟨rfl,rfl⟩|true =>rw[UK]at hbz;obtain⟨q1,q2⟩:=hj (by simpa using hbz.2);exact hb hbz.1 u v r (by rw[<-q1];rfl) (by rw[<-q2];rfl) ⟨rfl,rfl⟩
    refine Ua (TC key (λr' s2 z=>?_) λ_ _ e=>e);obtain⟨rfl,rfl⟩:=z;exact Ub (Ub h)
 ·rintro ⟨r1,r2⟩ s' ⟨hq,rfl,j,L,os',hL,hal,hdec,hj⟩;simp only at hq;subst hq;cases hal with
  |cons _ _=>rw[Wu]at hL;cases hL|nil=>
   have e:Vo (decide (xs.toList.length<ys.toList.length)) os=decide (xs.size<ys.size):=by rw[<-hdec];simp[Vo]
   rw[e]at h;exact Ub h
end
end NK
namespace NZ
open PySem PyProof.Rows
structure Base(kd:SortKind)(a₀:Array Keyed)(st:SortSt):Prop where
 perm:(arrOf st).Perm a₀
 kind:kindOf st=kd
 failed:failedOf st=none
 pend:pendingOf st = #[]
noncomputable def kr(rk:Value->Int)(xs:Array Keyed)(i:Nat):Int:=match xs[i]? with
 |some p=>rk p.1|none=>0
def Up(rk:Value->Int)(xs:Array Keyed)(k:Nat):Prop:=∀i j,i<=j->j<k->kr rk xs i<=kr rk xs j
def Dn(rk:Value->Int)(xs:Array Keyed)(k:Nat):Prop:=∀i j,i<=j->j<k->kr rk xs j<=kr rk xs i
theorem jA{rk:Value->Int}{xs ys:Array Keyed}{i j:Nat}(h:xs[i]?=ys[j]?):kr rk xs i=kr rk ys j:=by unfold kr;rw[h]
section
variable{prog:Program}{w:World}{A:Around}{E:VP}{s:Shared}{kd:SortKind}{a₀:Array Keyed}{rk:Value->Int}{st:SortSt}
theorem Base.size(h:Base kd a₀ st):(arrOf st).size=a₀.size:=h.perm.size_eq
theorem Base.set(h:Base kd a₀ st){xs:Array Keyed}(hp:xs.Perm (arrOf st)):Base kd a₀ (setArr st xs):=⟨hp.trans h.perm,h.kind,h.failed,h.pend⟩
structure Ord(prog:Program)(w:World)(A:Around)(s:Shared)(kd:SortKind)(rk:Value->Int)(a₀:Array Keyed):Prop where
 lt:∀p q,p∈a₀.toList->q∈a₀.toList->∀{E:VP}{Q:Bool->Shared->Prop},Q (decide (rk p.1<rk q.1)) s->wpAny (model prog w) A (keyLt' kd p.1 q.1) Q E s
 ne:(a₀.toList.map λp=>rk p.1).Nodup
theorem Base.at'(h:Base kd a₀ st){i:Nat}(hi:i<a₀.size):∃p,(arrOf st)[i]?=some p/\p∈a₀.toList/\kr rk (arrOf st) i=rk p.1:=by
 have hi':i<(arrOf st).size:=by rw[h.size];exact hi
 refine⟨(arrOf st)[i],WS _ i hi',(RG.mp h.perm).mem_iff.mp (by simp),?_⟩;unfold kr;rw[WS _ i hi']
theorem Base.differ(h:Base kd a₀ st)(O:Ord prog w A s kd rk a₀){i j:Nat}(hij:i<j)(hj:j<a₀.size):kr rk (arrOf st) i≠kr rk (arrOf st) j:=by
 have hn:((arrOf st).toList.map λp=>rk p.1).Nodup:=(((RG.mp h.perm).map _).nodup_iff).mpr O.ne;have hs:((arrOf st).toList.map λp=>rk p.1).length=a₀.size:=by rw[Uh,U7,h.size]
 have hi':i<(arrOf st).size:=by rw[h.size];omega
 have hj':j<(arrOf st).size:=by rw[h.size];exact hj
 have:=List.pairwise_iff_getElem.mp hn i j (by omega) (by omega) hij;unfold kr;rw[WS _ i hi',WS _ j hj'];simpa using this
theorem MC{i j:Nat}{Q:Option Bool->SortSt->Prop}(hB:Base kd a₀ st)(O:Ord prog w A s kd rk a₀)(hi:i<a₀.size)(hj:j<a₀.size)(h:Q (some (decide (kr rk (arrOf st) i<kr rk (arrOf st) j))) st):wpS (model prog w) A E s (ltAt' i j) Q st:=by obtain⟨p,e1,m1,k1⟩:=hB.at' (rk:=rk) hi;obtain⟨q,e2,m2,k2⟩:=hB.at' (rk:=rk) hj;rw[k1,k2]at h;rw[ltAt'_eq];refine U4 (wpS_get ?_);show wpS _ _ _ _ (do let x <-elem' (arrOf st) i;let y <-elem' (arrOf st) j;lt' x y) Q st;rw[elem'_eq,elem'_eq,e1,e2];refine U4 (TN (U4 (TN ?_)));rw[lt'_eq];refine U4 (wpS_get ?_);rw[hB.kind];exact U4 (wpS_lift (Tz (O.lt p q m1 m2 ⟨rfl,TN h⟩)))
theorem lJ(xs:Array Keyed):Up rk xs 1:=λi j h1 h2=>by
 have:i=j:=by omega
 subst this;exact RJ _
theorem vL{a nrem:Nat}{Q:AscSt->SortSt->Prop}(O:Ord prog w A s kd rk a₀)(hn:nrem<=a₀.size)(ha:1<=a)(han:a<=nrem)(hB:Base kd a₀ st)(hs:Up rk (arrOf st) a)(h:∀n,a<=n->n<=nrem->Up rk (arrOf st) n->(n=nrem\/kr rk (arrOf st) n<kr rk (arrOf st) (n-1))->Q (none,n) st):wpS (model prog w) A E s (ascLoop a nrem) Q st:=by
 unfold ascLoop;refine Wh (I:=λi c st'=>st'=st/\c=(none,i)/\Up rk (arrOf st) i) ?_ ?_ ⟨rfl,rfl,hs⟩
 ·rintro i c st' h1 h2 ⟨rfl,rfl,hu⟩;refine U4 (MC (rk:=rk) hB O (by omega) (by omega) ?_);dsimp only;by_cases z:kr rk (arrOf st') i<kr rk (arrOf st') (i-1)
  ·rw[Uv z];exact TN (h i h1 (by omega) hu (.inr z))
  ·rw[Ut z];refine TN ⟨rfl,rfl,λx y hxy hy=>?_⟩;by_cases e:y=i
   ·subst e;by_cases e2:x=y
    ·subst e2;exact RJ _
    ·have:=hu x (y-1) (by omega) (by omega);omega
   ·exact hu x y hxy (by omega)
 ·rintro c st' ⟨rfl,rfl,hu⟩;rw[Nat.max_eq_right han]at hu ⊢;exact h nrem han (Ug _) hu (.inl rfl)
theorem tY{nrem:Nat}{Q:DescSt->SortSt->Prop}(O:Ord prog w A s kd rk a₀)(hn:nrem<=a₀.size)(h2:2<=nrem)(hB:Base kd a₀ st)(hs:Dn rk (arrOf st) 2)(h:∀n,2<=n->n<=nrem->Dn rk (arrOf st) n->Q (none,n,0) st):wpS (model prog w) A E s (descLoop 2 nrem) Q st:=by
 unfold descLoop;refine Wh (I:=λi c st'=>st'=st/\c=(none,i,0)/\Dn rk (arrOf st) i) ?_ ?_ ⟨rfl,rfl,hs⟩
 ·rintro i c st' h1 h2 ⟨rfl,rfl,hu⟩;refine U4 (MC (rk:=rk) (i:=i) (j:=i-1) hB O (by omega) (by omega) ?_);dsimp only;by_cases z:kr rk (arrOf st') i<kr rk (arrOf st') (i-1)
  ·rw[Uv z,Ud rfl,Uf (by omega)];refine TN ⟨rfl,rfl,λx y hxy hy=>?_⟩;by_cases e:y=i
   ·subst e;by_cases e2:x=y
    ·subst e2;exact RJ _
    ·have:=hu x (y-1) (by omega) (by omega);omega
   ·exact hu x y hxy (by omega)
  ·rw[Ut z,Uf Ue];refine U4 (MC (rk:=rk) hB O (by omega) (by omega) ?_);have hd:=hB.differ O (show i-1<i by omega) (by omega);dsimp only;rw[Uv (show kr rk (arrOf st') (i-1)<kr rk (arrOf st') i by omega),Ud rfl];exact TN (h i h1 (by omega) hu)
 ·rintro c st' ⟨rfl,rfl,hu⟩;rw[Nat.max_eq_right h2]at hu ⊢;exact h nrem h2 (Ug _) hu
theorem Iy{xs:Array Keyed}{j:Nat}(hj:j<=xs.size)(k:Nat)(hk:k<j):kr rk (mirror xs 0 j ((j-0) / 2)) k=kr rk xs (j-1-k):=by have e:=getElem?_mirror_all (i:=0) hj k;rw[Ud ⟨T3 _,hk⟩]at e;rw[jA e];congr 1;omega
theorem count{nrem:Nat}{Q:Option Nat->SortSt->Prop}(O:Ord prog w A s kd rk a₀)(hn:nrem<=a₀.size)(h1:1<=nrem)(hB:Base kd a₀ st)(h:∀m st',Base kd a₀ st'->1<=m->m<=nrem->Up rk (arrOf st') m->Q (some m) st'):wpS (model prog w) A E s (countRun' 0 nrem) Q st:=by
 rw[countRun0_eq];refine U4 (vL O hn (Ug 1) h1 hB (lJ _) λn b1 b2 b3 b4=>?_);dsimp only;by_cases e:n=nrem
 ·rw[Ud (by simpa using e)];exact TN (h n st hB b1 b2 b3)
 ·rw[Uf (by simpa using e)];have hlt:=b4.resolve_left e;by_cases g:n>1
  ·rw[Ud g];refine U4 (MC (rk:=rk) hB O (by omega) (by omega) ?_);have hd:=hB.differ O (show 0<n-1 by omega) (by omega);have hle:=b3 0 (n-1) (by omega) (by omega);dsimp only;rw[Uv (show kr rk (arrOf st) 0<kr rk (arrOf st) (n-1) by omega),Ud rfl];exact TN (h n st hB b1 b2 b3)
  ·rw[Uf g];have e1:n=1:=by omega
   subst e1;unfold descPart;refine U4 (wpS_lift (TL ⟨rfl,?_⟩));refine U4 (tY O hn (by omega) hB (λi j hij hj=>?_) λn c1 c2 c3=>?_)
   ·by_cases z:i=j
    ·subst z;exact RJ _
    ·have a1:i=0:=by omega
     have a2:j=1:=by omega
     subst a1 a2;exact Int.le_of_lt hlt
   ·dsimp only;rw[Uf (by omega)];unfold tail3;have hsz:n<=(arrOf st).size:=by rw[hB.size];omega
    refine U4 (wpS_reverse ?_);refine U4 (vL O hn (by omega) c2 (hB.set (mirror_perm _ _ _ _)) (λi j hij hj=>?_) λm d1 d2 d3 _=>?_)
    ·show kr rk (mirror (arrOf st) 0 n ((n-0) / 2)) i<=kr rk (mirror (arrOf st) 0 n ((n-0) / 2)) j;rw[Iy hsz i (by omega),Iy hsz j (by omega)];exact c3 _ _ (by omega) (by omega)
    ·exact TN (h m _ (hB.set (mirror_perm _ _ _ _)) (by omega) d2 d3)
theorem Iz{xs:Array Keyed}{src d:Nat}(hs:src<xs.size)(hd:d<=src)(k:Nat):kr rk (bubble xs src d) k=if k=src-d then kr rk xs src else if src-d<k/\k<=src then kr rk xs (k-1) else kr rk xs k:=by
 have e:=getElem?_bubble hs d hd k
 repeat' split
 all_goals (first|rw[Ud (by assumption)]at e|(rw[Uf (by assumption)]at e;first|rw[Ud (by assumption)]at e|rw[Uf (by assumption)]at e))
 all_goals exact jA e
theorem lK{n ok:Nat}{Q:Bool->SortSt->Prop}(O:Ord prog w A s kd rk a₀)(hn:n<=a₀.size)(hok:ok<=n)(h1:1<=ok)(hB:Base kd a₀ st)(hs:Up rk (arrOf st) ok)(h:∀st',Base kd a₀ st'->Up rk (arrOf st') n->Q true st'):wpS (model prog w) A E s (binarySort' 0 n ok) Q st:=by
 rw[binarySort'_eq];simp only[Nat.zero_add];refine U4 (wpS_mono (Wh (I:=λk c st'=>c=(none,())/\Base kd a₀ st'/\Up rk (arrOf st') (min k n)) (Q:=λc st'=>c=(none,())/\Base kd a₀ st'/\Up rk (arrOf st') n) ?step ?fin ⟨rfl,hB,?init⟩) ?post);case post =>rintro c st' ⟨rfl,hB',hs'⟩;exact TN (h st' hB' hs')
 case init=>rw[Nat.max_eq_left h1,Nat.min_eq_left hok];exact hs
 case fin =>rintro c st' ⟨hc,hB',hs'⟩;refine⟨hc,hB',?_⟩;rwa[show min (max (max ok 1) n) n=n by omega]at hs'
 case step=>
  rintro k c st' hak hkn ⟨rfl,hB',hs'⟩;rw[show min k n=k by omega]at hs';refine U4 (wpS_mono (Wh (I:=λx c st2=>st2=st'/\∃l r,c=(none,l,r)/\l<=r/\r<=k/\r-l<=k-x/\(∀i,i<l->kr rk (arrOf st') i<=kr rk (arrOf st') k)/\∀i,r<=i->i<k->kr rk (arrOf st') k<kr rk (arrOf st') i)
   (Q:=λc st2=>st2=st'/\∃l r,c=(none,l,r)/\l<=k/\(∀i,i<l->kr rk (arrOf st') i<=kr rk (arrOf st') k)/\∀i,l<=i->i<k->kr rk (arrOf st') k<kr rk (arrOf st') i) ?istep ?ifin ⟨rfl,0,k,rfl,by omega,by omega,by omega,λi hi=>by omega,λi p1 p2=>by omega⟩) ?ipost)
  case ifin =>rintro c st2 ⟨rfl,l,r,rfl,q1,q2,q3,q4,q5⟩;exact⟨rfl,l,r,rfl,by omega,q4,λi p1 p2=>q5 i (by omega) p2⟩
  case istep=>
   rintro x c st2 _ hx ⟨rfl,l,r,rfl,q1,q2,q3,q4,q5⟩;dsimp only;by_cases hge:l>=r
   ·rw[Ud hge];exact TN ⟨rfl,l,r,rfl,by omega,q4,λi p1 p2=>q5 i (by omega) p2⟩
   ·rw[Uf hge];refine U4 (MC (rk:=rk) hB' O (by omega) (by omega) ?_);by_cases z:kr rk (arrOf st2) k<kr rk (arrOf st2) ((l+r) / 2)
    ·rw[Uv z];refine TN ⟨rfl,l,(l+r) / 2,rfl,by omega,by omega,by omega,q4,λi p1 p2=>?_⟩;have:=hs' _ _ p1 p2;omega
    ·rw[Ut z];refine TN ⟨rfl,(l+r) / 2+1,r,rfl,by omega,by omega,by omega,λi p1=>?_,q5⟩;have:=hs' i ((l+r) / 2) (by omega) (by omega);omega
  case ipost=>
   rintro c st2 ⟨rfl,l,r,rfl,q1,q4,q5⟩;show wpS _ _ _ _ (do moveDown' k l;pure (ForInStep.yield (none,()))) _ _;rw[moveDown'_eq];refine U4 (wpS_modify (TN ⟨rfl,hB'.set (bubble_perm _ _ _),?_⟩));rw[show min (k+1) n=k+1 by omega];have hks:k<(arrOf st2).size:=by rw[hB'.size];omega
   intro i j hij hj;show kr rk (bubble (arrOf st2) k (k-l)) i<=kr rk (bubble (arrOf st2) k (k-l)) j;rw[Iz hks (by omega),Iz hks (by omega),show k - (k-l)=l by omega];have a:=q4 i;have b:=q5 (j-1);have c:=hs' i j hij;have d:=hs' i (j-1);have e:=hs' (i-1) (j-1);have f:=q4 j;have g:=q5 (i-1)
   repeat' split
   all_goals omega
theorem tZ{Q:Unit->SortSt->Prop}(O:Ord prog w A s kd rk a₀)(hB:Base kd a₀ st)(h2:2<=a₀.size)(h64:a₀.size<64)(h:∀st',(arrOf st').Perm a₀->failedOf st'=none->Up rk (arrOf st') a₀.size->Q () st'):wpS (model prog w) A E s sortRuns' Q st:=by
 rw[sortRuns'_eq];refine U4 (wpS_get ?_);dsimp only;have hmr:minRun' a₀.size a₀.size 0=a₀.size:=by
  obtain⟨f,hf⟩:∃f,a₀.size=f+1:=⟨a₀.size-1,by omega⟩;have:minRun' (f+1) a₀.size 0=a₀.size:=by rw[minRun'_succ,Ud h64];rfl
  rwa[<-hf]at this
 simp only[hB.size,hmr];have push:∀{st':SortSt},Base kd a₀ st'->Up rk (arrOf st') a₀.size->(arrOf (setPending st' ((pendingOf st').push (0,a₀.size,0)))).Perm a₀/\failedOf (setPending st' ((pendingOf st').push (0,a₀.size,0)))=none/\(pendingOf (setPending st' ((pendingOf st').push (0,a₀.size,0)))).size<=1/\Up rk (arrOf (setPending st' ((pendingOf st').push (0,a₀.size,0)))) a₀.size:=λ{st'} b u=>⟨b.perm,b.failed,by show((pendingOf st').push _).size<=1;rw[b.pend];exact Ug 1,u⟩;refine U4 (wpS_mono (Wh
  (I:=λx c st'=>(x=0/\c=(none,0)/\Base kd a₀ st')\/(1<=x/\c=(none,a₀.size)/\(arrOf st').Perm a₀/\failedOf st'=none/\(pendingOf st').size<=1/\Up rk (arrOf st') a₀.size))
  (Q:=λc st'=>c=(none,a₀.size)/\(arrOf st').Perm a₀/\failedOf st'=none/\(pendingOf st').size<=1/\Up rk (arrOf st') a₀.size) ?step ?fin (.inl ⟨rfl,rfl,hB⟩)) ?post)
 case fin=>
  rintro c st' (⟨hx,_,_⟩|⟨_,hc,hD⟩)
  ·omega
  ·exact⟨hc,hD⟩
 case step=>
  rintro x c st' _ hx (⟨rfl,rfl,hB'⟩|⟨hx1,rfl,hD⟩)
  ·dsimp only;rw[Uf (by omega)];simp only[Nat.sub_zero,Nat.min_self,Nat.zero_add];refine U4 (count O (Ug _) (by omega) hB' λm st2 hB2 m1 m2 u2=>?_);dsimp only;by_cases hlt:m<a₀.size
   ·rw[Ud hlt];refine U4 (wpS_lift (TL ⟨rfl,?_⟩));refine U4 (lK O (Ug _) m2 m1 hB2 u2 λst3 hB3 u3=>?_);simp only[TY,UD,Ti];refine U4 (wpS_get ?_);rw[show(pendingOf st3).back?=none by rw[hB3.pend];rfl];exact U4 (wpS_modify (TN (.inr ⟨by omega,rfl,push hB3 u3⟩)))
   ·rw[Uf hlt];have hm:m=a₀.size:=by omega
    subst hm;refine U4 (wpS_get ?_);rw[show(pendingOf st2).back?=none by rw[hB2.pend];rfl];exact U4 (wpS_modify (TN (.inr ⟨by omega,rfl,push hB2 u2⟩)))
  ·dsimp only;rw[Ud (Ug _)];exact TN ⟨rfl,hD⟩
 case post=>
  rintro c st' ⟨rfl,hD⟩;dsimp only;refine U4 (wpS_mono (Wh (I:=λ_ c st2=>st2=st'/\c=(none,())) (Q:=λc st2=>st2=st'/\c=(none,())) ?_ (λ_ _ hh=>hh) ⟨rfl,rfl⟩) ?_)
  ·rintro x c st2 _ _ ⟨rfl,rfl⟩;refine U4 (wpS_get ?_);rw[Ud hD.2.2.1];exact TN ⟨rfl,rfl⟩
  ·rintro c st2 ⟨rfl,rfl⟩;exact TN (h _ hD.1 hD.2.1 hD.2.2.2)
end
section
variable{M:Model}{A:Around}{E:VP}{s:Shared}
theorem Li   : ∀(l:List α),(∀x∈l,∀{Q:β->Shared->Prop},Q (g x) s->wpAny M A (f x) Q E s)->∀{Q:List β->Shared->Prop},Q (l.map g) s->wpAny M A (l.mapM f) Q E s
 |[],_,Q,h=>by rw[List.mapM_nil];exact Ub h
 |x::l,hf,Q,h=>by rw[List.mapM_cons];exact Ua (hf x (Ux ..) (Ua (Li l (λy hy=>hf y (Uw _ hy)) (Ub h))))
end
section
variable{prog:Program}{w:World}{A:Around}{E:VP}{s:Shared}
theorem E4(v:Value):firstOfTuple' v=(do
  if (<-typeOf v) != .type "tuple" then return none
  return (<-Builtin.List.listItems v)[0]?):=rfl
theorem kind_tup{vs:List Value}{fst:Value->Value}{T:String}{Q:SortKind->Shared->Prop}(hv:vs≠[])(h1:∀v∈vs,∃a us,v=.ref a/\NK.Tp s.heap a us/\us.head?=some (fst v))(h2:∀v∈vs,s.TypeIs (fst v) T)(h:Q (tuples' (Value.type T != .type "tuple")) s):wpAny (model prog w) A (keyKind' vs.toArray) Q E s:=by
 rw[keyKind'_eq,List.mapM_toArray];refine Ua (wpAny_map (Li (g:=λv=>some (fst v)) vs (λv hv Q hQ=>?_) ?_))
 ·obtain⟨a,us,rfl,ht,hu⟩:=h1 v hv;rw[E4];refine Ua (RB ht.typeIs ?_);rw[Uf (by simp)];obtain⟨o,items,n,ho,_,hd,rfl⟩:=ht;refine Ua (listItems_at ho hd (Ub ?_));have:items[0]?=some (fst (.ref a)):=by rw[<-Wk,<-List.head?_eq_getElem?];exact hu
  rw[this];exact hQ
 ·rw[Ud (by simp)];refine Ua (TL ?_);have e:(vs.map λv=>some (fst v)).toArray.filterMap id=(vs.map fst).toArray:=by
   rw[List.filterMap_toArray];congr 1;induction vs with
   |nil=>rfl|cons v r ih=>simp
  rw[e,oneTypeOnly'_eq,List.mapM_toArray];refine Ua (Ua (wpAny_map (Li (g:=λ_=>Value.type T) _ (λu hu Q hQ=>?_) ?_)))
  ·obtain⟨v,hv,rfl⟩:=TK.mp hu;exact RB (h2 v hv) hQ
  ·have h0:(List.map (λ_=>Value.type T) (vs.map fst)).toArray[0]?=some (Value.type T):=by
    cases vs with
    |nil=>exact absurd rfl hv|cons v r=>simp
   rw[h0];dsimp only;rw[Ud (by simp)];exact Ub (Ub (by simpa using h))
theorem sort_tup{kd:SortKind}{rk:Value->Int}{a:Addr}{vs:List Value}{n:Nat}{P:Fin->Shared->Prop}(ho:s.heap.get? a=some (seqObj "list" vs.toArray n))(h64:vs.length<64)(hO:∀h',(∀b o,b≠a->s.heap.get? b=some o->h'.get? b=some o)->Ord prog w A {s with heap:=h'} kd rk (pairsOf vs))(hK:2<=vs.length->∀h',(∀b o,b≠a->s.heap.get? b=some o->h'.get? b=some o)->∀{Q:SortKind->Shared->Prop},Q kd {s with heap:=h'}->wpAny (model prog w) A (keyKind' vs.toArray) Q E {s with heap:=h'})(h:∀st':SortSt,(arrOf st').Perm (pairsOf vs)->Up rk (arrOf st') (pairsOf vs).size->P (.done (.ret .none)) {s with heap:=sortedHeap s.heap a vs ((arrOf st').map (·.2))}):
  wpAny (model prog w) A (Builtin.«list.sort» ⟨[.ref a],[]⟩) P E s:=by
 rw[list_sort_plain];have ha:a<s.heap.objs.size:=Ul ho;refine Ua (listItems_at ho rfl (Ua (listUpdate_at ho rfl ?_)));obtain⟨e1,ho1⟩:∃e1,(s.heap.update a (Obj.mapSeq λ_=>#[])).get? a=some (seqObj "list" #[] e1):=⟨_,get?_update_seq ho (λ_=>#[])⟩;refine Ua (seqEpoch_at ho1 rfl (Ua (wpAny_newTuple (Ua (wpAny_newList (U5 ?_))))));have keep:∀b o,b≠a->s.heap.get? b=some o->(((s.heap.update a (Obj.mapSeq λ_=>#[])).push (seqObj "tuple" vs.toArray 0)).push (seqObj "list" #[] 0)).get? b=some o:=λb o hb e=>
  Uc _ (Uc _ ((Heap.get?_update_ne _ _ _ _ hb).trans e))
 have ho6:(((s.heap.update a (Obj.mapSeq λ_=>#[])).push (seqObj "tuple" vs.toArray 0)).push (seqObj "list" #[] 0)).get? a=some (seqObj "list" #[] e1):=Uc _ (Uc _ ho1);show wpAny (model prog w) A _ P E {s with heap:=((s.heap.update a (Obj.mapSeq λ_=>#[])).push (seqObj "tuple" vs.toArray 0)).push (seqObj "list" #[] 0)};dsimp only;have hsz:vs.toArray.size=vs.length:=by simp
 by_cases h2:vs.toArray.size<2
 ·rw[Ud h2,Ud h2];refine Ua (Ub ?_);rw[StateT.run_pure];refine Ua (Ub ?_);dsimp only;refine Ua (seqEpoch_at ho6 rfl (Ua (listUpdate_at ho6 rfl ?_ (hsz2:=by rw[BQ];show(pairsOf vs).size<=_;rw[Wi,Td];omega))));simp only[bne_self_eq_false,UD,Ti];refine Ub (h (SortSt.mk' general' (vs.toArray.zip vs.toArray) #[] 7 none) (Array.Perm.refl _) λi j hij hj=>?_);have:i=j:=by rw[Wi]at hj;omega
  subst this;exact RJ _
 ·rw[Uf h2,Uf h2];refine Ua (hK (by omega) _ keep ?_);refine Ua (TC (tZ (kd:=kd) (rk:=rk) (a₀:=pairsOf vs) (st:=SortSt.mk' kd (vs.toArray.zip vs.toArray) #[] 7 none)
   (Q:=λ_ st'=>(arrOf st').Perm (pairsOf vs)/\failedOf st'=none/\Up rk (arrOf st') (pairsOf vs).size)
   (hO _ keep) ⟨Array.Perm.refl _,rfl,rfl,rfl⟩ (by rw[Wi];omega) (by rw[Wi];exact h64) λst' a1 a2 a3=>⟨a1,a2,a3⟩) ?_ λ_ _ e=>e)
  rintro ⟨⟨⟩,st'⟩ s' ⟨rfl,hp,hf,hs⟩;dsimp only;refine Ua (seqEpoch_at ho6 rfl (Ua (listUpdate_at ho6 rfl ?_ (hsz2:=by refine Uo (Nat.le_of_eq ((BQ ..).trans (hp.size_eq.trans (Wi _)))) ?_;rw[Td];omega))));rw[hf];simp only[bne_self_eq_false,UD,Ti];exact Ub (h st' hp hs)
end
end NZ
namespace NK
open PySem PySem.W PyProof.Rows
section
variable{prog:Program}{w:World}{A:Around}{E:VP}{s:Shared}
theorem DE.at'(x:DE h d es ep)(k:∀o,h.get? d=some o->h'.get? d=some o):DE h' d es ep:=let ⟨o,ho,r⟩:=x;⟨o,k o ho,r⟩
theorem DE.lt(x:DE h d es ep):d<h.objs.size:=let ⟨_,ho,_⟩:=x;Ul ho
theorem pZ(hh:A.handled=none)(I d:Addr)(hne:d≠I)(es:Array DictEntry)(ep:Nat):Walks prog w A I [I,d] [I] es.size (λi v=>∃h:i<es.size,v=es[i].key) (λi h=>h.IsKeyIter I d i es.size ep/\DE h d es ep) where
 sub:=λb hb=>by simp at hb;simp[hb]
 frame:=λ_ _ _ st hk=>⟨st.1.at λo e=>hk I (by simp) o e,st.2.at' λo e=>hk d (by simp) o e⟩
 item:=λi s Q E hi st hQ=>next_item false st.1 st.2 hi λh' it' hs'=>hQ _ h' s.toks ⟨hi,rfl⟩ ⟨it',st.2.at' λo e=>hs'.extBut d o hne e⟩ λb o hb e=>hs'.extBut b o (λh=>hb (by simp[h])) e
 done:=λs Q E st hQ=>next_end false hh st.1 st.2 (Ug _) λh' he'=>hQ h' s.toks λb o hb e=>he' b o (λh=>hb (by simp[h])) e
 self:=λ_ _ _ _ st hQ=>WB st.1 hQ
theorem srcK(lo:(d==sysModules)=false):KdlSrc prog w "dict" d d es.size (λi v=>∃h:i<es.size,v=es[i].key) (λh=>DE h d es ep) where
 type:=λ_ hm=>hm.typeIs
 there:=λ_ hm=>⟨hm.lt,hm.lt⟩
 keep:=λ_ _ hm hk=>hm.at' λo e=>hk d (.inl rfl) o e
 notList:=by decide
 notTuple:=by decide
 hint:=λ_ _ _ _ hm hq=>kdl_hint_dict hm.typeIs hq
 iter:=λ_ _ hh hm=>⟨_,_,(λ_ _ hq=>pY lo hm hq),pZ hh _ d (UH hm.lt) es ep,⟨_,Uk _ rfl,rfl,rfl⟩,hm.at' λ_ e=>Uc _ e⟩
theorem OH{kd:SortKind}{rk:Value->Int}{r:Value}{vs:List Value}{Q:VP}(h64:vs.length<64)(hc:∀{R:List Value->Shared->Prop},(∀h' tk,(∀b o,s.heap.get? b=some o->h'.get? b=some o)->R vs {s with heap:=h',toks:=tk})->wpAny (model prog w) A.in1 (collect r) R E s)(hO:∀h' tk,(∀b o,s.heap.get? b=some o->h'.get? b=some o)->NZ.Ord prog w A.in1.in1 {s with heap:=h',toks:=tk} kd rk (pairsOf vs))(hK:2<=vs.length->∀h' tk,(∀b o,s.heap.get? b=some o->h'.get? b=some o)->∀{Q:SortKind->Shared->Prop},Q kd {s with heap:=h',toks:=tk}->wpAny (model prog w) A.in1.in1 (keyKind' vs.toArray) Q E {s with heap:=h',toks:=tk})(h:∀(h1 h':Heap) (tk:Nat) (out:Array Keyed) (e:Nat),(∀b o,s.heap.get? b=some o->h1.get? b=some o)->(∀b o,h1.get? b=some o->h'.get? b=some o)->h'.get? h1.objs.size=some (seqObj "list" (out.map (·.2)) e)->out.Perm (pairsOf vs)->NZ.Up rk out (pairsOf vs).size->Q (.ref h1.objs.size) {s with heap:=h',toks:=tk}):
  wpAny (model prog w) A (call (.builtin "sorted") [r]) Q E s:=by
 refine Calls.call_function_entry kind_sorted plain_sorted entry_sorted (args_sorted1 _) ?_;unfold Builtin.«sorted»;refine Ua (m:=checkCount "sorted" 1 1 _) (Ub ?_);refine Ua (hc λh1 tk k1=>?_);refine Ua (wpAny_newList ?_);have hoL:(h1.push (seqObj "list" vs.toArray 0)).get? h1.objs.size=some (seqObj "list" vs.toArray 0):=Uk _ rfl;have k2:∀b o,s.heap.get? b=some o->(h1.push (seqObj "list" vs.toArray 0)).get? b=some o:=λb o e=>Uc _ (k1 b o e);have hne:∀b o,s.heap.get? b=some o->b≠h1.objs.size:=λb o e z=>absurd (Ul (k1 b o e)) (by rw[z];exact Tx _);refine Ua (U5 (UE slot_list_sort ⟨_,hoL,rfl⟩ entry_list_sort (NZ.sort_tup (kd:=kd) (rk:=rk) hoL h64 (λh' kk=>hO h' tk λb o e=>kk b o (hne b o e) (k2 b o e)) (λh2 h' kk Q hq=>hK h2 h' tk (λb o e=>kk b o (hne b o e) (k2 b o e)) hq) λst' a1 a2=>⟨_,rfl,?_⟩) (args_list_sort _)));obtain⟨e,he⟩:=sortedHeap_at (out:=(arrOf st').map (·.2)) hoL;refine Ub ⟨_,rfl,h h1 _ tk (arrOf st') e k1 (λb o eb=>?_) he a1 a2⟩;have hb:=Ul eb;have hb2:b<(h1.push (seqObj "list" vs.toArray 0)).objs.size:=by rw[size_push'];exact W9 hb
 rw[sortedHeap_old (UH hb) hb2];exact Uc _ eb
end
end NK
namespace NK
open PySem PyProof.Rows
section
variable{prog:Program}{w:World}{A:Around}{E:VP}{s:Shared}{K K2 K3 K4:Type}[DecidableEq K][DecidableEq K2][DecidableEq K3][DecidableEq K4]
structure OV(v:VK prog w K) where
 lt:K->K->Bool
 rich:∀{A:Around}{E:VP}{s:Shared}{x y:K}{u u':Value}{Q:VP},A.units+v.dep<cLine->v.is s.heap x u->v.is s.heap y u'->x≠y->Q (.bool (lt x y)) s->wpAny (model prog w) A (PySem.richCompare .Lt u u') Q E s
 irr:∀x,lt x x=false
 tr:∀x y z,lt x y=true->lt y z=true->lt x z=true
 tot:∀x y,x≠y->lt x y=true\/lt y x=true
def OV.cmp{v:VK prog w K}(o:OV v)(x y:K):Option Bool:=if x=y then none else some (o.lt x y)
theorem OV.at'{v:VK prog w K}(o:OV v){dep:Nat}{h:Heap}{x y:K}{u u':Value}(hd:v.dep<=dep)(hx:v.is h x u)(hy:v.is h y u'):Iw prog w dep h (o.cmp x y) (u,u'):=λ{A E s} e hu=>by
 subst e;unfold OV.cmp;by_cases z:x=y
 ·rw[Ud z];refine⟨λ{Q} hq=>v.eqBool (up hd hu) hx hy ?_,λr hr=>by cases hr⟩;rw[Uv z];exact hq
 ·rw[Uf z];refine⟨λ{Q} hq=>v.eqBool (up hd hu) hx hy ?_,λr hr {Q} hq=>?_⟩
  ·rw[Ut z];exact hq
  ·cases hr;exact o.rich (up hd hu) hx hy z hq
def intO:OV (intV prog w) where
 lt:=λx y=>decide (x<y)
 rich:=λ{A E s x y u u' Q} _ hx hy _ h=>by obtain⟨t,rfl⟩:=Rq hx;obtain⟨t',rfl⟩:=Rq hy;exact wpAny_lt_int h
 irr:=λx=>Ut (Int.lt_irrefl x)
 tr:=λx y z h1 h2=>Uv (Int.lt_trans (UC h1) (UC h2))
 tot:=λx y h=>by
  rcases Int.lt_or_gt_of_ne h with z|z
  ·exact .inl (Uv z)
  ·exact .inr (Uv z)
def Co(lt:K->K->Bool):List K->List K->Bool
 |[],[]=>false|[],_::_=>true|_::_,[]=>false|a::x,b::y=>if a=b then Co lt x y else lt a b
theorem OI{v:VK prog w K}(o:OV v):∀x y:List K,Vo (decide (x.length<y.length)) (List.zipWith o.cmp x y)=Co o.lt x y
 |[],[]=>rfl|[],_::_=>by simp[Vo,Co]
 |_::_,[]=>by simp[Vo,Co]
 |a::x,b::y=>by
  rw[Bs];unfold Co OV.cmp;by_cases h:a=b
  ·rw[Ud h,Ud h,<-OI o x y];simp[Vo];rfl
  ·rw[Uf h,Uf h];rfl
theorem MD:∀x:List K,Co lt x x=false
 |[]=>rfl|a::x=>by unfold Co;rw[Ud rfl];exact MD x
theorem MJ(ht:∀x y,x≠y->lt x y=true\/lt y x=true):∀x y:List K,x≠y->Co lt x y=true\/Co lt y x=true
 |[],[],h=>absurd rfl h|[],_::_,_=>.inl rfl|_::_,[],_=>.inr rfl|a::x,b::y,h=>by
  unfold Co;by_cases e:a=b
  ·subst e;rw[Ud rfl,Ud rfl];exact MJ ht x y λz=>h (by rw[z])
  ·rw[Uf e,Uf (Ne.symm e)];exact ht a b e
theorem PZ(hi:∀x,lt x x=false)(ht:∀x y z,lt x y=true->lt y z=true->lt x z=true):∀x y z:List K,Co lt x y=true->Co lt y z=true->Co lt x z=true
 |[],_,[],h1,h2=>by
  rename_i y;cases y with
  |nil=>cases h1|cons _ _=>cases h2
 |[],_,_::_,_,_=>rfl|_::_,[],_,h1,_=>by cases h1
 |_::_,_::_,[],_,h2=>by cases h2
 |a::x,b::y,c::z,h1,h2=>by
  unfold Co at h1 h2 ⊢;by_cases e1:a=b
  ·subst e1;rw[Ud rfl]at h1;by_cases e2:a=c
   ·subst e2;rw[Ud rfl]at h2 ⊢;exact PZ hi ht x y z h1 h2
   ·rw[Uf e2]at h2 ⊢;exact h2
  ·rw[Uf e1]at h1;by_cases e2:b=c
   ·subst e2;rw[Uf e1];exact h1
   ·rw[Uf e2]at h2;have h3:=ht a b c h1 h2;by_cases e3:a=c
    ·subst e3;rw[hi]at h3;cases h3
    ·rw[Uf e3];exact h3
theorem DI{v:VK prog w K}(o:OV v){h:Heap}:∀{x y:List K}{us vs:List Value},Al (v.is h) x us->Al (v.is h) y vs->Al (Iw prog w v.dep h) (List.zipWith o.cmp x y) (us.zip vs):=by
 intro x y us vs a;induction a generalizing y vs with
 |nil=>intro b;simpa using Al.nil
 |cons a1 a2 ih=>
  intro b;cases b with
  |nil=>simpa using Al.nil
  |cons b1 b2=>exact .cons (o.at' (Ug _) a1 b1) (ih b2)
def qA{v:VK prog w K}(o:OV v):OV (lstV v) where
 lt:=Co o.lt
 rich:=λ{A E s x y u u' Q} hu hx hy _ h=>by obtain⟨a,us,rfl,t1,i1⟩:=hx;obtain⟨b,vs,rfl,t2,i2⟩:=hy;refine DH hu t1 t2 (DI o i1 i2) ?_;rw[<-i1.len,<-i2.len,OI];exact h
 irr:=MD
 tr:=PZ o.irr o.tr
 tot:=MJ o.tot
end
section
variable{prog:Program}{w:World}{K K2 K3 K4:Type}[DecidableEq K][DecidableEq K2][DecidableEq K3][DecidableEq K4]
def jB(a:VK prog w K)(b:VK prog w K2)(c:VK prog w K3)(d:VK prog w K4):VK prog w (K×K2×K3×K4) where
 is:=λh k u=>∃r x y z t,u=.ref r/\Tp h r [x,y,z,t]/\a.is h k.1 x/\b.is h k.2.1 y/\c.is h k.2.2.1 z/\d.is h k.2.2.2 t
 hash:=λk=>reduceHash (Builtin.Tuple.tupleHashOf [a.hash k.1,b.hash k.2.1,c.hash k.2.2.1,d.hash k.2.2.2])
 draws:=λk=>a.draws k.1+(b.draws k.2.1+(c.draws k.2.2.1+d.draws k.2.2.2))+1
 dep:=max a.dep (max b.dep (max c.dep d.dep))+1
 inj:=λ{h u x y} hx hy=>by obtain⟨r,x1,x2,x3,x4,rfl,t1,i1,i2,i3,i4⟩:=hx;obtain⟨r',y1,y2,y3,y4,e,t2,j1,j2,j3,j4⟩:=hy;injection e with e;subst e;have:=t1.inj t2;injection this with e1 this;injection this with e2 this;injection this with e3 this;injection this with e4 this;subst e1 e2 e3 e4;obtain⟨k1,k2,k3,k4⟩:=x;obtain⟨l1,l2,l3,l4⟩:=y;rw[show k1=l1 from a.inj i1 j1,show k2=l2 from b.inj i2 j2,show k3=l3 from c.inj i3 j3,show k4=l4 from d.inj i4 j4]
 keeps:=λ{h h' k u} hx kp=>by obtain⟨r,x1,x2,x3,x4,rfl,t1,i1,i2,i3,i4⟩:=hx;exact⟨r,x1,x2,x3,x4,rfl,t1.keeps kp,a.keeps i1 kp,b.keeps i2 kp,c.keeps i3 kp,d.keeps i4 kp⟩
 pyHash:=λ{A E s k u Q} hu hx h=>by obtain⟨r,x1,x2,x3,x4,rfl,t1,i1,i2,i3,i4⟩:=hx;refine Gy (ps:=[(a.hash k.1,a.draws k.1),(b.hash k.2.1,b.draws k.2.1),(c.hash k.2.2.1,c.draws k.2.2.1),(d.hash k.2.2.2,d.draws k.2.2.2)]) hu t1 (.cons (λ{A E s Q} e hu h=>a.pyHash (up (by omega) hu) (by rw[e];exact i1) h) (.cons (λ{A E s Q} e hu h=>b.pyHash (up (by omega) hu) (by rw[e];exact i2) h) (.cons (λ{A E s Q} e hu h=>c.pyHash (up (by omega) hu) (by rw[e];exact i3) h) (.cons (λ{A E s Q} e hu h=>d.pyHash (up (by omega) hu) (by rw[e];exact i4) h) .nil)))) ?_;simpa[OF]using h
 eqBool:=λ{A E s x y u z Q} hu hx hy h=>by
  obtain⟨r,x1,x2,x3,x4,rfl,t1,i1,i2,i3,i4⟩:=hx;obtain⟨r',y1,y2,y3,y4,rfl,t2,j1,j2,j3,j4⟩:=hy;obtain⟨k1,k2,k3,k4⟩:=x;obtain⟨l1,l2,l3,l4⟩:=y;refine OG (bs:=[decide (k1=l1),decide (k2=l2),decide (k3=l3),decide (k4=l4)]) hu t1 t2 (.cons (λ{A E s Q} e hu h=>a.eqBool (up (by omega) hu) (by rw[e];exact i1) (by rw[e];exact j1) h) (.cons (λ{A E s Q} e hu h=>b.eqBool (up (by omega) hu) (by rw[e];exact i2) (by rw[e];exact j2) h) (.cons (λ{A E s Q} e hu h=>c.eqBool (up (by omega) hu) (by rw[e];exact i3) (by rw[e];exact j3) h) (.cons (λ{A E s Q} e hu h=>d.eqBool (up (by omega) hu) (by rw[e];exact i4) (by rw[e];exact j4) h) .nil)))) ?_ (λe=>?_) h
  ·simp only[Prod.mk.injEq,BB,Rs,List.all_nil,Bool.and_true,id,UA,Wt]
  ·subst e;have:=t1.inj t2;injection this with e1 this;injection this with e2 this;injection this with e3 this;injection this with e4 this;subst e1 e2 e3 e4;have q1:k1=l1:=a.inj i1 j1;have q2:k2=l2:=b.inj i2 j2;have q3:k3=l3:=c.inj i3 j3;have q4:k4=l4:=d.inj i4 j4;simp[q1,q2,q3,q4]
 quiet:=λ{A E s k u Q} n hn hx h=>by
  obtain⟨r,x1,x2,x3,x4,rfl,t1,i1,i2,i3,i4⟩:=hx;obtain⟨n,rfl⟩:∃j,n=j+1:=⟨n-1,by omega⟩;refine E3 n t1 (λv' hv' {A E Q} q=>?_) h;rcases Uz.mp hv' with rfl|hv'
  ·exact a.quiet n (by omega) i1 q
  rcases Uz.mp hv' with rfl|hv'
  ·exact b.quiet n (by omega) i2 q
  rcases Uz.mp hv' with rfl|hv'
  ·exact c.quiet n (by omega) i3 q
  rw[Ur.mp hv'];exact d.quiet n (by omega) i4 q
def IA{va:VK prog w K}{vb:VK prog w K2}{vc:VK prog w K3}{vd:VK prog w K4}(a:OV va)(b:OV vb)(c:OV vc)(d:OV vd)(x y:K×K2×K3×K4):List (Option Bool):=[a.cmp x.1 y.1,b.cmp x.2.1 y.2.1,c.cmp x.2.2.1 y.2.2.1,d.cmp x.2.2.2 y.2.2.2]
theorem Gz{v:VK prog w K}(o:OV v){z:Bool}{x y:K}{r:List (Option Bool)}:Vo z (o.cmp x y::r)=if x=y then Vo z r else o.lt x y:=by
 unfold OV.cmp;by_cases h:x=y
 ·rw[Ud h,Ud h];rfl
 ·rw[Uf h,Uf h];rfl
theorem Gf{v:VK prog w K}(o:OV v){x y z:K}{p q r:Bool}(h:p=true->q=true->r=true)(h1:(if x=y then p else o.lt x y)=true)(h2:(if y=z then q else o.lt y z)=true):(if x=z then r else o.lt x z)=true:=by
 by_cases e1:x=y
 ·subst e1;rw[Ud rfl]at h1;by_cases e2:x=z
  ·subst e2;rw[Ud rfl]at h2 ⊢;exact h h1 h2
  ·rw[Uf e2]at h2 ⊢;exact h2
 ·rw[Uf e1]at h1;by_cases e2:y=z
  ·subst e2;rw[Uf e1];exact h1
  ·rw[Uf e2]at h2;have h3:=o.tr x y z h1 h2;by_cases e3:x=z
   ·subst e3;rw[o.irr]at h3;cases h3
   ·rw[Uf e3];exact h3
theorem C5{v:VK prog w K}(o:OV v){x y:K}{p q:Bool}(h:x=y->p=true\/q=true):(if x=y then p else o.lt x y)=true\/(if y=x then q else o.lt y x)=true:=by
 by_cases e:x=y
 ·rw[Ud e,Ud e.symm];exact h e
 ·rw[Uf e,Uf (Ne.symm e)];exact o.tot x y e
def qB{va:VK prog w K}{vb:VK prog w K2}{vc:VK prog w K3}{vd:VK prog w K4}(a:OV va)(b:OV vb)(c:OV vc)(d:OV vd):OV (jB va vb vc vd) where
 lt:=λx y=>Vo false (IA a b c d x y)
 rich:=λ{A E s x y u u' Q} hu hx hy _ h=>by obtain⟨r,x1,x2,x3,x4,rfl,t1,i1,i2,i3,i4⟩:=hx;obtain⟨r',y1,y2,y3,y4,rfl,t2,j1,j2,j3,j4⟩:=hy;exact DH (os:=IA a b c d x y) hu t1 t2 (.cons (a.at' (by omega) i1 j1) (.cons (b.at' (by omega) i2 j2) (.cons (c.at' (by omega) i3 j3) (.cons (d.at' (by omega) i4 j4) .nil)))) h
 irr:=λx=>by unfold IA;simp only[Gz,RK];rfl
 tr:=λx y z h1 h2=>by unfold IA at h1 h2 ⊢;simp only[Gz]at h1 h2 ⊢;exact Gf a (λp q=>Gf b (λp q=>Gf c (λp q=>Gf d (λp _=>p) p q) p q) p q) h1 h2
 tot:=λx y h=>by unfold IA;simp only[Gz];exact C5 a λe1=>C5 b λe2=>C5 c λe3=>C5 d λe4=>absurd (Prod.ext e1 (Prod.ext e2 (Prod.ext e3 e4))) h
end
theorem P0{α:Type}{p q:α->Bool}(h:∀x,p x=true->q x=true):∀l:List α,(l.filter p).length<=(l.filter q).length
 |[]=>Ug _|x::l=>by
  have ih:=P0 h l;rw[Wv,Wv];by_cases hp:p x=true
  ·rw[Ud hp,Ud (h x hp)];simpa using ih
  ·rw[Uf hp];split
   ·simp;omega
   ·exact ih
theorem P1{α:Type}{p q:α->Bool}(h:∀x,p x=true->q x=true):∀{l:List α}{a:α},a∈l->p a=false->q a=true->(l.filter p).length<(l.filter q).length
 |x::l,a,hm,h1,h2=>by
  rw[Wv,Wv];rcases Uz.mp hm with rfl|hm
  ·rw[Uf (by rw[h1];exact Ue),Ud h2];have:=P0 h l;simp;omega
  ·have ih:=P1 h hm h1 h2;by_cases hp:p x=true
   ·rw[Ud hp,Ud (h x hp)];simpa using ih
   ·rw[Uf hp];split
    ·simp;omega
    ·exact ih
section
variable{prog:Program}{w:World}{K:Type}[DecidableEq K]{v:VK prog w K}
def OV.rank(o:OV v)(ks:List K)(x:K):Nat:=(ks.filter λy=>o.lt y x).length
theorem OV.rank_lt(o:OV v){ks:List K}{x y:K}(hx:x∈ks):o.lt x y=true->o.rank ks x<o.rank ks y:=λh=>
 P1 (λz hz=>o.tr z x y hz h) hx (o.irr x) h
theorem OV.rank_iff(o:OV v)(hx:x∈ks)(hy:y∈ks):o.rank ks x<o.rank ks y↔o.lt x y=true:=by
 refine⟨λh=>?_,o.rank_lt hx⟩;by_cases e:x=y
 ·subst e;exact absurd h (Tx _)
 ·rcases o.tot x y e with z|z
  ·exact z
  ·have:=o.rank_lt hy z;omega
theorem OV.rank_inj(o:OV v)(hx:x∈ks)(hy:y∈ks)(h:o.rank ks x=o.rank ks y):x=y:=by
 by_cases e:x=y
 ·exact e
 ·rcases o.tot x y e with z|z
  ·have:=o.rank_lt hx z;omega
  ·have:=o.rank_lt hy z;omega
open Classical in
def OV.rk(o:OV v)(h:Heap)(ks:List K)(u:Value):Int:=if e:∃x,v.is h x u then (o.rank ks e.choose:Nat) else 0
theorem OV.rk_eq(o:OV v)(hx:v.is h x u):o.rk h ks u=(o.rank ks x:Nat):=by have e:∃x,v.is h x u:=⟨x,hx⟩;unfold OV.rk;rw[dif_pos e,v.inj e.choose_spec hx]
theorem Al.has(h:Al R as bs):∀b∈bs,∃a∈as,R a b:=by
 induction h with
 |nil=>intro b hb;cases hb|cons r _ ih=>
  intro b hb;rcases Uz.mp hb with rfl|hb
  ·exact⟨_,Ux ..,r⟩
  ·obtain⟨a,h1,h2⟩:=ih b hb;exact⟨a,Uw _ h1,h2⟩
theorem DJ(o:OV v)  : ∀{ks:List K}{vs:List Value},Al (v.is h) ks vs->(vs.map λu=>o.rk h ls u)=ks.map λx=>((o.rank ls x:Nat):Int)
 |_,_,.nil=>rfl|_,_,.cons a b=>by rw[UL,UL,o.rk_eq a,DJ o b]
theorem lL(o:OV v){A:Around}{s:Shared}{h:Heap}{kd:SortKind}{ks:List K}{vs:List Value}(al:Al (v.is h) ks vs)(hn:ks.Nodup)(hl:∀x y u u',x∈ks->y∈ks->v.is h x u->v.is h y u'->∀{E:VP} {Q:Bool->Shared->Prop},Q (o.lt x y) s->wpAny (model prog w) A (keyLt' kd u u') Q E s):NZ.Ord prog w A s kd (o.rk h ks) (pairsOf vs) where
 lt:=λp q hp hq {E Q} hQ=>by
  rw[pairsOf_toList]at hp hq;obtain⟨_,m1⟩:=mem_zip_self hp;obtain⟨_,m2⟩:=mem_zip_self hq;obtain⟨x,x1,x2⟩:=al.has _ m1;obtain⟨y,y1,y2⟩:=al.has _ m2;rw[o.rk_eq x2,o.rk_eq y2]at hQ;refine hl x y _ _ x1 y1 x2 y2 ?_;have e:decide (((o.rank ks x:Nat):Int)<((o.rank ks y:Nat):Int))=o.lt x y:=by rw[Rn,TF,<-o.rank_iff x1 y1];omega
  rw[e]at hQ;exact hQ
 ne:=by rw[pairsOf_toList,show(λp:Keyed=>o.rk h ks p.1)=(λu=>o.rk h ks u)∘Prod.fst from rfl,<-Wj,List.map_fst_zip (Ug _),DJ o al];refine List.pairwise_map.mpr (hn.imp_of_mem λ{a b} ha hb hab z=>hab ?_);exact o.rank_inj ha hb (by exact_mod_cast z)
theorem lt_grams(hu:A.units+4<cLine)(hx:(lstV (intV prog w)).is s.heap x u)(hy:(lstV (intV prog w)).is s.heap y u')(h:Q ((qA (intO (prog:=prog) (w:=w))).lt x y) s):
  wpAny (model prog w) A (keyLt' (PyProof.Rows.tuples' true) u u') Q E s:=by
 obtain⟨a,us,rfl,t1,i1⟩:=hx;obtain⟨b,vs,rfl,t2,i2⟩:=hy;refine Ix (dep:=0) (os:=List.zipWith (intO (prog:=prog) (w:=w)).cmp x y) (by omega) t1 t2 (DI intO i1 i2) (λ_ p q r e1 e2 {Q} hq=>?_) ?_
 ·cases i1 with
  |nil=>simp at e1|cons a1 _=>cases i2 with
   |nil=>simp at e1|cons b1 _=>
    rw[List.zip_cons_cons,List.head?_cons]at e1;rw[Bs,List.head?_cons]at e2;injection e1 with e1;injection e1 with p1 p2;subst p1 p2;obtain⟨t,rfl⟩:=Rq a1;obtain⟨t',rfl⟩:=Rq b1;refine oneLt_int ?_;injection e2 with e2;unfold OV.cmp at e2;split at e2
    ·cases e2
    ·injection e2 with e2;have e2:decide (_<_)=r:=e2;rw[e2];exact hq
 ·rw[<-i1.len,<-i2.len,OI];exact h
end
abbrev SK:=L3.SKd
section
variable(prog:Program)(w:World)
abbrev grV:VK prog w (List Int):=lstV (intV prog w)
abbrev ctV:VK prog w (List Int×Int×Int×List Int):=jB (grV prog w) (intV prog w) (intV prog w) (grV prog w)
abbrev jC:VK prog w (Int×Int×List (List Int)):=tX (intV prog w) (intV prog w) (lstV (grV prog w))
def tagV(t:Nat):VK prog w SK where
 is:=λh k u=>match k with
  |.inl g=>t=0/\(grV prog w).is h g u|.inr c=>t=1/\(ctV prog w).is h c u|.sh c=>t=2/\(jC prog w).is h c u
 hash:=λk=>match k with
  |.inl g=>(grV prog w).hash g|.inr c=>(ctV prog w).hash c|.sh c=>(jC prog w).hash c
 draws:=λk=>match k with
  |.inl g=>(grV prog w).draws g|.inr c=>(ctV prog w).draws c|.sh c=>(jC prog w).draws c
 dep:=3
 inj:=λ{h v x y} hx hy=>by cases x<;>cases y<;>first|exact absurd (hx.1.symm.trans hy.1) (by decide)|rw[(grV prog w).inj hx.2 hy.2]|rw[(ctV prog w).inj hx.2 hy.2]|rw[(jC prog w).inj hx.2 hy.2]
 keeps:=λ{h h' k v} hx kp=>by cases k<;>first|exact⟨hx.1,(grV prog w).keeps hx.2 kp⟩|exact⟨hx.1,(ctV prog w).keeps hx.2 kp⟩|exact⟨hx.1,(jC prog w).keeps hx.2 kp⟩
 pyHash:=λ{A E s k v Q} hu hx h=>by cases k<;>first|exact(grV prog w).pyHash (show A.units+1<cLine by omega) hx.2 h|exact(ctV prog w).pyHash (show A.units+2<cLine by omega) hx.2 h|exact(jC prog w).pyHash hu hx.2 h
 eqBool:=λ{A E s x y u v Q} hu hx hy h=>by cases x<;>cases y<;>first|exact absurd (hx.1.symm.trans hy.1) (by decide)|exact(grV prog w).eqBool (show A.units+1<cLine by omega) hx.2 hy.2 (by simpa using h)|exact(ctV prog w).eqBool (show A.units+2<cLine by omega) hx.2 hy.2 (by simpa using h)|exact(jC prog w).eqBool hu hx.2 hy.2 (by simpa using h)
 quiet:=λ{A E s k v Q} n hn hx h=>by cases k<;>first|exact(grV prog w).quiet n (show 1<=n by omega) hx.2 h|exact(ctV prog w).quiet n (show 2<=n by omega) hx.2 h|exact(jC prog w).quiet n hn hx.2 h
def tagK(t:Nat):HeapKind prog w SK:=hk (tagV prog w t) (show 3<=8 by decide)
end
def P2(g:List Int):Int:=reduceHash (Builtin.Tuple.tupleHashOf (g.map hashInt))
def qC:SK->Int
 |.inl g=>P2 g|.inr c=>reduceHash (Builtin.Tuple.tupleHashOf [P2 c.1,hashInt c.2.1,hashInt c.2.2.1,P2 c.2.2.2])|.sh c=>reduceHash (Builtin.Tuple.tupleHashOf [hashInt c.1,hashInt c.2.1,reduceHash (Builtin.Tuple.tupleHashOf (c.2.2.map P2))])
def ents(xs:List (SK×Addr×Value)):List DictEntry:=xs.map λx=>⟨qC x.1,.ref x.2.1,x.2.2⟩
theorem ents_eq(prog:Program)(w:World)(t:Nat)(xs:List (SK×Addr×Value)):ents xs=xs.map (entryOfKey (tagK prog w t)):=by unfold ents;refine RN λx _=>?_;obtain⟨k,r⟩:=x;cases k<;>rfl
def DObj(a:Addr)(xs:List (SK×Addr×Value))(h:Heap):Prop:=∃o es ep,h.get? a=some o/\o.ExactDict/\o.data=.dict es ep/\es.toList=ents xs
end NK
namespace L3
open PySem
abbrev Xc:=Nat×Option Nat
inductive D where
 |non|bl (b:Bool)|int (i:Int)|str (s:Str)|ref (n:Nat)|tup (ds:List D)|fl (ds:List D)
inductive GO where
 |lst (ds:List D)|ins (c:Nat) (fs:List (Str×D))|dct (kvs:List (Sum Int Str×D))|exc (x:Xc)|dfz (kvs:List (Sum Int Str×D))|dcn (t:Nat) (kvs:List (SKd×D))|dcf (t:Nat) (kvs:List (SKd×D))|unk
abbrev G:=List GO
abbrev S3:=List (Option D)
inductive Res(α:Type) where
 |ok (a:α) (g:G)|raise (x:Xc) (g:G)|stuck
def Res.bind:Res α->(α->G->Res β)->Res β
 |.ok a g,k=>k a g|.raise e g,_=>.raise e g|.stuck,_=>.stuck
inductive Out where
 |nx (σ:S3) (g:G)|rt (d:D) (g:G)|bk (σ:S3) (g:G)|ct (σ:S3) (g:G)|raise (x:Xc) (σ:S3) (g:G)|stuck
abbrev ME:=S3->G->Res D
abbrev MT:=S3->G->Res Bool
abbrev MA:=S3->G->Res (List D)
abbrev MS:=S3->G->Out
abbrev MF:=List D->G->Res D
theorem Res.bind_ok(a:α)(g:G)(k:α->G->Res β):(Res.ok a g).bind k=k a g:=rfl
def SZ:Nat:=1000000
noncomputable def Qa(i:Nat):ME:=λσ g=>match σ[i]? with
 |some (some d)=>.ok d g|_=>.stuck
noncomputable def Qu(d:D):ME:=λ_ g=>.ok d g
abbrev mI(i:Int):ME:=Qu (.int i)
noncomputable def Qt(f:D->G->Res D)(a:ME):ME:=λσ g=>(a σ g).bind f
noncomputable def Qd(f:D->D->G->Res D)(a b:ME):ME:=λσ g=>(a σ g).bind λx g1=>(b σ g1).bind λy g2=>f x y g2
noncomputable def Qi:MA:=λ_ g=>.ok [] g
noncomputable def Qc(a:ME)(r:MA):MA:=λσ g=>(a σ g).bind λx g1=>(r σ g1).bind λxs g2=>.ok (x::xs) g2
noncomputable def QX(f:List D->G->Res D)(a:MA):ME:=λσ g=>(a σ g).bind f
noncomputable def Ql(a:ME):MT:=λσ g=>(a σ g).bind λd g1=>match d with
 |.bl b=>.ok b g1|_=>.stuck
noncomputable def ZS(a:MT):MT:=λσ g=>(a σ g).bind λb g1=>.ok (!b) g1
noncomputable def YR(a b:MT):MT:=λσ g=>(a σ g).bind λc g1=>if c=true then b σ g1 else .ok false g1
noncomputable def BZ(a b:MT):MT:=λσ g=>(a σ g).bind λc g1=>if c=true then .ok true g1 else b σ g1
noncomputable def Am(a:ME):ME:=λσ g=>(a σ g).bind λd g1=>match d with
 |.bl b=>.ok (.bl (!b)) g1|_=>.stuck
noncomputable def JV(a b:ME):ME:=λσ g=>(a σ g).bind λd g1=>match d with
 |.bl c=>if c=true then b σ g1 else .ok (.bl false) g1
 |_=>.stuck
noncomputable def Vc(c:MT)(a b:ME):ME:=λσ g=>(c σ g).bind λt g1=>if t=true then a σ g1 else b σ g1
noncomputable def E5(f f':D->D->G->Res D)(a b c:ME):ME:=λσ g=>(a σ g).bind λx g1=>(b σ g1).bind λy g2=>(f x y g2).bind λz g3=>match z with
 |.bl true=>(c σ g3).bind λw g4=>f' y w g4
 |.bl false=>.ok (.bl false) g3|_=>.stuck
noncomputable def QV:MS:=λσ g=>.nx σ g
noncomputable def Qr(a b:MS):MS:=λσ g=>match a σ g with
 |.nx σ' g'=>b σ' g'|o=>o
noncomputable def Q2(a:ME):MS:=λσ g=>match a σ g with
 |.ok _ g'=>.nx σ g'|.raise e g'=>.raise e σ g'|.stuck=>.stuck
noncomputable def QM(a:ME):MS:=λσ g=>match a σ g with
 |.ok d g'=>.rt d g'|.raise e g'=>.raise e σ g'|.stuck=>.stuck
noncomputable def DL:MS:=λ_ g=>.rt .non g
noncomputable def YV(c:MT)(a b:MS):MS:=λσ g=>match c σ g with
 |.ok t g'=>if t=true then a σ g' else b σ g'
 |.raise e g'=>.raise e σ g'|.stuck=>.stuck
noncomputable def Kn:MS:=λ_ _=>.stuck
noncomputable def Ko(c:Nat)(a:MA):MS:=λσ g=>match a σ g with
 |.ok ds g'=>if ds.length<=SZ then .raise (c,none) σ g' else .stuck
 |.raise e g'=>.raise e σ g'|.stuck=>.stuck
structure MH where
 cs:List Nat
 no:List Nat
 nm:Option Nat
 suite:MS
def lM(i:Nat):Out->Out
 |.nx σ g=>.nx (σ.set i none) g|.rt d g=>.rt d g|_=>.stuck
def DM:List MH->Xc->S3->G->Out
 |[],x,σ,g=>.raise x σ g|h::r,x,σ,g=>if x.1∈h.cs then (match h.nm with
  |none=>(match h.suite σ g with
   |.nx σ' g'=>.nx σ' g'|.rt d g'=>.rt d g'|_=>.stuck)
  |some i=>lM i (h.suite (σ.set i (some (.ref g.length))) (g++[.exc x]))) else if x.1∈h.no then DM r x σ g else .stuck
noncomputable def DN(b:MS)(hs:List MH):MS:=λσ g=>match b σ g with
 |.raise x σ' g'=>DM hs x σ' g'|o=>o
abbrev MG:=D->S3->Option S3
def Qn(i:Nat):MG:=λd σ=>some (σ.set i (some d))
def IB:List MG->List D->S3->Option S3
 |[],[],σ=>some σ|t::ts,d::ds,σ=>(t d σ).bind λσ'=>IB ts ds σ'
 |_,_,_=>none
def Jp(ts:List MG):MG:=λd σ=>match d with
 |.tup ds=>IB ts ds σ|_=>none
noncomputable def QK(t:MG)(a:ME):MS:=λσ g=>match a σ g with
 |.ok d g'=>(match t d σ with
  |some σ'=>.nx σ' g'|none=>.stuck)
 |.raise e g'=>.raise e σ g'|.stuck=>.stuck
structure Src where
 at':G->Nat->Option (Option D)
 top:Nat
abbrev MI:=S3->G->Res Src
def VE(src:Src)(t:MG)(body:MS):Nat->Nat->S3->G->Out
 |0,_,_,_=>.stuck|f+1,i,σ,g=>match src.at' g i with
  |some (some d)=>(match t d σ with
   |some σ1=>(match body σ1 g with
    |.nx σ2 g2=>VE src t body f (i+1) σ2 g2|.ct σ2 g2=>VE src t body f (i+1) σ2 g2|.bk σ2 g2=>.nx σ2 g2|o=>o)
   |none=>.stuck)
  |some none=>.nx σ g|none=>.stuck
noncomputable def Jn(it:MI)(t:MG)(body:MS):MS:=λσ g=>match it σ g with
 |.ok src g'=>VE src t body (src.top+1) 0 σ g'|.raise e g'=>.raise e σ g'|.stuck=>.stuck
def Zo(c:MT)(body:MS):Nat->S3->G->Out
 |0,_,_=>.stuck|f+1,σ,g=>match c σ g with
  |.ok true g1=>(match body σ g1 with
   |.nx σ2 g2=>Zo c body f σ2 g2|.ct σ2 g2=>Zo c body f σ2 g2|.bk σ2 g2=>.nx σ2 g2|o=>o)
  |.ok false g1=>.nx σ g1|.raise e g1=>.raise e σ g1|.stuck=>.stuck
open Classical in
noncomputable def Kp(c:MT)(body:MS):MS:=λσ g=>if h:∃f,Zo c body f σ g≠.stuck then Zo c body h.choose σ g else .stuck
def YS(src:Src)(t:MG)(c:MT)(e:ME):Nat->Nat->S3->G->List D->Res (List D)
 |0,_,_,_,_=>.stuck|f+1,i,σ,g,acc=>match src.at' g i with
  |some (some d)=>(match t d σ with
   |some σ1=>(match c σ1 g with
    |.ok b g1=>if b=true then (match e σ1 g1 with
     |.ok y g2=>YS src t c e f (i+1) σ1 g2 (acc++[y])|_=>.stuck) else YS src t c e f (i+1) σ1 g1 acc
    |_=>.stuck)
   |none=>.stuck)
  |some none=>.ok acc g|none=>.stuck
def GA(n:Nat)(cap:List Nat)(σ:S3):S3:=List.replicate n none++cap.map λi=>(σ[i]?).getD none
def Z6(ds:List D)(g:G):Res D:=if ds.length<=SZ then .ok (.ref g.length) (g++[.lst ds]) else .stuck
def ZQ(xs:List D)(g:G):Res D:=if xs.length<=SZ then .ok (.tup xs) g else .stuck
noncomputable def ZN(it:MI)(n:Nat)(cap:List Nat)(t:MG)(c:MT)(e:ME):ME:=λσ g=>match it σ g with
 |.ok src g1=>if src.top<=SZ then (match YS src t c e (src.top+1) 0 (GA n cap σ) g1 []with
  |.ok ds g2=>.ok (.ref g2.length) (g2++[.lst ds])|_=>.stuck) else .stuck
 |_=>.stuck
noncomputable def Yw:MT:=λ_ g=>.ok true g
noncomputable def QT(k n:Nat)(body:MS):MF:=λds g=>if ds.length=k then (match body (ds.map some++List.replicate n none) g with
 |.nx _ g'=>.ok .non g'|.rt d g'=>.ok d g'|.raise e _ g'=>.raise e g'|_=>.stuck) else .stuck
noncomputable def Qp(f:MF)(a:MA):ME:=λσ g=>(a σ g).bind f
noncomputable def QS(cc:Nat)(m:Str)(f:MF)(o:ME)(a:MA):ME:=λσ g=>(o σ g).bind λx g1=>match x with
 |.ref n=>(match g1[n]? with
  |some (.ins c fs)=>if c=cc/\fs.lookup m=none then (a σ g1).bind λxs g2=>f (.ref n::xs) g2 else .stuck
  |_=>.stuck)
 |_=>.stuck
noncomputable def Jq(c:Nat)(f:MF)(a:MA):ME:=λσ g=>(a σ g).bind λxs g1=>(f (.ref g1.length::xs) (g1++[.ins c []])).bind λd g2=>match d with
 |.non=>.ok (.ref g1.length) g2|_=>.stuck
noncomputable def Qq(cs:List Nat)(f:Str)(o:ME):ME:=Qt (λx g=>match x with
 |.ref n=>(match g[n]? with
  |some (.ins c fs)=>if c∈cs then (match fs.lookup f with
   |some d=>.ok d g|none=>.stuck) else .stuck
  |_=>.stuck)
 |_=>.stuck) o
def HD(f:Str)(v:D):List (Str×D)->List (Str×D)
 |[]=>[(f,v)]| (g,x)::r=>if g=f then (g,v)::r else (g,x)::HD f v r
noncomputable def QJ(cs:List Nat)(f:Str)(o v:ME):MS:=λσ g=>match v σ g with
 |.ok y g1=>(match o σ g1 with
  |.ok (.ref n) g2=>(match g2[n]? with
   |some (.ins c fs)=>if c∈cs/\fs.length<100 then .nx σ (g2.set n (.ins c (HD f y fs))) else .stuck
   |_=>.stuck)
  |.raise e g'=>.raise e σ g'|_=>.stuck)
 |.raise e g'=>.raise e σ g'|.stuck=>.stuck
def An(n:Nat)(i:Int):Option Nat:=if 0<=i then (if i<n then some i.toNat else none) else if -(n:Int)<=i then some (i+n).toNat else none
noncomputable def GB(o i v:ME):MS:=λσ g=>match v σ g with
 |.ok y g1=>(match o σ g1 with
  |.ok (.ref n) g2=>(match i σ g2 with
   |.ok (.int k) g3=>(match g3[n]? with
    |some (.lst ds)=>(match An ds.length k with
     |some j=>.nx σ (g3.set n (.lst (ds.set j y)))|none=>.stuck)
    |_=>.stuck)
   |.raise e g'=>.raise e σ g'|_=>.stuck)
  |.raise e g'=>.raise e σ g'|_=>.stuck)
 |.raise e g'=>.raise e σ g'|.stuck=>.stuck
def Vd(d:D)(g:G):Res Src:=match d with
 |.tup ds=>.ok ⟨λ_ i=>some ds[i]?,ds.length⟩ g|.fl ds=>.ok ⟨λ_ i=>some ds[i]?,ds.length⟩ g|.ref n=>(match g[n]? with
  |some (.lst ds)=>.ok ⟨λg i=>(match g[n]? with|some (.lst es)=>some es[i]? | _=>none),ds.length⟩ g|_=>.stuck)
 |_=>.stuck
noncomputable def Zp(a:ME):MI:=λσ g=>(a σ g).bind Vd
def Q0(lo:Int)(n:Nat):Src:=⟨λ_ i=>some (if i<n then some (.int (lo+i)) else none),n⟩
def HE(j:Int):Prop:=-(2^62)<=j/\j<2^62
instance (j:Int):Decidable (HE j):=inferInstanceAs (Decidable (_/\_))
noncomputable def Zl(a:ME):MI:=λσ g=>(a σ g).bind λd g1=>match d with
 |.int j=>if HE j then .ok (Q0 0 j.toNat) g1 else .stuck
 |_=>.stuck
noncomputable def Zu(a b:ME):MI:=λσ g=>(a σ g).bind λd g1=>(b σ g1).bind λd' g2=>match d,d' with
 |.int i,.int j=>if HE i/\HE j then .ok (Q0 i (j-i).toNat) g2 else .stuck
 |_,_=>.stuck
def QN(g:G):D->Option (Bool×List D)
 |.tup ds=>some (false,ds)|.fl ds=>some (true,ds)|.ref n=>(match g[n]? with
  |some (.lst ds)=>some (true,ds)|_=>none)
 |_=>none
def GC(d1 d2:D)(g:G):Res Src:=match QN g d1,QN g d2 with
 |some (_,xs),some (_,ys)=>.ok ⟨λg i=>(match QN g d1,QN g d2 with
  |some (_,xs),some (_,ys)=>(match xs[i]?,ys[i]? with
   |some x,some y=>some (some (.tup [x,y]))|_,_=>some none)
  |_,_=>none),min xs.length ys.length⟩ g
 |_,_=>.stuck
noncomputable def Lj(a b:ME):MI:=λσ g=>(a σ g).bind λx g1=>(b σ g1).bind λy g2=>GC x y g2
def ZL(x y:D)(g:G):Res D:=match x,y with
 |.int i,.int j=>.ok (.int (i+j)) g|.tup xs,.tup ys=>if xs.length+ys.length<=SZ then .ok (.tup (xs++ys)) g else .stuck
 |_,_=>.stuck
def YW(x y:D)(g:G):Res D:=match x,y with
 |.int i,.int j=>.ok (.int (i-j)) g|_,_=>.stuck
def cM(i:Int):Prop:=-(2^64)<i/\i<2^64
instance (j:Int):Decidable (cM j):=inferInstanceAs (Decidable (_/\_))
def ZE(x y:D)(g:G):Res D:=match x,y with
 |.int i,.int j=>if cM i\/cM j then .ok (.int (i*j)) g else .stuck
 |_,_=>.stuck
def Yx(x y:D)(g:G):Res D:=match x,y with
 |.int i,.int j=>if 0<j/\j<1073741824 then .ok (.int (i/j)) g else .stuck
 |_,_=>.stuck
def ZM(x y:D)(g:G):Res D:=match x,y with
 |.int i,.int j=>if 0<j then .ok (.int (i%j)) g else .stuck
 |_,_=>.stuck
def XY(x:D)(g:G):Res D:=match x with
 |.int i=>.ok (.int (-i)) g|_=>.stuck
def Ao(r:Int->Int->Bool)(x y:D)(g:G):Res D:=match x,y with
 |.int i,.int j=>.ok (.bl (r i j)) g|_,_=>.stuck
def HF:=Ao λi j=>decide (i<j)
def Oq:=Ao λi j=>decide (i<=j)
def Lk:=Ao λi j=>decide (j<i)
def lN:=Ao λi j=>decide (j<=i)
def Xx:List D->Option (List Int)
 |[]=>some []|.int i::r=>(Xx r).map (i :: ·)|_::_=>none
def HG(eq:D->D->Option Bool):List D->List D->Option Bool
 |[],[]=>some true|x::xs,y::ys=>(match eq x y,HG eq xs ys with
  |some a,some b=>some (a&&b)|_,_=>none)
 |_,_=>some false
def lO(x y:D):Option Bool:=match x,y with
 |.tup xs,.tup ys=>(match Xx xs,Xx ys with
  |some u,some v=>some (decide (u=v))|_,_=>none)
 |_,_=>none
def uA(g:G)(x y:D):Option Bool:=match x,y with
 |.int i,.int j=>some (i==j)|.str s,.str t=>some (s==t)|.ref n,.ref m=>(match g[n]?,g[m]? with
  |some (.lst xs),some (.lst ys)=>if xs.length=ys.length then HG lO xs ys else some false
  |_,_=>none)
 |_,_=>none
def Vp(x y:D)(g:G):Res D:=match uA g x y with
 |some b=>.ok (.bl b) g|none=>.stuck
def vN(_:G)(x y:D):Option Bool:=match x,y with
 |.int i,.int j=>some (i==j)|.bl a,.bl b=>some (a==b)|_,_=>none
def MK(x y:D)(g:G):Res D:=match vN g x y with
 |some b=>.ok (.bl (!b)) g|none=>.stuck
def isNon:D->Bool
 |.non=>true|_=>false
def P3(x y:D)(g:G):Res D:=match y with
 |.non=>.ok (.bl (isNon x)) g|_=>.stuck
def Kq(x y:D)(g:G):Res D:=match y with
 |.non=>.ok (.bl (!isNon x)) g|_=>.stuck
def Ll(xs:List α)(i:Int):Option α:=(An xs.length i).bind λj=>xs[j]?
def QZ(x y:D)(g:G):Res D:=match x,y with
 |.tup ds,.int i=>(match Ll ds i with
  |some d=>.ok d g|none=>.stuck)
 |.fl ds,.int i=>(match Ll ds i with
  |some d=>.ok d g|none=>.stuck)
 |.ref n,.int i=>(match g[n]? with
  |some (.lst ds)=>(match Ll ds i with
   |some d=>.ok d g|none=>.stuck)
  |_=>.stuck)
 |_,_=>.stuck
def Lm(n d:Nat):Option Int->Nat
 |none=>d|some v=>if v<0 then (v+(n:Int)).toNat else min v.toNat n
def C8(xs:List α)(lo hi:Option Int):List α:=(xs.drop (Lm xs.length 0 lo)).take (Lm xs.length xs.length hi-Lm xs.length 0 lo)
def Cp(x:D)(lo hi:Option Int)(g:G):Res D:=match x with
 |.tup ds=>.ok (.tup (C8 ds lo hi)) g|.ref n=>(match g[n]? with
  |some (.lst ds)=>.ok (.ref g.length) (g++[.lst (C8 ds lo hi)])|_=>.stuck)
 |_=>.stuck
abbrev MO:=S3->G->Res (Option Int)
noncomputable def JF:MO:=λ_ g=>.ok none g
noncomputable def ZO(a:ME):MO:=λσ g=>(a σ g).bind λd g1=>match d with
 |.int i=>.ok (some i) g1|_=>.stuck
noncomputable def Z7(a:ME)(lo hi:MO):ME:=λσ g=>(a σ g).bind λx g1=>(lo σ g1).bind λl g2=>(hi σ g2).bind λh g3=>Cp x l h g3
def Zv(x:D)(g:G):Res D:=match x with
 |.tup ds=>.ok (.int ds.length) g|.fl ds=>.ok (.int ds.length) g|.ref n=>(match g[n]? with
  |some (.lst ds)=>.ok (.int ds.length) g|_=>.stuck)
 |_=>.stuck
def Jv(x:D)(g:G):Res D:=match x with
 |.tup ds=>.ok (.tup ds) g|.fl ds=>.ok (.tup ds) g|.ref n=>(match g[n]? with
  |some (.lst ds)=>.ok (.tup ds) g|_=>.stuck)
 |_=>.stuck
noncomputable def Zc(o e:ME):ME:=λσ g=>(o σ g).bind λx g1=>match x with
 |.ref n=>(match g1[n]? with
  |some (.lst _)=>(e σ g1).bind λy g2=>(match g2[n]? with
   |some (.lst ds)=>if ds.length<SZ then .ok .non (g2.set n (.lst (ds++[y]))) else .stuck
   |_=>.stuck)
  |_=>.stuck)
 |_=>.stuck
def E6(x:D)(g:G):Res D:=match x with
 |.ref n=>(match g[n]? with
  |some (.lst ds)=>(match ds[ds.length-1]? with
   |some y=>.ok y (g.set n (.lst ds.dropLast))|none=>.stuck)
  |_=>.stuck)
 |_=>.stuck
inductive Ty where
 |non|bool|int|str|tuple|list|dict
 deriving DecidableEq
def Ty.name:Ty->String
 |.non => "NoneType" |.bool => "bool" |.int => "int" |.str => "str" |.tuple => "tuple" |.list => "list" |.dict => "dict"
def Ln(t c:Ty):Bool:=t==c||(t==.bool&&c==.int)
def FU(g:G):D->Option Ty
 |.non=>some .non|.bl _=>some .bool|.int _=>some .int|.str _=>some .str|.tup _=>some .tuple|.fl _=>some .list|.ref n=>(match g[n]? with
  |some (.lst _)=>some .list|some (.dct _)=>some .dict|_=>none)
def YF(c:Ty)(x:D)(g:G):Res D:=match FU g x with
 |some t=>.ok (.bl (Ln t c)) g|none=>.stuck
def ZW(all cs:List Nat)(x:D)(g:G):Res D:=match x with
 |.ref n=>(match g[n]? with
  |some (.exc e)=>if e.1∈all then .ok (.bl (decide (e.1∈cs))) g else .stuck
  |_=>.stuck)
 |.non=>.ok (.bl false) g|_=>.stuck
def FV:List D->Option Bool
 |[]=>some true|.bl b::r=>(FV r).map (b && ·)|_::_=>none
def Lo(x:D)(g:G):Res D:=match x with
 |.ref n=>(match g[n]? with
  |some (.lst ds)=>(match FV ds with
   |some b=>.ok (.bl b) g|none=>.stuck)
  |_=>.stuck)
 |_=>.stuck
def B9:D->Bool
 |.str _=>true|_=>false
def sA(x y:D):Bool:=match x,y with
 |.str s,.str t=>s==t|_,_=>false
def lP(neg:Bool)(x y:D)(g:G):Res D:=match QN g y with
 |some (_,ds)=>if B9 x=true/\ds.all B9=true then .ok (.bl (if neg=true then !(ds.any λd=>sA d x) else ds.any λd=>sA d x)) g else .stuck
 |none=>.stuck
def YY:List D->Option (List (List Int))
 |[]=>some []|.tup ds::r=>(match Xx ds,YY r with
  |some x,some y=>some (x::y)|_,_=>none)
 |_::_=>none
def DO:D->Option Int
 |.int i=>some i|_=>none
def lQ:D->Option (List Int)
 |.tup ds=>Xx ds|_=>none
def jD:D->Option (List (List Int))
 |.tup ds=>YY ds|_=>none
def ctO:List D->Option SKd
 |[a,p,q,b]=>(lQ a).bind λx=>(DO p).bind λi=>(DO q).bind λj=>(lQ b).bind λy=>some (.inr (x,i,j,y))
 |_=>none
def vO:List D->Option SKd
 |[a,b,m]=>(DO a).bind λi=>(DO b).bind λj=>(jD m).bind λx=>some (.sh (i,j,x))
 |_=>none
def Ki(τ:Nat):D->Option SKd
 |.tup ds=>if τ=0 then (Xx ds).map .inl else if τ=1 then ctO ds else if τ=2 then vO ds else none
 |_=>none
open PySem.Spec PyProof.Rows L2
def SqF(K:Frag)(H:Hp)(a:Addr)(xs:List V):Prop:=(∃o,H a=some (.frz o (.lst xs)))\/SqL K (λ_=>none) a xs
theorem SqF.sq{K:Frag}{H:Hp}{a:Addr}{xs:List V}(h:SqF K H a xs):SqL K H a xs:=by
 rcases h with⟨o,h⟩|(h|⟨o,h⟩)|h
 ·exact .inl (.inr ⟨o,h⟩)
 ·cases h
 ·cases h
 ·exact .inr h
mutual
inductive Den(K:Frag)(μ:List Addr)(H:Hp):V->D->Prop where
 |non:Den K μ H .non .non
 |bl (b:Bool):Den K μ H (.bl b) (.bl b)
 |int (i:Int):Den K μ H (.int i) (.int i)
 |str (x:Str):Den K μ H (.str x) (.str x)
 |ref {n:Nat} {a:Addr} (h:μ[n]?=some a):Den K μ H (.ref a) (.ref n)
 |tup {a:Addr} {vs:List V} {ds:List D} (h:SqT K H a vs) (hs:Dens K μ H vs ds):Den K μ H (.ref a) (.tup ds)
 |fl {a:Addr} {vs:List V} {ds:List D} (h:SqF K H a vs) (hs:Dens K μ H vs ds):Den K μ H (.ref a) (.fl ds)
inductive Dens(K:Frag)(μ:List Addr)(H:Hp):List V->List D->Prop where
 |nil:Dens K μ H [] []
 |cons {v:V} {d:D} {vs:List V} {ds:List D} (h:Den K μ H v d) (hs:Dens K μ H vs ds):Dens K μ H (v::vs) (d::ds)
end
structure Ext(K:Frag)(μ:List Addr)(H:Hp)(μ':List Addr)(H':Hp):Prop where
 pre:∃t,μ'=μ++t
 tup:∀a xs,SqT K H a xs->SqT K H' a xs
 fl:∀a xs,SqF K H a xs->SqF K H' a xs
 frz:∀a o u,H a=some (.frz o u)->H' a=some (.frz o u)
section
variable{K:Frag}{ca:Nat->Addr}{μ μ' μ'':List Addr}{H H' H'':Hp}
theorem Ext.refl:Ext K μ H μ H:=⟨⟨[],by simp⟩,λ_ _ h=>h,λ_ _ h=>h,λ_ _ _ h=>h⟩
theorem Ext.trans(a:Ext K μ H μ' H')(b:Ext K μ' H' μ'' H''):Ext K μ H μ'' H'':=by obtain⟨t,e⟩:=a.pre;obtain⟨u,f⟩:=b.pre;exact⟨⟨t++u,by rw[f,e,Tc]⟩,λx xs h=>b.tup x xs (a.tup x xs h),λx xs h=>b.fl x xs (a.fl x xs h),λx o u h=>b.frz x o u (a.frz x o u h)⟩
theorem Ext.at(e:Ext K μ H μ' H'){n:Nat}{a:Addr}(h:μ[n]?=some a):μ'[n]?=some a:=by obtain⟨t,rfl⟩:=e.pre;have hl:n<μ.length:=(Uq.mp h).1;rw[Uj hl];exact h
mutual
theorem Den.mono(e:Ext K μ H μ' H'):∀{v:V}{d:D},Den K μ H v d->Den K μ' H' v d
 |_,_,.non=>.non|_,_,.bl b=>.bl b|_,_,.int i=>.int i|_,_,.str x=>.str x|_,_,.ref h=>.ref (e.at h)|_,_,.tup h hs=>.tup (e.tup _ _ h) (Dens.mono e hs)|_,_,.fl h hs=>.fl (e.fl _ _ h) (Dens.mono e hs)
theorem Dens.mono(e:Ext K μ H μ' H'):∀{vs:List V}{ds:List D},Dens K μ H vs ds->Dens K μ' H' vs ds
 |_,_,.nil=>.nil|_,_,.cons h hs=>.cons (Den.mono e h) (Dens.mono e hs)
end
theorem Dens.length:∀{vs:List V}{ds:List D},Dens K μ H vs ds->vs.length=ds.length
 |_,_,.nil=>rfl|_,_,.cons _ t=>by rw[UA,UA,Dens.length t]
theorem Dens.get:∀{vs:List V}{ds:List D}{i:Nat}{d:D},Dens K μ H vs ds->ds[i]?=some d->∃v,vs[i]?=some v/\Den K μ H v d
 |_,_,_,_,.nil,e=>by simp at e
 |_,_,0,_,.cons r _,e=>by simp at e;subst e;exact⟨_,rfl,r⟩
 |_,_,i+1,x,.cons _ t,e=>by obtain⟨u,h1,h2⟩:=Dens.get (i:=i) (d:=x) t (by simpa using e);exact⟨u,by simpa using h1,h2⟩
theorem Dens.getV:∀{vs:List V}{ds:List D}{i:Nat}{v:V},Dens K μ H vs ds->vs[i]?=some v->∃d,ds[i]?=some d/\Den K μ H v d
 |_,_,_,_,.nil,e=>by simp at e
 |_,_,0,_,.cons r _,e=>by simp at e;subst e;exact⟨_,rfl,r⟩
 |_,_,i+1,x,.cons _ t,e=>by obtain⟨u,h1,h2⟩:=Dens.getV (i:=i) (v:=x) t (by simpa using e);exact⟨u,by simpa using h1,h2⟩
theorem Dens.append:∀{vs ws:List V}{ds es:List D},Dens K μ H vs ds->Dens K μ H ws es->Dens K μ H (vs++ws) (ds++es)
 |_,_,_,_,.nil,h=>h|_,_,_,_,.cons a b,h=>.cons a (Dens.append b h)
theorem Dens.set(r:Den K μ H x u):∀{xs:List V}{us:List D}(i:Nat),Dens K μ H xs us->Dens K μ H (xs.set i x) (us.set i u)
 |_,_,_,.nil=>.nil|_,_,0,.cons _ t=>.cons r t|_,_,i+1,.cons q t=>.cons q (Dens.set r i t)
theorem Dens.take:∀{xs:List V}{us:List D}(n:Nat),Dens K μ H xs us->Dens K μ H (xs.take n) (us.take n)
 |_,_,0,_=>.nil|_,_,_+1,.nil=>.nil|_,_,n+1,.cons r t=>.cons r (Dens.take n t)
theorem Dens.drop:∀{xs:List V}{us:List D}(n:Nat),Dens K μ H xs us->Dens K μ H (xs.drop n) (us.drop n)
 |_,_,0,r=>r|_,_,_+1,.nil=>.nil|_,_,n+1,.cons _ t=>Dens.drop n t
theorem Dens.ints(ns:List Int):Dens K μ H (ns.map V.int) (ns.map D.int):=by
 induction ns with
 |nil=>exact .nil|cons n r ih=>exact .cons (.int n) ih
def FRel(K:Frag)(μ:List Addr)(H:Hp):List (Str×V)->List (Str×D)->Prop:=Paired λp q=>p.1=q.1/\Den K μ H p.2 q.2
def KRel(K:Frag)(μ:List Addr)(H:Hp):List (B6×V)->List (B6×D)->Prop:=Paired λp q=>p.1=q.1/\Den K μ H p.2 q.2
def XOb(ca:Nat->Addr)(x:Xc)(o:Obj):Prop:=o.cls=.ref (ca x.1)/\o.dict=none
theorem XOb.map(h:XOb ca x o)(f:Array Value->Array Value):XOb ca x (o.mapFields f):=by obtain⟨c,d,dt,sl⟩:=o;cases dt<;>exact h
def XO(ca:Nat->Addr)(a:Addr)(x:Xc):HO:=.ext λh=>∃o vs,h.get? a=some o/\XOb ca x o/\o.data=.fields vs
def ND(a:Addr)(xs:List (NK.SK×Addr×Value)):HO:=.ext (NK.DObj a xs)
def NRel(K:Frag)(t:Nat)(μ:List Addr)(H:Hp):List (NK.SK×Addr×Value)->List (NK.SK×D)->Prop:=Paired λx q=>x.1=q.1/\(∃d,Ki t d=some x.1/\Den K μ H (.ref x.2.1) d)/\∃v,RelV v x.2.2/\Den K μ H v q.2
theorem NRel.mono(e:Ext K μ H μ' H')(h:NRel K t μ H xs ks):NRel K t μ' H' xs ks:=Paired.imp' (λ_ _ q=>⟨q.1,let ⟨d,a,b⟩:=q.2.1;⟨d,a,b.mono e⟩,let ⟨v,a,b⟩:=q.2.2;⟨v,a,b.mono e⟩⟩) h
def ORep(K:Frag)(ca:Nat->Addr)(μ:List Addr)(H:Hp)(a:Addr):GO->Prop
 |.dct ks=>∃kv,H a=some (.dK kv)/\KRel K μ H kv ks|.exc x=>H a=some (XO ca a x)|.dfz ks=>∃o kv,H a=some (.frz o (.dK kv))/\KRel K μ H kv ks|.dcn t ks=>∃xs,H a=some (ND a xs)/\NRel K t μ H xs ks/\(xs.map (·.1)).Nodup/\(a==sysModules)=false|.dcf t ks=>∃o xs,H a=some (.frz o (ND a xs))/\NRel K t μ H xs ks/\(xs.map (·.1)).Nodup/\(a==sysModules)=false|.lst ds=>∃vs,H a=some (.lst vs)/\Dens K μ H vs ds|.unk=>∃vs,H a=some (.lst vs)|.ins c fs=>∃dx fv,H a=some (.ins (ca c) dx fv)/\FRel K μ H fv fs
structure GRep(K:Frag)(ca:Nat->Addr)(μ:List Addr)(H:Hp)(g:G):Prop where
 len:μ.length=g.length
 nd:μ.Nodup
 obj:∀(n:Nat)(a:Addr)(o:GO),μ[n]?=some a->g[n]?=some o->ORep K ca μ H a o
structure Rep(K:Frag)(ca:Nat->Addr)(μ:List Addr)(σ3:S3)(g:G)(σ:L2.St)(H:Hp):Prop where
 g:GRep K ca μ H g
 len:σ.length=σ3.length
 st:∀(i:Nat)(d:D),σ3[i]?=some (some d)->∃v,σ[i]?=some (some v)/\Den K μ H v d
theorem FRel.mono(e:Ext K μ H μ' H')(h:FRel K μ H fv fs):FRel K μ' H' fv fs:=Paired.imp' (λ_ _ q=>⟨q.1,q.2.mono e⟩) h
theorem KRel.mono(e:Ext K μ H μ' H')(h:KRel K μ H fv fs):KRel K μ' H' fv fs:=Paired.imp' (λ_ _ q=>⟨q.1,q.2.mono e⟩) h
theorem Rep.go{σ3:S3}{g g':G}{σ:L2.St}(r:Rep K ca μ σ3 g σ H)(e:Ext K μ H μ' H')(h:GRep K ca μ' H' g'):Rep K ca μ' σ3 g' σ H':=⟨h,r.len,λi d z=>by obtain⟨v,h1,h2⟩:=r.st i d z;exact⟨v,h1,h2.mono e⟩⟩
theorem GRep.addr{g:G}(r:GRep K ca μ H g){n:Nat}{o:GO}(h:g[n]?=some o):∃a,μ[n]?=some a/\ORep K ca μ H a o:=by
 have hl:n<g.length:=(Uq.mp h).1;have hm:n<μ.length:=by rw[r.len];exact hl
 exact⟨μ[n],by simp[hm],r.obj n _ o (by simp[hm]) h⟩
theorem ORep.is(h:ORep K ca μ H a o):∃u,H a=some u:=by
 cases o with
 |lst ds=>obtain⟨_,h,_⟩:=h;exact⟨_,h⟩|ins c fs=>obtain⟨_,_,h,_⟩:=h;exact⟨_,h⟩|dct ks=>obtain⟨_,h,_⟩:=h;exact⟨_,h⟩|exc x=>exact⟨_,h⟩|unk=>obtain⟨_,h⟩:=h;exact⟨_,h⟩|dfz ks=>obtain⟨_,_,h,_⟩:=h;exact⟨_,h⟩|dcn t ks=>obtain⟨_,h,_⟩:=h;exact⟨_,h⟩|dcf t ks=>obtain⟨_,_,h,_⟩:=h;exact⟨_,h⟩
theorem GRep.known(r:GRep K ca μ H g)(h:a∈μ):∃u,H a=some u:=by
 obtain⟨n,hn⟩:=List.getElem?_of_mem h;have hl:n<μ.length:=(Uq.mp hn).1;have hg:n<g.length:=by rw[<-r.len];exact hl
 exact(r.obj n a g[n] hn (by simp[hg])).is
theorem Q3(hp:H p=none):Ext K μ H μ (Zi H p o):=⟨⟨[],by simp⟩,λa xs h=>by
 rcases h with(h|⟨u,h⟩)|h
 ·exact .inl (.inl (by rw[Qz (Q8 h hp)];exact h))
 ·exact .inl (.inr ⟨u,by rw[Qz (Q8 h hp)];exact h⟩)
 ·exact .inr h,λa xs h=>by
 rcases h with⟨u,h⟩|h
 ·exact .inl ⟨u,by rw[Qz (Q8 h hp)];exact h⟩
 ·exact .inr h,λa o u h=>by rw[Qz (Q8 h hp)];exact h⟩
theorem ORep.mono(e:Ext K μ H μ' H')(ha:∀u,H a=some u->H' a=some u)(h:ORep K ca μ H a o):ORep K ca μ' H' a o:=by
 cases o with
 |lst ds=>obtain⟨vs,h,q⟩:=h;exact⟨vs,ha _ h,q.mono e⟩|ins c fs=>obtain⟨dx,fv,h,q⟩:=h;exact⟨dx,fv,ha _ h,q.mono e⟩|dct ks=>obtain⟨kv,h,q⟩:=h;exact⟨kv,ha _ h,q.mono e⟩|exc x=>exact ha _ h|unk=>obtain⟨vs,h⟩:=h;exact⟨vs,ha _ h⟩|dfz ks=>obtain⟨o,kv,h,q⟩:=h;exact⟨o,kv,ha _ h,q.mono e⟩|dcn t ks=>obtain⟨xs,h,q,r⟩:=h;exact⟨xs,ha _ h,q.mono e,r⟩|dcf t ks=>obtain⟨o,xs,h,q,r⟩:=h;exact⟨o,xs,ha _ h,q.mono e,r⟩
theorem GRep.new(r:GRep K ca μ H g)(hp:H p=none):GRep K ca μ (Zi H p o) g:=⟨r.len,r.nd,λn a u h1 h2=>(r.obj n a u h1 h2).mono (Q3 hp) λz hz=>by rw[Qz (Q8 hz hp)];exact hz⟩
theorem ZC(hp:H p=none):Ext K μ H (μ++[p]) (Zi H p o):=⟨⟨[p],rfl⟩,(Q3 (μ:=μ) hp).tup,(Q3 (μ:=μ) hp).fl,(Q3 (K:=K) (μ:=μ) hp).frz⟩
theorem GRep.push(r:GRep K ca μ H g)(hp:H p=none)(ho:ORep K ca (μ++[p]) (Zi H p o) p u):GRep K ca (μ++[p]) (Zi H p o) (g++[u]):=by
 have nm:p∉μ:=λh=>by obtain⟨z,hz⟩:=r.known h;rw[hp]at hz;cases hz
 refine⟨by rw[Um,Um,r.len];rfl,?_,λn a w h1 h2=>?_⟩
 ·rw[Tt];exact⟨r.nd,by simp,λx hx y hy e=>nm (by rw[Ur.mp hy]at e;rw[<-e];exact hx)⟩
 ·by_cases hn:n<g.length
  ·rw[Uj hn]at h2;rw[Uj (by rw[r.len];exact hn)]at h1;exact(r.obj n a w h1 h2).mono (ZC hp) λz hz=>by rw[Qz (Q8 hz hp)];exact hz
  ·rw[UT (by omega)]at h2;rw[UT (by rw[r.len];omega)]at h1;have e0:n-g.length=0:=by have:=(Uq.mp h2).1;simp at this;omega
   rw[e0]at h2;rw[r.len,e0]at h1;simp at h1 h2;subst h1 h2;exact ho
theorem ZZ(h:H a=some o)(no:∀xs,o≠.tup xs)(nf:∀b u,o≠.frz b u):Ext K μ H μ (Zi H a o'):=⟨⟨[],by simp⟩,λb xs hb=>by
 rcases hb with(z|⟨u,z⟩)|z
 ·exact .inl (.inl (by rw[Qz (PL z h (Ne.symm (no xs)))];exact z))
 ·exact .inl (.inr ⟨u,by rw[Qz (PL z h (Ne.symm (nf u _)))];exact z⟩)
 ·exact .inr z,λb xs hb=>by
 rcases hb with⟨u,z⟩|z
 ·exact .inl ⟨u,by rw[Qz (PL z h (Ne.symm (nf u _)))];exact z⟩
 ·exact .inr z,λb u v z=>by rw[Qz (PL z h (Ne.symm (nf u v)))];exact z⟩
theorem GRep.set(r:GRep K ca μ H g)(hn:μ[n]?=some a)(h:H a=some o)(no:∀xs,o≠.tup xs)(nf:∀b u,o≠.frz b u)(ho:ORep K ca μ (Zi H a o') a u):
  GRep K ca μ (Zi H a o') (g.set n u):=by
 refine⟨by rw[UZ,r.len],r.nd,λm b w h1 h2=>?_⟩;by_cases e:m=n
 ·subst e;rw[hn]at h1;cases h1;have hl:m<g.length:=by rw[<-r.len];exact(Uq.mp hn).1
  rw[UW hl]at h2;cases h2;exact ho
 ·rw[Ui (Ne.symm e)]at h2;have nb:b≠a:=λz=>by subst z;have e1:=(Uq.mp h1);have e2:=(Uq.mp hn);obtain⟨l1,q1⟩:=e1;obtain⟨l2,q2⟩:=e2;exact e ((List.getElem_inj r.nd).mp (q1.trans q2.symm))
  exact(r.obj m b w h1 h2).mono (ZZ h no nf) λz hz=>by rw[Qz nb];exact hz
abbrev XS:=Xc->L2.St->Hp->Prop
def Ap(X:Cx)(pins:YD)(H:Hp)(b:Addr):Prop:=H b=none/\b≠X.env.locals/\b∉X.fs/\(b∈X.ex\/X.s₀.heap.get? b=none)/\(∀x c,X.env.cells.lookup x=some c->c≠b)/\∀p∈X.pn++pins,p.1≠b
structure Fl(X:Cx)(ca:Nat->Addr)(a:Addr)(x:Xc)(H:Hp)(h:Heap):Prop where
 fp:Ap X [] H a
 ln:x.2=none
 ex:∃oe vs,h.get? a=some oe/\XOb ca x oe/\oe.data=.fields vs/\1<vs.size/\(vs[1]?=some .none\/∃T oT ts,vs[1]?=some (.ref T)/\T≠a/\Ap X [] H T/\h.get? T=some oT/\oT.data=.fields ts/\3<ts.size/\(ts[3]?=some .none\/ts[3]?=some (rawInt X.env.locals)))
def XE(X:Cx)(ca:Nat->Addr)(Φ:XS):Value->Shared->Prop:=λv s=>∃a x σ H,v=.ref a/\Inv X [] σ H s/\Fl X ca a x H s.heap/\Φ x σ H
abbrev FW(X:Cx)(pn:YD):Cx:={X with pn:=pn,xe:=λ_ _=>False}
abbrev QI(X:Cx)(ca:Nat->Addr)(pn:YD)(Φ:XS):Cx:={X with pn:=pn,xe:=XE (FW X pn) ca Φ}
def RaP(K:Frag)(ca:Nat->Addr)(Φ:XS)(σ:L2.St)(H:Hp)(μ:List Addr)(x:Xc)(g':G):Prop:=∀H' μ',Ext K μ H μ' H'->GRep K ca μ' H' g'->Φ x σ H'
def Post(K:Frag)(ca:Nat->Addr)(Φ:XS)(σ:L2.St)(Q:VK)(H:Hp)(μ:List Addr):Res D->Prop
 |.ok d g'=>∀v H' μ',Ext K μ H μ' H'->GRep K ca μ' H' g'->Den K μ' H' v d->Q v H'|.raise x g'=>RaP K ca Φ σ H μ x g'|.stuck=>False
def PostT(K:Frag)(ca:Nat->Addr)(Φ:XS)(σ:L2.St)(Q:Bool->Hp->Prop)(H:Hp)(μ:List Addr):Res Bool->Prop
 |.ok b g'=>∀H' μ',Ext K μ H μ' H'->GRep K ca μ' H' g'->Q b H'|.raise x g'=>RaP K ca Φ σ H μ x g'|.stuck=>False
def PostA(K:Frag)(ca:Nat->Addr)(Φ:XS)(σ:L2.St)(Q:List V->Hp->Prop)(H:Hp)(μ:List Addr):Res (List D)->Prop
 |.ok ds g'=>∀vs H' μ',Ext K μ H μ' H'->GRep K ca μ' H' g'->Dens K μ' H' vs ds->Q vs H'|.raise x g'=>RaP K ca Φ σ H μ x g'|.stuck=>False
def PostS(K:Frag)(ca:Nat->Addr)(Φ:XS)(E:Ends)(H:Hp)(μ:List Addr):Out->Prop
 |.nx σ3 g'=>∀σ' H' μ',Ext K μ H μ' H'->Rep K ca μ' σ3 g' σ' H'->E.nx σ' H'|.bk σ3 g'=>∀σ' H' μ',Ext K μ H μ' H'->Rep K ca μ' σ3 g' σ' H'->E.bk σ' H'|.ct σ3 g'=>∀σ' H' μ',Ext K μ H μ' H'->Rep K ca μ' σ3 g' σ' H'->E.ct σ' H'|.rt d g'=>∀v H' μ',Ext K μ H μ' H'->GRep K ca μ' H' g'->Den K μ' H' v d->E.rt v H'|.raise x σ3 g'=>∀σ' H' μ',Ext K μ H μ' H'->Rep K ca μ' σ3 g' σ' H'->Φ x σ' H'|.stuck=>False
def up(K:Frag)(ca:Nat->Addr)(Φ:XS)(m:ME):TE:=λσ H Q=>∃σ3 g μ,Rep K ca μ σ3 g σ H/\Post K ca Φ σ Q H μ (m σ3 g)
def jE(K:Frag)(ca:Nat->Addr)(Φ:XS)(m:MT):TT:=λσ H Q=>∃σ3 g μ,Rep K ca μ σ3 g σ H/\PostT K ca Φ σ Q H μ (m σ3 g)
def DP(K:Frag)(ca:Nat->Addr)(Φ:XS)(m:MA):TA:=λσ H Q=>∃σ3 g μ,Rep K ca μ σ3 g σ H/\PostA K ca Φ σ Q H μ (m σ3 g)
def oO(K:Frag)(ca:Nat->Addr)(Φ:XS)(m:MS):TS:=λE σ H=>∃σ3 g μ,Rep K ca μ σ3 g σ H/\PostS K ca Φ E H μ (m σ3 g)
def QD(ca:Nat->Addr)(X:Cx)(e:Expr)(m:ME):Prop:=∀pn Φ,PE (QI X ca pn Φ) e (up X.K ca Φ m)
def Gg(ca:Nat->Addr)(X:Cx)(e:Expr)(m:MT):Prop:=∀pn Φ,PT (QI X ca pn Φ) e (jE X.K ca Φ m)
def jF(ca:Nat->Addr)(X:Cx)(e:Expr)(m:MT):Prop:=∀pn Φ,PW (QI X ca pn Φ) e (jE X.K ca Φ m)
def Aq(ca:Nat->Addr)(X:Cx)(es:List Expr)(m:MA):Prop:=∀pn Φ,PA (QI X ca pn Φ) es (DP X.K ca Φ m)
def HH(ca:Nat->Addr)(X:Cx)(st:Stmt)(m:MS):Prop:=∀pn Φ,PS (QI X ca pn Φ) st (oO X.K ca Φ m)
def Cq(ca:Nat->Addr)(X:Cx)(sts:List Stmt)(m:MS):Prop:=∀pn Φ,PN (QI X ca pn Φ) sts (oO X.K ca Φ m)
variable{Φ:XS}{σ:L2.St}
theorem RaP.go(e:Ext K μ H μ' H')(h:RaP K ca Φ σ H μ x g'):RaP K ca Φ σ H' μ' x g':=λH2 μ2 e2=>h H2 μ2 (e.trans e2)
theorem Post.go(e:Ext K μ H μ' H')(h:Post K ca Φ σ Q H μ r):Post K ca Φ σ Q H' μ' r:=by
 cases r with
 |ok d g'=>exact λv H2 μ2 e2=>h v H2 μ2 (e.trans e2)
 |raise _ _=>exact RaP.go e h|stuck=>exact h
theorem PostT.go(e:Ext K μ H μ' H')(h:PostT K ca Φ σ Q H μ r):PostT K ca Φ σ Q H' μ' r:=by
 cases r with
 |ok d g'=>exact λH2 μ2 e2=>h H2 μ2 (e.trans e2)
 |raise _ _=>exact RaP.go e h|stuck=>exact h
theorem PostA.go(e:Ext K μ H μ' H')(h:PostA K ca Φ σ Q H μ r):PostA K ca Φ σ Q H' μ' r:=by
 cases r with
 |ok d g'=>exact λv H2 μ2 e2=>h v H2 μ2 (e.trans e2)
 |raise _ _=>exact RaP.go e h|stuck=>exact h
theorem PostS.go(e:Ext K μ H μ' H')(h:PostS K ca Φ E H μ r):PostS K ca Φ E H' μ' r:=by
 cases r with
 |nx _ _=>exact λv H2 μ2 e2=>h v H2 μ2 (e.trans e2)
 |bk _ _=>exact λv H2 μ2 e2=>h v H2 μ2 (e.trans e2)
 |ct _ _=>exact λv H2 μ2 e2=>h v H2 μ2 (e.trans e2)
 |rt _ _=>exact λv H2 μ2 e2=>h v H2 μ2 (e.trans e2)
 |raise _ _ _=>exact λv H2 μ2 e2=>h v H2 μ2 (e.trans e2)
 |stuck=>exact h
theorem Post.pure(h:Post K ca Φ σ Q H μ (.ok d g))(r:GRep K ca μ H g)(q:Den K μ H v d):Q v H:=h v H μ .refl r q
theorem RaP.stmt(R:Rep K ca μ σ3 g σ H)(h:PostS K ca Φ E H μ (.raise x σ3 g')):RaP K ca Φ σ H μ x g':=λH' μ' e r=>h σ H' μ' e (R.go e r)
theorem Lp{m:ME}{α:Type}{k:D->G->Res α}{σ3:S3}{g:G}(R:Rep K ca μ σ3 g σ H){P:Res α->Hp->List Addr->Prop}(hp:P ((m σ3 g).bind k) H μ)(hst:∀H μ,¬P .stuck H μ)(hra:∀e g H μ,P (.raise e g) H μ->RaP K ca Φ σ H μ e g)(hgo:∀r H μ H' μ',Ext K μ H μ' H'->P r H μ->P r H' μ'):
  up K ca Φ m σ H λx H1=>∃d g1 μ1,Ext K μ H μ1 H1/\Rep K ca μ1 σ3 g1 σ H1/\Den K μ1 H1 x d/\P (k d g1) H1 μ1:=by
 refine⟨σ3,g,μ,R,?_⟩;cases hm:m σ3 g with
 |ok d g1 =>rw[hm]at hp;exact λv H1 μ1 e1 r1 d1=>⟨d,g1,μ1,e1,R.go e1 r1,d1,hgo _ _ _ _ _ e1 hp⟩
 |raise e g1=>rw[hm]at hp;exact hra _ _ _ _ hp|stuck=>rw[hm]at hp;exact(hst _ _ hp).elim
theorem YZ(R:Rep K ca μ σ3 g σ H)(hp:Post K ca Φ σ Q H μ ((m σ3 g).bind k)):
  up K ca Φ m σ H λx H1=>∃d g1 μ1,Ext K μ H μ1 H1/\Rep K ca μ1 σ3 g1 σ H1/\Den K μ1 H1 x d/\Post K ca Φ σ Q H1 μ1 (k d g1):=Lp (P:=λr H μ=>Post K ca Φ σ Q H μ r) R hp (λ_ _ h=>h) (λ_ _ _ _ h=>h) λ_ _ _ _ _ e h=>h.go e
theorem jG(R:Rep K ca μ σ3 g σ H)(hp:PostT K ca Φ σ Q H μ ((m σ3 g).bind k)):
  up K ca Φ m σ H λx H1=>∃d g1 μ1,Ext K μ H μ1 H1/\Rep K ca μ1 σ3 g1 σ H1/\Den K μ1 H1 x d/\PostT K ca Φ σ Q H1 μ1 (k d g1):=Lp (P:=λr H μ=>PostT K ca Φ σ Q H μ r) R hp (λ_ _ h=>h) (λ_ _ _ _ h=>h) λ_ _ _ _ _ e h=>h.go e
theorem DQ(R:Rep K ca μ σ3 g σ H)(hp:PostA K ca Φ σ Q H μ ((m σ3 g).bind k)):
  up K ca Φ m σ H λx H1=>∃d g1 μ1,Ext K μ H μ1 H1/\Rep K ca μ1 σ3 g1 σ H1/\Den K μ1 H1 x d/\PostA K ca Φ σ Q H1 μ1 (k d g1):=Lp (P:=λr H μ=>PostA K ca Φ σ Q H μ r) R hp (λ_ _ h=>h) (λ_ _ _ _ h=>h) λ_ _ _ _ _ e h=>h.go e
theorem ML{m:MT}{α:Type}{k:Bool->G->Res α}{σ3:S3}{g:G}(R:Rep K ca μ σ3 g σ H){P:Res α->Hp->List Addr->Prop}(hp:P ((m σ3 g).bind k) H μ)(hst:∀H μ,¬P .stuck H μ)(hra:∀e g H μ,P (.raise e g) H μ->RaP K ca Φ σ H μ e g)(hgo:∀r H μ H' μ',Ext K μ H μ' H'->P r H μ->P r H' μ'):
  jE K ca Φ m σ H λb H1=>∃g1 μ1,Ext K μ H μ1 H1/\Rep K ca μ1 σ3 g1 σ H1/\P (k b g1) H1 μ1:=by
 refine⟨σ3,g,μ,R,?_⟩;cases hm:m σ3 g with
 |ok d g1 =>rw[hm]at hp;exact λH1 μ1 e1 r1=>⟨g1,μ1,e1,R.go e1 r1,hgo _ _ _ _ _ e1 hp⟩
 |raise e g1=>rw[hm]at hp;exact hra _ _ _ _ hp|stuck=>rw[hm]at hp;exact(hst _ _ hp).elim
theorem lR(R:Rep K ca μ σ3 g σ H)(hp:Post K ca Φ σ Q H μ ((m σ3 g).bind k)):
  jE K ca Φ m σ H λb H1=>∃g1 μ1,Ext K μ H μ1 H1/\Rep K ca μ1 σ3 g1 σ H1/\Post K ca Φ σ Q H1 μ1 (k b g1):=ML (P:=λr H μ=>Post K ca Φ σ Q H μ r) R hp (λ_ _ h=>h) (λ_ _ _ _ h=>h) λ_ _ _ _ _ e h=>h.go e
theorem OJ(R:Rep K ca μ σ3 g σ H)(hp:PostT K ca Φ σ Q H μ ((m σ3 g).bind k)):
  jE K ca Φ m σ H λb H1=>∃g1 μ1,Ext K μ H μ1 H1/\Rep K ca μ1 σ3 g1 σ H1/\PostT K ca Φ σ Q H1 μ1 (k b g1):=ML (P:=λr H μ=>PostT K ca Φ σ Q H μ r) R hp (λ_ _ h=>h) (λ_ _ _ _ h=>h) λ_ _ _ _ _ e h=>h.go e
theorem MM{m:MA}{α:Type}{k:List D->G->Res α}{σ3:S3}{g:G}(R:Rep K ca μ σ3 g σ H){P:Res α->Hp->List Addr->Prop}(hp:P ((m σ3 g).bind k) H μ)(hst:∀H μ,¬P .stuck H μ)(hra:∀e g H μ,P (.raise e g) H μ->RaP K ca Φ σ H μ e g)(hgo:∀r H μ H' μ',Ext K μ H μ' H'->P r H μ->P r H' μ'):
  DP K ca Φ m σ H λxs H1=>∃ds g1 μ1,Ext K μ H μ1 H1/\Rep K ca μ1 σ3 g1 σ H1/\Dens K μ1 H1 xs ds/\P (k ds g1) H1 μ1:=by
 refine⟨σ3,g,μ,R,?_⟩;cases hm:m σ3 g with
 |ok d g1 =>rw[hm]at hp;exact λv H1 μ1 e1 r1 d1=>⟨d,g1,μ1,e1,R.go e1 r1,d1,hgo _ _ _ _ _ e1 hp⟩
 |raise e g1=>rw[hm]at hp;exact hra _ _ _ _ hp|stuck=>rw[hm]at hp;exact(hst _ _ hp).elim
theorem E7(R:Rep K ca μ σ3 g σ H)(hp:Post K ca Φ σ Q H μ ((m σ3 g).bind k)):
  DP K ca Φ m σ H λxs H1=>∃ds g1 μ1,Ext K μ H μ1 H1/\Rep K ca μ1 σ3 g1 σ H1/\Dens K μ1 H1 xs ds/\Post K ca Φ σ Q H1 μ1 (k ds g1):=MM (P:=λr H μ=>Post K ca Φ σ Q H μ r) R hp (λ_ _ h=>h) (λ_ _ _ _ h=>h) λ_ _ _ _ _ e h=>h.go e
theorem DR(R:Rep K ca μ σ3 g σ H)(hp:PostA K ca Φ σ Q H μ ((m σ3 g).bind k)):
  DP K ca Φ m σ H λxs H1=>∃ds g1 μ1,Ext K μ H μ1 H1/\Rep K ca μ1 σ3 g1 σ H1/\Dens K μ1 H1 xs ds/\PostA K ca Φ σ Q H1 μ1 (k ds g1):=MM (P:=λr H μ=>PostA K ca Φ σ Q H μ r) R hp (λ_ _ h=>h) (λ_ _ _ _ h=>h) λ_ _ _ _ _ e h=>h.go e
theorem Zg(h:up K ca Φ m σ H Q)(i:∀x H1,Q x H1->Q' x H1):up K ca Φ m σ H Q':=by
 obtain⟨σ3,g,μ,R,p⟩:=h;refine⟨σ3,g,μ,R,?_⟩;cases hm:m σ3 g with
 |ok d g1=>rw[hm]at p;exact λv H1 μ1 e r q=>i _ _ (p v H1 μ1 e r q)
 |raise e g1=>rw[hm]at p;exact p|stuck=>rw[hm]at p;exact p
theorem Ea(h:jE K ca Φ m σ H Q)(i:∀x H1,Q x H1->Q' x H1):jE K ca Φ m σ H Q':=by
 obtain⟨σ3,g,μ,R,p⟩:=h;refine⟨σ3,g,μ,R,?_⟩;cases hm:m σ3 g with
 |ok d g1=>rw[hm]at p;exact λH1 μ1 e r=>i _ _ (p H1 μ1 e r)
 |raise e g1=>rw[hm]at p;exact p|stuck=>rw[hm]at p;exact p
theorem JM(h:DP K ca Φ m σ H Q)(i:∀x H1,Q x H1->Q' x H1):DP K ca Φ m σ H Q':=by
 obtain⟨σ3,g,μ,R,p⟩:=h;refine⟨σ3,g,μ,R,?_⟩;cases hm:m σ3 g with
 |ok d g1=>rw[hm]at p;exact λv H1 μ1 e r q=>i _ _ (p v H1 μ1 e r q)
 |raise e g1=>rw[hm]at p;exact p|stuck=>rw[hm]at p;exact p
end
theorem Zb(h:PE X e t)(i:∀σ H Q,t' σ H Q->t σ H Q):PE X e t':=λpins s σ H Q I q=>h pins s σ H Q I (i σ H Q q)
theorem Lq(h:PT X e t)(i:∀σ H Q,t' σ H Q->t σ H Q):PT X e t':=λpins s σ H Q I q=>h pins s σ H Q I (i σ H Q q)
theorem P4(h:PW X e t)(i:∀σ H Q,t' σ H Q->t σ H Q):PW X e t':=λw pins s σ H Q I q=>h w pins s σ H Q I (i σ H Q q)
theorem P5(h:PA X e t)(i:∀σ H Q,t' σ H Q->t σ H Q):PA X e t':=λp pins s σ H Q I q=>h p pins s σ H Q I (i σ H Q q)
theorem Z0(h:PS X e t)(i:∀D σ H,t' D σ H->t D σ H):PS X e t':=λpins s σ H D I q=>h pins s σ H D I (i D σ H q)
theorem MN(h:PN X e t)(i:∀D σ H,t' D σ H->t D σ H):PN X e t':=λpins s σ H D I q=>h pins s σ H D I (i D σ H q)
section
variable{X:Cx}{ca:Nat->Addr}{a b c e:Expr}{es rest:List Expr}{ma mb me:ME}{tc ta tb:MT}{mr:MA}{pos:Pos}
theorem Qb(i:Nat){x:Str}(hN:X.N[i]?=some x:=by rfl)(hv:rW X.env.scope x:=by first|exact Or.inl rfl|exact Or.inr (Or.inl rfl)|exact Or.inr (Or.inr rfl))(hd:(x==("__debug__" : Str))=false:=by decide)(hcd:(x==("__classdict__" : Str))=false:=by decide):QD ca X (.Name x pos) (Qa i):=
 λpn Φ=>Zb (jY (X:=QI X ca pn Φ) hN hv hd hcd) λσ H Q hQ=>by
  obtain⟨σ3,g,μ,R,p⟩:=hQ;unfold Qa at p;cases e:σ3[i]? with
  |none=>rw[e]at p;exact p.elim|some o=>
   cases o with
   |none=>rw[e]at p;exact p.elim|some d =>rw[e]at p;obtain⟨v,h1,h2⟩:=R.st i d e;exact⟨v,h1,p v H μ .refl R.g h2⟩
theorem MP(h:∀pn Φ,PE (QI X ca pn Φ) e (tC v))(hd:∀K μ H,Den K μ H v d):QD ca X e (Qu d):=λpn Φ=>Zb (h pn Φ) λ_ H _ ⟨_,_,μ,R,p⟩=>p v H μ .refl R.g (hd _ _ _)
theorem Qk  : QD ca X (.Constant (.int i) j pos) (Qu (.int i)):=MP (λ_ _=>jZ) λ_ _ _=>.int i
theorem Kr  : QD ca X (.Constant (.str x) j pos) (Qu (.str x)):=MP (λ_ _=>kB) λ_ _ _=>.str x
theorem B0  : QD ca X (.Constant (.bool x) j pos) (Qu (.bl x)):=MP (λ_ _=>oV) λ_ _ _=>.bl x
theorem Yy:QD ca X (.Constant .none j pos) (Qu .non):=MP (λ_ _=>kA) λ_ _ _=>.non
theorem DS(hm:X.mg x=some u)(r:RelV v u)(hd':∀K μ H,Den K μ H v d)(hg:Gl X x:=by rfl)(hd:(x==("__debug__" : Str))=false:=by decide):QD ca X (.Name x pos) (Qu d):=MP (λpn Φ=>CZ (X:=QI X ca pn Φ) hg hm r hd) hd'
def Z1(K:Frag)(ca:Nat->Addr)(r:R2)(f:D->D->G->Res D):Prop:=∀(Φ:XS)(σ:L2.St)(H:Hp)(μ:List Addr)(g:G)(x y:V)(dx dy:D)(Q:VK),GRep K ca μ H g->Den K μ H x dx->Den K μ H y dy->Post K ca Φ σ Q H μ (f dx dy g)->r x y H Q
theorem Lr{K:Frag}{Φ:XS}{r:R2}{f:D->D->G->Res D}(hp:Z1 K ca r f)(σ:L2.St)(H:Hp)(Q:VK)(h:up K ca Φ (Qd f ma mb) σ H Q):pJ r (up K ca Φ ma) (up K ca Φ mb) σ H Q:=by obtain⟨σ3,g,μ,R,p⟩:=h;refine Zg (YZ R p) λx H1 ⟨dx,g1,μ1,e1,R1,q1,p1⟩=>?_;refine Zg (YZ R1 p1) λy H2 ⟨dy,g2,μ2,e2,R2,q2,p2⟩=>?_;exact hp Φ σ H2 μ2 g2 x y dx dy Q R2.g (q1.mono e2) q2 p2
theorem GD(ho:∀pn Φ,OpR (QI X ca pn Φ) (binaryOp op) r)(hp:Z1 X.K ca r f)(ha:QD ca X a ma)(hb:QD ca X b mb):QD ca X (.BinOp a op b pos) (Qd f ma mb):=λpn Φ=>Zb (pK (ho pn Φ) (ha pn Φ) (hb pn Φ)) (Lr hp)
theorem IC(ho:∀pn Φ,OpR (QI X ca pn Φ) (compareOp op) r)(hp:Z1 X.K ca r f)(ha:QD ca X a ma)(hb:QD ca X b mb)(hm:behindInMarks op b=false):QD ca X (.Compare a [op] [b] pos) (Qd f ma mb):=λpn Φ=>Zb (eD (ho pn Φ) (ha pn Φ) (hb pn Φ) hm) (Lr hp)
theorem eY(ho:∀pn Φ,IxR (QI X ca pn Φ) r)(hp:Z1 X.K ca r f)(ha:QD ca X a ma)(hb:QD ca X b mb)(hs:Be b:=by exact λ_ _=>rfl):QD ca X (.Subscript a b pos) (Qd f ma mb):=λpn Φ=>Zb (pT (ho pn Φ) (ha pn Φ) (hb pn Φ) hs) (Lr hp)
theorem uB{op:UnaryOp}{r:V->Hp->VK->Prop}{f:D->G->Res D}(ho:∀pn Φ,rY (QI X ca pn Φ) (unaryOp op) r)(hp:∀(Φ:XS) (σ:L2.St) (H:Hp) (μ:List Addr) (g:G) (x:V) (dx:D) (Q:VK),GRep X.K ca μ H g->Den X.K μ H x dx->Post X.K ca Φ σ Q H μ (f dx g)->r x H Q)(ha:QD ca X a ma):QD ca X (.UnaryOp op a pos) (Qt f ma):=λpn Φ=>Zb (pL (ho pn Φ) (ha pn Φ)) λσ H Q ⟨σ3,g,μ,R,p⟩=>Zg (YZ R p) λx H1 ⟨dx,g1,μ1,e1,R1,q1,p1⟩=>hp Φ σ H1 μ1 g1 x dx Q R1.g q1 p1
theorem Qm:Aq ca X [] Qi:=λpn Φ=>P5 (E1 (X:=QI X ca pn Φ)) λ_ H _ ⟨_,_,μ,R,p⟩=>p [] H μ .refl R.g .nil
theorem ZH(ha:QD ca X e me)(hr:Aq ca X es mr)(hs:starEach (e::es) X.env=(false,eval e X.env)::starEach es X.env:=by rfl):Aq ca X (e::es) (Qc me mr):=λpn Φ=>P5 (YX (X:=QI X ca pn Φ) (ha pn Φ) (hr pn Φ) hs) λσ H Q ⟨σ3,g,μ,R,p⟩=>Zg (DQ R p) λx H1 ⟨d,g1,μ1,e1,R1,q1,p1⟩=>
  JM (DR R1 p1) λxs H2 ⟨ds,g2,μ2,e2,R2,q2,p2⟩=>p2 (x::xs) H2 μ2 .refl R2.g (.cons (q1.mono e2) q2)
theorem Zz(ha:QD ca X a ma)(he:∀whole,isTrue a X.env whole=(do let v <-whole;standAt a.pos;holding [v] (truthy v)):=by intro _;rfl):Gg ca X a (Ql ma):=
 λpn Φ=>Lq (kC (X:=QI X ca pn Φ) (ha pn Φ) he) λσ H Q ⟨σ3,g,μ,R,p⟩=>Zg (jG R p) λx H1 hQ=>by
  obtain⟨d,g1,μ1,e1,R1,q1,p1⟩:=hQ;cases q1 with
  |bl b=>exact⟨b,rfl,p1 H1 μ1 .refl R1.g⟩|_=>exact p1.elim
theorem JG(ho:∀pn Φ,OpR (QI X ca pn Φ) (compareOp op) r)(hp:Z1 X.K ca r f)(ha:QD ca X a ma)(hb:QD ca X b mb)(hm:behindInMarks op b=false):Gg ca X (.Compare a [op] [b] pos) (Ql (Qd f ma mb)):=
 λpn Φ=>Lq (eF (ho pn Φ) (ha pn Φ) (hb pn Φ) hm) λσ H Q hQ=>by
  obtain⟨σ3,g,μ,R,p⟩:=hQ;have q:up X.K ca Φ (Qd f ma mb) σ H λx H'=>∃k,x=.bl k/\Q k H':=Zg (jG R p) λx H1 hQ=>by
   obtain⟨d,g1,μ1,e1,R1,q1,p1⟩:=hQ;cases q1 with
   |bl b=>exact⟨b,rfl,p1 H1 μ1 .refl R1.g⟩|_=>exact p1.elim
  exact Lr hp σ H _ q
theorem JW(ha:Gg ca X a ta):Gg ca X (.UnaryOp .Not a pos) (ZS ta):=λpn Φ=>Lq (kF (X:=QI X ca pn Φ) (ha pn Φ)) λσ H Q ⟨σ3,g,μ,R,p⟩=>Ea (OJ R p) λb H1 ⟨g1,μ1,e1,R1,p1⟩=>p1 H1 μ1 .refl R1.g
theorem Gh(ha:Gg ca X a ta):jF ca X (.BoolOp .And [a] pos) ta:=λpn Φ=>dP (X:=QI X ca pn Φ) (ha pn Φ)
theorem VF(ha:Gg ca X a ta):jF ca X (.BoolOp .Or [a] pos) ta:=λpn Φ=>kD (X:=QI X ca pn Φ) (ha pn Φ)
theorem Ls(ha:Gg ca X a ta)(hb:jF ca X (.BoolOp .And (b::rest) pos) tb):jF ca X (.BoolOp .And (a::b::rest) pos) (YR ta tb):=
 λpn Φ=>P4 (kE (X:=QI X ca pn Φ) (ha pn Φ) (hb pn Φ)) λσ H Q ⟨σ3,g,μ,R,p⟩=>Ea (OJ R p) λb H1 hQ=>by
  obtain⟨g1,μ1,e1,R1,p1⟩:=hQ;cases b with
  |true=>rw[Ud rfl]at p1 ⊢;exact⟨σ3,g1,μ1,R1,p1⟩|false=>rw[Uf Ue]at p1 ⊢;exact p1 H1 μ1 .refl R1.g
theorem Eb(ha:Gg ca X a ta)(hb:jF ca X (.BoolOp .Or (b::rest) pos) tb):jF ca X (.BoolOp .Or (a::b::rest) pos) (BZ ta tb):=
 λpn Φ=>P4 (oX (X:=QI X ca pn Φ) (ha pn Φ) (hb pn Φ)) λσ H Q ⟨σ3,g,μ,R,p⟩=>Ea (OJ R p) λb H1 hQ=>by
  obtain⟨g1,μ1,e1,R1,p1⟩:=hQ;cases b with
  |true=>rw[Ud rfl]at p1 ⊢;exact p1 H1 μ1 .refl R1.g|false=>rw[Uf Ue]at p1 ⊢;exact⟨σ3,g1,μ1,R1,p1⟩
theorem Ar(h:jF ca X e ta):Gg ca X e ta:=λpn Φ=>(h pn Φ).pt
theorem DT(ha:QD ca X a ma):QD ca X (.UnaryOp .Not a pos) (Am ma):=
 λpn Φ=>Zb (kI (X:=QI X ca pn Φ) (ha pn Φ)) λσ H Q ⟨σ3,g,μ,R,p⟩=>Zg (YZ R p) λx H1 hQ=>by
  obtain⟨d,g1,μ1,e1,R1,q1,p1⟩:=hQ;cases q1 with
  |bl b=>exact⟨b,rfl,p1 _ H1 μ1 .refl R1.g (.bl _)⟩|_=>exact p1.elim
theorem Ec(ha:QD ca X a ma):QD ca X (.BoolOp op [a] pos) ma:=λpn Φ=>kG (X:=QI X ca pn Φ) (ha pn Φ)
theorem Ks(ha:QD ca X a ma)(hb:QD ca X (.BoolOp .And (b::rest) pos) mb):QD ca X (.BoolOp .And (a::b::rest) pos) (JV ma mb):=
 λpn Φ=>Zb (kH (X:=QI X ca pn Φ) (ha pn Φ) (hb pn Φ)) λσ H Q ⟨σ3,g,μ,R,p⟩=>Zg (YZ R p) λx H1 hQ=>by
  obtain⟨d,g1,μ1,e1,R1,q1,p1⟩:=hQ;cases q1 with
  |bl b=>
   refine⟨b,rfl,?_⟩;cases b with
   |true=>rw[Ud rfl];exact⟨σ3,g1,μ1,R1,p1⟩|false=>rw[Uf Ue];exact p1 _ H1 μ1 .refl R1.g (.bl _)
  |_=>exact p1.elim
theorem Kt(hc:Gg ca X c tc)(ha:QD ca X a ma)(hb:QD ca X b mb):QD ca X (.IfExp c a b pos) (Vc tc ma mb):=
 λpn Φ=>Zb (Dl (X:=QI X ca pn Φ) (hc pn Φ) (ha pn Φ) (hb pn Φ)) λσ H Q ⟨σ3,g,μ,R,p⟩=>Ea (lR R p) λb H1 hQ=>by
  obtain⟨g1,μ1,e1,R1,p1⟩:=hQ;cases b with
  |true=>rw[Ud rfl]at p1 ⊢;exact⟨σ3,g1,μ1,R1,p1⟩|false=>rw[Uf Ue]at p1 ⊢;exact⟨σ3,g1,μ1,R1,p1⟩
theorem Y0:SZ<=sizeLine:=by rw[Td];decide
theorem Dens.sz{K:Frag}{μ:List Addr}{H:Hp}{vs:List V}{ds:List D}(h:Dens K μ H vs ds)(z:ds.length<=SZ):vs.length<=sizeLine:=by rw[h.length];exact Uo z Y0
theorem Yz(h:Aq ca X es mr):QD ca X (.Tuple es k pos) (QX ZQ mr):=
 λpn Φ=>Zb (Dw (X:=QI X ca pn Φ) (h pn Φ)) λσ H Q ⟨σ3,g,μ,R,p⟩=>JM (E7 R p) λxs H1 hQ=>by
  obtain⟨ds,g1,μ1,e1,R1,q1,p1⟩:=hQ;unfold ZQ at p1;by_cases z:ds.length<=SZ
  ·rw[Ud z]at p1;exact⟨q1.sz z,λt ht=>p1 _ _ μ1 (Q3 ht) (R1.g.new ht) (.tup (.of Qy) (q1.mono (Q3 ht)))⟩
  ·rw[Uf z]at p1;exact p1.elim
theorem Xg(h:Aq ca X es mr):QD ca X (.List es pos) (QX Z6 mr):=
 λpn Φ=>Zb (lD (X:=QI X ca pn Φ) (h pn Φ)) λσ H Q ⟨σ3,g,μ,R,p⟩=>JM (E7 R p) λxs H1 hQ=>by
  obtain⟨ds,g1,μ1,e1,R1,q1,p1⟩:=hQ;unfold Z6 at p1;by_cases z:ds.length<=SZ
  ·rw[Ud z]at p1;refine⟨q1.sz z,λt ht=>p1 _ _ (μ1++[t]) (ZC ht) (R1.g.push ht ⟨xs,Qy,q1.mono (ZC ht)⟩) (.ref ?_)⟩;rw[<-R1.g.len];simp
  ·rw[Uf z]at p1;exact p1.elim
end
end L3
namespace L3
open PySem PySem.Spec PyProof.Rows L2
section
variable{X:Cx}{ca:Nat->Addr}{pins:YD}{σ:L2.St}{H:Hp}{s:Shared}{a:Addr}{x:Xc}{E:VP}
theorem DU(I:Inv (QI X ca pn Φ) pins σ H s):Inv (FW X pn) pins σ H s:=(Inv.wish I λ_ _=>False)
theorem Lu(I:Inv X pins σ H s)(hb:s.heap.get? b=none)(hn:H' b=none):Ap X pins H' b:=by
 refine⟨hn,λz=>?_,λz=>?_,?_,λx c e z=>?_,λp hp z=>?_⟩
 ·obtain⟨m,⟨o,_,_,ho,_⟩,_⟩:=I.loc;rw[z,ho]at hb;cases hb
 ·obtain⟨_,o,ho,_⟩:=I.funs.mem z;rw[ho]at hb;cases hb
 ·by_cases hx:b∈X.ex
  ·exact .inl hx
  ·refine .inr ?_;cases q:X.s₀.heap.get? b with
   |none=>rfl|some o =>obtain⟨o',e'⟩:=I.base.there b o q hx;rw[e']at hb;cases hb
 ·obtain⟨v,o,ho,_⟩:=I.cell x c e;rw[z,hb]at ho;cases ho
 ·rw[<-z,(I.pin p hp).1]at hb;cases hb
theorem ID{H':Hp}{h':Heap}{g':Array GenState}{t':Nat}{d':Drawn}{ch:List Addr}(I:Inv X pins σ H s)(hch:∀b∈ch,(b∈X.ex\/X.s₀.heap.get? b=none)/\b≠X.env.locals/\(∀x c,X.env.cells.lookup x=some c->c≠b)/\∀p∈X.pn++pins,p.1≠b)(keep:∀b o,b≠X.env.locals->b∉X.fs->b∉ch->s.heap.get? b=some o->H b=none->h'.get? b=some o)(slot:∀b o,b≠X.env.locals->b∈X.fs->b∉ch->s.heap.get? b=some o->H b=none->∃sl,h'.get? b=some {o with slots:=sl})(free:∀b o,b∉ch->s.heap.get? b=some o->H b=none->H' b=none)(there:∀b o,b∉ch->s.heap.get? b=some o->∃o',h'.get? b=some o')(tups:∀b xs,H b=some (.tup xs)->H' b=some (.tup xs))(frzs:∀b o u,H b=some (.frz o u)->H' b=some (.frz o u))(tbls:∀b ps,H b=some (.tbl ps)->∃more,H' b=some (.tbl (ps++more)))(ns:∀m,s.heap.Ns X.env.locals m->h'.Ns X.env.locals m)(hok:HOk X.prog X.w H' h')(hg:AllBare g'):
  Inv X pins σ H' {s with heap:=h',gens:=g',drawn:=d',toks:=t'}:=by
 have neL:∀b o,X.s₀.heap.get? b=some o->b≠X.env.locals:=λb o e=>UH (Uu (Ul e) I.ok.above);have neC:∀b o,X.s₀.heap.get? b=some o->b∉X.ex->b∉ch:=λb o e hx hb=>by
  rcases(hch b hb).1 with z|z
  ·exact hx z
  ·rw[z]at e;cases e
 have cellK:∀x c,X.env.cells.lookup x=some c->∀v,s.heap.IsCell c v->h'.IsCell c v:=λx c e v hQ=>by
  obtain⟨o,ho,hd⟩:=hQ;have nch:c∉ch:=λz=>(hch c z).2.2.1 x c e rfl;by_cases hc:c∈X.fs
  ·obtain⟨sl,q⟩:=slot c o (I.cne x c e) hc nch ho (I.freeC x c e);exact⟨_,q,hd⟩
  ·exact⟨o,keep c o (I.cne x c e) hc nch ho (I.freeC x c e),hd⟩
 refine⟨I.ok,I.os,hg,⟨λb o e n hb hx=>?_,λb o e n hb hx=>?_,λb o e n hx=>?_,λb o e hx=>?_,λb xs e=>tups b xs (I.base.tups b xs e),λb o xs e=>frzs b o xs (I.base.frzs b o xs e),λb ps e=>?_⟩,?_,λx c e=>?_,?_,λx c e=>?_,λp hp=>?_,hok,I.len⟩
 ·exact keep b o (neL b o e) hb (neC b o e hx) (I.base.keep b o e n hb hx) (I.base.free b o e n hx)
 ·obtain⟨sl,e1⟩:=I.base.slot b o e n hb hx;obtain⟨sl',e2⟩:=slot b _ (neL b o e) hb (neC b o e hx) e1 (I.base.free b o e n hx);exact⟨sl',e2⟩
 ·obtain⟨o',e1⟩:=I.base.there b o e hx;exact free b o' (neC b o e hx) e1 (I.base.free b o e n hx)
 ·obtain⟨o',e1⟩:=I.base.there b o e hx;exact there b o' (neC b o e hx) e1
 ·obtain⟨m1,e1⟩:=I.base.tbls b ps e;obtain⟨m2,e2⟩:=tbls b _ e1;exact⟨m1++m2,by rw[e2,Array.append_assoc]⟩
 ·obtain⟨m,hn,hl⟩:=I.loc;refine⟨m,ns m hn,λi x v e1 e2 e3=>?_⟩;obtain⟨u,r,l⟩:=hl i x v e1 e2 e3;refine⟨u,r,?_⟩;rcases l with l|⟨k,c,e,z⟩
  ·exact .inl l
  ·exact .inr ⟨k,c,e,cellK x c e _ z⟩
 ·obtain⟨v,z⟩:=I.cell x c e;exact⟨v,cellK x c e v z⟩
 ·obtain⟨m,⟨o,_,_,ho,_⟩,_⟩:=I.loc;exact free _ o (λz=>(hch _ z).2.1 rfl) ho I.free
 ·obtain⟨v,o,ho,hd⟩:=I.cell x c e;exact free c o (λz=>(hch c z).2.2.1 x c e rfl) ho (I.freeC x c e)
 ·obtain⟨e,n,ne,nf,d⟩:=I.pin p hp;have nch:p.1∉ch:=λz=>(hch p.1 z).2.2.2 p hp rfl;exact⟨keep p.1 p.2 ne nf nch e n,free p.1 p.2 nch e n,ne,nf,d⟩
theorem MQ{ch:List Addr}{h':Heap}(I:Inv X pins σ H s)(hch:∀b∈ch,Ap X pins H b)(keep:∀b o,b∉ch->b≠X.env.locals->b∉X.fs->s.heap.get? b=some o->h'.get? b=some o)(slot:∀b o,b∉ch->s.heap.get? b=some o->∃sl,h'.get? b=some {o with slots:=sl}):Inv X pins σ H {s with heap:=h'}:=by
 have nl:X.env.locals∉ch:=λz=>(hch _ z).2.1 rfl;have nt:∀b v,H b=some v->b∉ch:=λb v e z=>by rw[(hch b z).1]at e;cases e
 have nf:∀b v,H b=some v->b∉X.fs:=λb v e z=>by obtain⟨_,o,ho,_⟩:=I.ok.funs.mem z;have:=I.base.free b o ho (I.ok.frf b z) λq=>I.ok.exfs b q z;rw[this]at e;cases e
 have nL:∀b v,H b=some v->b≠X.env.locals:=λb v e z=>by rw[z,I.free]at e;cases e
 refine ID (h':=h') (H':=H) (g':=s.gens) (t':=s.toks) (d':=s.drawn) (ch:=ch) I (λb hb=>⟨(hch b hb).2.2.2.1,(hch b hb).2.1,(hch b hb).2.2.2.2.1,(hch b hb).2.2.2.2.2⟩) (λb o h1 h2 h3 e _=>keep b o h3 h1 h2 e) (λb o _ _ h3 e _=>slot b o h3 e)
  (λb o _ _ n=>n) (λb o h e=>let ⟨sl,q⟩:=slot b o h e;⟨_,q⟩) (λb v e=>e) (λb o v e=>e) (λb ps e=>⟨#[],by rw[e];simp⟩) (λm hm=>?_) (λb v e=>?_) I.bare
 ·obtain⟨o,es,ep,ho,rr⟩:=hm;obtain⟨sl,q⟩:=slot _ o nl ho;exact⟨_,es,ep,q,rr⟩
 ·refine(I.hok b v e).stay (λc' v' hc' q=>?_) (λc' q=>q) λc' xs' q=>q;rcases hc' with rfl|hc'
  ·exact keep _ _ (nt _ _ e) (nL _ _ e) (nf _ _ e) q
  ·exact keep _ _ (nt _ _ hc') (nL _ _ hc') (nf _ _ hc') q
def FlN(X:Cx)(ca:Nat->Addr)(a:Addr)(x:Xc)(H:Hp)(h:Heap):Prop:=Ap X [] H a/\x.2=none/\∃oe vs T oT ts,h.get? a=some oe/\XOb ca x oe/\oe.data=.fields vs/\vs[1]?=some (.ref T)/\T≠a/\Ap X [] H T/\h.get? T=some oT/\oT.data=.fields ts/\ts[3]?=some (rawInt X.env.locals)
def sB(X:Cx)(ca:Nat->Addr)(a:Addr)(x:Xc)(H:Hp)(h:Heap):Prop:=Ap X [] H a/\x.2=none/\∃oe vs T oT ts,h.get? a=some oe/\XOb ca x oe/\oe.data=.fields vs/\vs[1]?=some (.ref T)/\T≠a/\Ap X [] H T/\h.get? T=some oT/\oT.data=.fields ts/\3<ts.size
theorem FlN.t(f:FlN X ca a x H h):sB X ca a x H h:=by obtain⟨f1,f2,oe,vs,T,oT,ts,e1,e2,e3,e4,e5,e6,e7,e8,e9⟩:=f;exact⟨f1,f2,oe,vs,T,oT,ts,e1,e2,e3,e4,e5,e6,e7,e8,(Tf.mp e9).1⟩
theorem FlN.fl(f:FlN X ca a x H h):Fl X ca a x H h:=by obtain⟨f1,f2,oe,vs,T,oT,ts,e1,e2,e3,e4,e5,e6,e7,e8,e9⟩:=f;exact⟨f1,f2,oe,vs,e1,e2,e3,(Tf.mp e4).1,.inr ⟨T,oT,ts,e4,e5,e6,e7,e8,(Tf.mp e9).1,.inr e9⟩⟩
theorem GE{h:Heap}{b:Addr}{o:Obj}{ts:Array Value}(i:Nat)(v:Value)(e:h.get? b=some o)(d:o.data=.fields ts):
  (h.update b (Obj.mapFields (·.setIfInBounds i v))).get? b=some (o.mapFields (·.setIfInBounds i v))/\(o.mapFields (·.setIfInBounds i v)).data=.fields (ts.setIfInBounds i v)/\(o.mapFields (·.setIfInBounds i v)).cls=o.cls:=⟨Tu _ e (Rj (Th d _)),Th d _,Wb _ _⟩
theorem MR{base:Heap}{env:Env}{outer:List Env}{L:Addr}{oe:Obj}{vs:Array Value}{head:Value}{hn:Bool}{M:Model}{A:Around}{Q:Unit->Shared->Prop}(hfr:A.frames=some (env::outer))(hl:s.heap.FunFrames base (env::outer))(hf:env.frame=some L)(he:s.heap.get? a=some oe)(hd:oe.data=.fields vs)(hsz:1<vs.size)(ha:a∉(env::outer).filterMap (·.frame))(k:∀h₁ (cells:Array Value),Heap.SlotsOnly ((env::outer).filterMap (·.frame)) s.heap h₁->cells[3]?=some (rawInt L)->Q () {s with heap:=(h₁.push {cls:=.type "traceback",dict:=none,data:=.fields cells}).update a (Obj.mapFields (·.setIfInBounds 1 (.ref h₁.objs.size)))}):
  wpAny M A (do let fv <-frameOf env;let pl <-entryPlaceOf L hn;let b <-EntryCells.newEntry head fv .none (rawInt L) .none pl;setField (.ref a) 1 b) Q E s:=by
 refine Ua (wpAny_frameOf_fun hfr hl hf λh₁ so=>Ua (wpAny_entryPlaceOf λpl hpl=>?_));unfold EntryCells.newEntry newFields;refine Ua (UB ?_ (hpl.sizeOk5 _ _ _ _ _));have e1:h₁.get? a=some oe:=(so.2.1 a ha).trans he;refine TH (Uc _ e1) hd hsz (k h₁ _ so ?_);first
  | (simp;done)
  | (rcases hpl with rfl|⟨_,_,_,_,_,_,_,rfl⟩<;>simp)
theorem Lv{M:Model}{Q:Unit->Shared->Prop}(I:Inv X [] σ H s)(hk:X.stack=X.env::X.outer)(hf:X.env.frame=some X.env.locals)(fl:Fl X ca a x H s.heap)(k:∀h',Inv X [] σ H {s with heap:=h'}->FlN X ca a x H h'->Q () {s with heap:=h'}):wpAny M X.A (noteFrame (.ref a) X.env) Q E s:=by
 obtain⟨fp,ln,oe,vs,he,hc,hd,hsz,hv⟩:=fl;have hfr:X.A.frames=some (X.env::X.outer):=by rw[<-hk];exact I.ok.frames
 have hst:s.heap.FunFrames X.base (X.env::X.outer):=by rw[<-hk];exact I.stack
 have hfs:(X.env::X.outer).filterMap (·.frame)=X.env.locals::X.fs:=by rw[T5,hf];rfl
 have ha:a∉(X.env::X.outer).filterMap (·.frame):=by
  rw[hfs];intro z;rcases Uz.mp z with z|z
  ·exact fp.2.1 z
  ·exact fp.2.2.1 z
 -- an entry is laid over a heap that differs from s at ch alone
 have fin:∀(h0 h₁:Heap)(cells:Array Value)(ch:List Addr),(∀b∈ch,Ap X [] H b)->(∀b o,b∉ch->s.heap.get? b=some o->h0.get? b=some o)->h0.objs.size=s.heap.objs.size->h0.get? a=some oe->Heap.SlotsOnly ((X.env::X.outer).filterMap (·.frame)) h0 h₁->cells[3]?=some (rawInt X.env.locals)->Q () {s with heap:=(h₁.push {cls:=.type "traceback",dict:=none,data:=.fields cells}).update a (Obj.mapFields (·.setIfInBounds 1 (.ref h₁.objs.size)))}:=by
  intro h0 h₁ cells ch hch hk0 hz he0 so hcl;have e1:h₁.get? a=some oe:=(so.2.1 a ha).trans he0;obtain⟨u1,u2,u3⟩:=GE 1 (.ref h₁.objs.size) (Uc {cls:=.type "traceback",dict:=none,data:=.fields cells} e1) hd;have hTa:h₁.objs.size≠a:=Wf (Ul e1);have oth:∀b o,b≠a->h₁.get? b=some o->((h₁.push {cls:=.type "traceback",dict:=none,data:=.fields cells}).update a (Obj.mapFields (·.setIfInBounds 1 (.ref h₁.objs.size)))).get? b=some o:=λb o hb e=>
   (Tl _ _ (Ne.symm hb)).trans (Uc _ e)
  refine k _ (MQ (ch:=a::ch) I (λb hb=>?_) (λb o h1 h2 h3 e=>?_) λb o h1 e=>?_) ⟨fp,ln,_,_,h₁.objs.size,_,cells,u1,hc.map _,u2,by simp[hsz],hTa,?_,(Tl _ _ (Ne.symm hTa)).trans (Uk _ rfl),rfl,hcl⟩
  ·rcases Uz.mp hb with e|e
   ·rw[e];exact fp
   ·exact hch b e
  ·refine oth b o (λz=>h1 (by rw[z];exact Ux)) ?_;rw[so.2.1 b (by rw[hfs];intro z;rcases Uz.mp z with z|z;(· exact h2 z);exact h3 z)];exact hk0 b o (λz=>h1 (Uw _ z)) e
  ·obtain⟨sl,q⟩:=so.2.2 b o (hk0 b o (λz=>h1 (Uw _ z)) e);exact⟨sl,oth b _ (λz=>h1 (by rw[z];exact Ux)) q⟩
  ·refine Lu I (Heap.get?_none_of_le ?_) (I.hok.fresh ?_)<;>rw[so.1,hz]<;>exact Ug _
 unfold noteFrame;simp only[hf];rcases hv with hv|⟨T,oT,ts,hv,hTa,fT,hT,hdT,hs3,h3⟩
 ·refine Ua (UP he hd hv ?_);rw[Uf (by decide)];exact MR hfr hst hf he hd hsz ha λh₁ cells so hcl=>fin s.heap h₁ cells [] (by simp) (λ_ _ _ e=>e) rfl he so hcl
 ·refine Ua (UP he hd hv ?_);rw[Ud (show(Value.ref T != Value.none)=true from by simp)];rcases h3 with h3|h3
  ·refine Ua (UP hT hdT h3 ?_);rw[Uf (show ¬((Value.none==rawInt X.env.locals)=true) from by simp[rawInt])];refine Ua (TH hT hdT hs3 ?_);have oth:∀b o,b≠T->s.heap.get? b=some o->(s.heap.update T (Obj.mapFields (·.setIfInBounds 3 Value.none))).get? b=some o:=λb o hb e=>(Tl _ _ (Ne.symm hb)).trans e;have kp:∀b o,s.heap.get? b=some o->(∀vs,o.data≠.fields vs)->(s.heap.update T (Obj.mapFields (·.setIfInBounds 3 Value.none))).get? b=some o:=λb o e n=>oth b o (λz=>by rw[z,hT]at e;cases e;exact n _ hdT) e;refine MR (s:={s with heap:=s.heap.update T (Obj.mapFields (·.setIfInBounds 3 Value.none))}) hfr (hst.of_keeps λb o e n=>⟨o,kp b o e n,rfl⟩) hf (oth a oe (Ne.symm hTa) he) hd hsz ha λh₁ cells so hcl=>?_;exact fin _ h₁ cells [T] (λb hb=>by rw[Ur.mp hb];exact fT) (λb o hb e=>oth b o (λz=>hb (by simp[z])) e) (Heap.size_after_update ..) (oth a oe (Ne.symm hTa) he) so hcl
  ·refine Ua (UP hT hdT h3 ?_);rw[Ud (show(rawInt X.env.locals==rawInt X.env.locals)=true from by simp)];exact Ub (k s.heap I ⟨fp,ln,oe,vs,T,oT,ts,he,hc,hd,hv,hTa,fT,hT,hdT,h3⟩)
theorem Vq{M:Model}{A:Around}{Q:Unit->Shared->Prop}{fo:Option Addr}(I:Inv X [] σ H s)(fl:sB X ca a x H s.heap)(k:∀h' T oT ts oe vs,Inv X [] σ H {s with heap:=h'}->h'.get? a=some oe->XOb ca x oe->oe.data=.fields vs->vs[1]?=some (.ref T)->T≠a->Ap X [] H T->h'.get? T=some oT->oT.data=.fields ts->3<ts.size->ts[3]?=some (fo.elim Value.none λf=>rawInt f)->Q () {s with heap:=h'}):wpAny M A (setFlight (.ref a) fo) Q E s:=by
  obtain⟨fp,ln,oe,vs,T,oT,ts,he,hc,hd,hv,hTa,fT,hT,hdT,hs3⟩:=fl;unfold setFlight;refine Ua (UP he hd hv ?_);rw[Ud (show(Value.ref T != Value.none)=true from by simp)];have oth:∀b o,b≠T->s.heap.get? b=some o->(s.heap.update T (Obj.mapFields (·.setIfInBounds 3 (fo.elim Value.none λf=>rawInt f)))).get? b=some o:=λb o hb e=>(Tl _ _ (Ne.symm hb)).trans e;obtain⟨u1,u2,u3⟩:=GE 3 (fo.elim Value.none λf=>rawInt f) hT hdT;refine TH hT hdT hs3 (k _ T _ _ oe vs (MQ (ch:=[T]) I (λb hb=>by rw[Ur.mp hb];exact fT) (λb o h1 _ _ e=>oth b o (λz=>h1 (by simp[z])) e) λb o h1 e=>⟨o.slots,oth b o (λz=>h1 (by simp[z])) e⟩)
    (oth a oe (Ne.symm hTa) he) hc hd hv hTa fT u1 u2 (by simpa using hs3) (by simp[hs3]))
theorem DV(hk:X.stack=X.env::X.outer)(hf:X.env.frame=some X.env.locals)(pn:YD)(Φ:XS):PassesOwn (model X.prog X.w) X.A X.env (QI X ca pn Φ).xe:=by rintro v s ⟨a,x,σ,H,rfl,I,fl,q⟩;refine Lv (X:=FW X pn) I hk hf fl λh1 I1 f1=>?_;unfold cameBackBy;obtain⟨fp,ln,oe,vs,T,oT,ts,he,hc,hd,hv,hTa,fT,hT,hdT,h3⟩:=id f1;refine Ua (UP he hd hv ?_);rw[Uf (show ¬((Value.ref T==Value.none)=true) from by simp)];refine Vq (X:=FW X pn) (fo:=X.env.frame) I1 f1.t λh2 T oT ts oe vs I2 a1 a2 a3 a4 a5 a6 a7 a8 a9 a10=>?_;rw[hf]at a10;exact⟨a,x,σ,H,rfl,I2,FlN.fl ⟨fp,ln,oe,vs,T,oT,ts,a1,a2,a3,a4,a5,a6,a7,a8,a10⟩,q⟩
end
def Ms(P:Program)(w:World)(ca:Nat->Addr):eJ:=λouter H s E v s'=>∃(a:Addr)(x:Xc)(H':Hp),v=.ref a/\s'.os=s.os/\AllBare s'.gens/\Un (PM outer) [] H H' s.heap s'.heap/\HOk P w H' s'.heap/\x.2=none/\(∃oe vs T oT ts,s.heap.get? a=none/\H' a=none/\s'.heap.get? a=some oe/\XOb ca x oe/\oe.data=.fields vs/\vs[1]?=some (.ref T)/\T≠a/\s.heap.get? T=none/\H' T=none/\s'.heap.get? T=some oT/\oT.data=.fields ts/\ts[3]?=some .none)/\E (.int x.1 0) x.2 H'
section
variable{P:Program}{w:World}{K:Frag}{mg:Vb}{base:Heap}{ca:Nat->Addr}
theorem DW{N:List Str}{qual:Str}{scope:Scope}{f:Addr}{cd:Value}{A:Around}{outer:List Env}{s s':Shared}{H:Hp}{E:XK}{v:Value}(h:XE (FW (E2 (Ms P w ca) P w K mg base N qual scope f cd A outer s H E) []) ca (λx _ H'=>E (.int x.1 0) x.2 H') v s'):(E2 (Ms P w ca) P w K mg base N qual scope f cd A outer s H E).xe v s':=by
 obtain⟨a,x,σ,H',rfl,I,fl,q⟩:=h;show wpAny _ _ (leaving _ (.ref a)) _ _ s';unfold leaving;refine Ua (Lv I rfl rfl fl λh1 I1 f1=>?_);obtain⟨fp,ln,_⟩:=id f1;refine Vq (fo:=none) I1 f1.t λh2 T oT ts oe vs I2 a1 a2 a3 a4 a5 a6 a7 a8 a9 a10=>?_;refine⟨a,x,H',rfl,I2.os,I2.bare,I2.base,I2.hok,ln,⟨oe,vs,T,oT,ts,?_,fp.1,a1,a2,a3,a4,a5,?_,a6.1,a7,a8,a10⟩,q⟩
 ·rcases fp.2.2.2.1 with z|z
  ·exact absurd (show a∈([]:List Addr) from z) (by simp)
  ·exact z
 ·rcases a6.2.2.2.1 with z|z
  ·exact absurd (show T∈([]:List Addr) from z) (by simp)
  ·exact z
end
section
variable{X:Cx}{ca:Nat->Addr}{pn:YD}{Φ:XS}
theorem P6(I:Inv (QI X ca pn Φ) pins σ H s)(h:Ms X.prog X.w ca X.stack H s (λc l H'=>∀x:Xc,c=.int x.1 0->l=x.2->Φ x σ H') v s'):(QI X ca pn Φ).xe v s':=by obtain⟨a,x,H',rfl,os,bare,un,hok,ln,⟨oe,vs,T,oT,ts,e1,e2,e3,e4,e5,e6,e7,e8,e9,e10,e11,e12⟩,q⟩:=h;have I0:Inv (FW X pn) [] σ H s:=(DU I).pins_of λp hp=>absurd hp (by simp);have I1:Inv (FW X pn) [] σ H' s':=Inv.call' (ch:=[]) I0 os un hok bare λb z=>absurd z (by simp);refine⟨a,x,σ,H',rfl,I1,⟨Lu I0 e1 e2,ln,oe,vs,e3,e4,e5,(Tf.mp e6).1,.inr ⟨T,oT,ts,e6,e7,Lu I0 e8 e9,e10,e11,(Tf.mp e12).1,.inl e12⟩⟩,q x rfl rfl⟩
end
section
variable{X:Cx}{ca:Nat->Addr}{a b c e:Expr}{st:Stmt}{sts rest:List Stmt}{ma mb me:ME}{tc:MT}{m m':MS}{pos:Pos}
theorem QQ:Cq ca X [] QV:=λpn Φ=>MN (PR (X:=QI X ca pn Φ)) λ_ σ H ⟨_,_,μ,R,p⟩=>p σ H μ .refl R
theorem lS{K:Frag}{Φ:XS}(E:Ends)(σ:L2.St)(H:Hp)(h:oO K ca Φ (Qr m m') E σ H):pB (oO K ca Φ m) (oO K ca Φ m') E σ H:=by
 obtain⟨σ3,g,μ,R,p⟩:=h;refine⟨σ3,g,μ,R,?_⟩;unfold Qr at p;cases hm:m σ3 g with
 |nx σ1 g1 =>rw[hm]at p;exact λσ' H' μ' e' R'=>⟨σ1,g1,μ',R',PostS.go e' p⟩
 |rt d g1=>rw[hm]at p;exact p|bk _ _=>rw[hm]at p;exact p|ct _ _=>rw[hm]at p;exact p|raise _ _ _=>rw[hm]at p;exact p|stuck=>rw[hm]at p;exact p
theorem Qf(h1:HH ca X st m)(h2:Cq ca X rest m'):Cq ca X (st::rest) (Qr m m'):=λpn Φ=>MN (Dm (X:=QI X ca pn Φ) (h1 pn Φ) (h2 pn Φ)) lS
theorem Qj(h1:HH ca X st m):Cq ca X [st] m:=λpn Φ=>dQ (X:=QI X ca pn Φ) (h1 pn Φ)
theorem Ed:HH ca X st Kn:=λpn Φ=>Z0 (Do (X:=QI X ca pn Φ)) λ_ _ _ ⟨_,_,_,_,p⟩=>p
theorem Zq(he:QD ca X e me)(hs:swapsWith e none pos.line X.env=pure false:=by rfl):HH ca X (.Expr e pos) (Q2 me):=
 λpn Φ=>Z0 (dR (X:=QI X ca pn Φ) (he pn Φ) hs) λE σ H ⟨σ3,g,μ,R,p⟩=>⟨σ3,g,μ,R,by
  unfold Q2 at p;cases hm:me σ3 g with
  |ok d g1=>rw[hm]at p;exact λv H' μ' e' r' _=>p σ H' μ' e' (R.go e' r')
  |raise _ _=>rw[hm]at p;exact RaP.stmt R p|stuck=>rw[hm]at p;exact p⟩
theorem QE(he:QD ca X e me):HH ca X (.Return (some e) pos) (QM me):=
 λpn Φ=>Z0 (kJ (X:=QI X ca pn Φ) (he pn Φ)) λE σ H ⟨σ3,g,μ,R,p⟩=>⟨σ3,g,μ,R,by
  unfold QM at p;cases hm:me σ3 g with
  |ok d g1=>rw[hm]at p;exact p|raise _ _=>rw[hm]at p;exact RaP.stmt R p|stuck=>rw[hm]at p;exact p⟩
theorem lT:HH ca X (.Return none pos) DL:=λpn Φ=>Z0 (dS (X:=QI X ca pn Φ)) λ_ σ H ⟨_,_,μ,R,p⟩=>p .non H μ .refl R.g .non
theorem ZF(hc:Gg ca X c tc)(ha:Cq ca X sa m)(hb:Cq ca X sb m'):HH ca X (.If c sa sb pos) (YV tc m m'):=
 λpn Φ=>Z0 (pE (X:=QI X ca pn Φ) (hc pn Φ) (ha pn Φ) (hb pn Φ)) λE σ H ⟨σ3,g,μ,R,p⟩=>⟨σ3,g,μ,R,by
  unfold YV at p;cases hm:tc σ3 g with
  |ok d g1=>
   rw[hm]at p;cases d with
   |true=>exact λH' μ' e' r'=>by show(if true=true then _ else _);rw[Ud rfl];exact⟨σ3,g1,μ',R.go e' r',PostS.go e' (by simpa using p)⟩
   |false=>exact λH' μ' e' r'=>by show(if false=true then _ else _);rw[Uf Ue];exact⟨σ3,g1,μ',R.go e' r',PostS.go e' (by simpa using p)⟩
  |raise _ _=>rw[hm]at p;exact RaP.stmt R p|stuck=>rw[hm]at p;exact p⟩
def vP(K:Frag)(ca:Nat->Addr)(f:MG):TG:=λv σ H Q=>∃σ3 g μ d σ3',Rep K ca μ σ3 g σ H/\Den K μ H v d/\f d σ3=some σ3'/\∀σ',Rep K ca μ σ3' g σ' H->Q σ' H
def jH(ca:Nat->Addr)(X:Cx)(tg:Expr)(f:MG):Prop:=∀pn Φ,PG (QI X ca pn Φ) tg (vP X.K ca f)
theorem P7(h:PG X tg t)(i:∀v σ H Q,t' v σ H Q->t v σ H Q):PG X tg t':=λpins s σ H x u Q I r q=>h pins s σ H x u Q I r (i x σ H Q q)
theorem Rep.set{K:Frag}{μ:List Addr}{σ3:S3}{g:G}{σ:L2.St}{H:Hp}{v:V}{d:D}(R:Rep K ca μ σ3 g σ H)(h:Den K μ H v d)(i:Nat):Rep K ca μ (σ3.set i (some d)) g (σ.set i (some v)) H:=by
 refine⟨R.g,by rw[UZ,UZ,R.len],λj x hx=>?_⟩;by_cases e:j=i
 ·subst e;have hl:j<σ3.length:=by have:=(Uq.mp hx).1;simpa using this
  rw[UW hl]at hx;cases hx;exact⟨v,by rw[UW (by rw[R.len];exact hl)],h⟩
 ·rw[Ui (Ne.symm e)]at hx;obtain⟨w,h1,h2⟩:=R.st j x hx;exact⟨w,by rw[Ui (Ne.symm e)];exact h1,h2⟩
theorem QW(i:Nat){x:Str}(hN:X.N.Nodup)(hi:X.N[i]?=some x:=by rfl)(hx:Loc X.env.scope x:=by first|exact Or.inl rfl|exact Or.inr rfl)(hf:X.fn x=true\/X.env.scope.names.lookup x=some .local:=by first|exact .inl rfl|exact .inr rfl):jH ca X (.Name x pos) (Qn i):=
 λpn Φ=>P7 (dW (X:=QI X ca pn Φ) hN hi hx hf) λv σ H Q hQ=>by obtain⟨σ3,g,μ,d,σ3',R,q,e,k⟩:=hQ;cases e;exact k _ (R.set q i)
def uC(K:Frag)(ca:Nat->Addr)(fs:List MG):iQ:=λvs σ H Q=>∃σ3 g μ ds σ3',Rep K ca μ σ3 g σ H/\Dens K μ H vs ds/\IB fs ds σ3=some σ3'/\∀σ',Rep K ca μ σ3' g σ' H->Q σ' H
def eZ(ca:Nat->Addr)(X:Cx)(tgs:List Expr)(fs:List MG):Prop:=∀pn Φ,kL (QI X ca pn Φ) tgs (uC X.K ca fs)
theorem MU(h:kL X tg t)(i:∀v σ H Q,t' v σ H Q->t v σ H Q):kL X tg t':=λpins s σ H xs us Q I r q=>h pins s σ H xs us Q I r (i xs σ H Q q)
theorem Ku:eZ ca X [] []:=λpn Φ=>MU (dX (X:=QI X ca pn Φ)) λvs σ H Q hQ=>by
 obtain⟨σ3,g,μ,ds,σ3',R,q,e,k⟩:=hQ;cases q with
 |nil=>cases e;exact⟨rfl,k _ R⟩|cons _ _=>cases e
theorem ZG{es:List Expr}{f:MG}{fs:List MG}(h1:jH ca X e f)(h2:eZ ca X es fs)(hs:(assignEach (e::es) X.env).map (·.2)=assign e X.env::(assignEach es X.env).map (·.2):=by rfl):eZ ca X (e::es) (f::fs):=
 λpn Φ=>MU (Dp (X:=QI X ca pn Φ) (h1 pn Φ) (h2 pn Φ) hs) λvs σ H Q hQ=>by
  obtain⟨σ3,g,μ,ds,σ3',R,q,e,k⟩:=hQ;cases q with
  |nil=>cases e|@cons v d vs ds q1 q2=>
   unfold IB at e;cases hf:f d σ3 with
   |none=>rw[hf]at e;cases e|some σ4 =>rw[hf]at e;exact⟨v,vs,rfl,σ3,g,μ,d,σ4,R,q1,hf,λσ' R'=>⟨σ4,g,μ,ds,σ3',R',q2,e,k⟩⟩
theorem IE:∀{fs:List MG}{ds:List D}{σ σ':S3},IB fs ds σ=some σ'->ds.length=fs.length
 |[],[],_,_,_=>rfl|[],_::_,_,_,h=>by cases h
 |_::_,[],_,_,h=>by cases h
 |f::fs,d::ds,σ,σ',h=>by
  unfold IB at h;cases hf:f d σ with
  |none=>rw[hf]at h;cases h|some σ4 =>rw[hf]at h;rw[UA,UA,IE (fs:=fs) h]
theorem Kv{es:List Expr}{k:Nat}{fs:List MG}(hc:X.calm=true)(h:eZ ca X es fs)(hn:(assignEach es X.env).length=fs.length:=by rfl)(hst:(assignEach es X.env).findIdx? (·.1)=none:=by rfl):jH ca X (.Tuple es k pos) (Jp fs):=
 λpn Φ=>P7 (kN (X:=QI X ca pn Φ) hc (h pn Φ) hn hst) λv σ H Q hQ=>by
  obtain⟨σ3,g,μ,d,σ3',R,q,e,kk⟩:=hQ;cases q with
  |@tup a vs ds ht hs =>exact⟨a,vs,rfl,ht,hs.length.trans (IE e),σ3,g,μ,ds,σ3',R,hs,e,kk⟩|_=>cases e
theorem lU{K:Frag}{Φ:XS}{f:MG}(E:Ends)(σ:L2.St)(H:Hp)(h:oO K ca Φ (QK f me) E σ H):kO (up K ca Φ me) (vP K ca f) E σ H:=by
 obtain⟨σ3,g,μ,R,p⟩:=h;refine⟨σ3,g,μ,R,?_⟩;unfold QK at p;cases hm:me σ3 g with
 |ok d g1=>
  rw[hm]at p;dsimp only at p;intro v H' μ' e' r' q';cases hf:f d σ3 with
  |none=>rw[hf]at p;exact p.elim|some σ4 =>rw[hf]at p;exact⟨σ3,g1,μ',d,σ4,R.go e' r',q',hf,λσ' R'=>p σ' H' μ' e' R'⟩
 |raise _ _=>rw[hm]at p;exact RaP.stmt R p|stuck=>rw[hm]at p;exact p
theorem qD{tg:Expr}{f:MG}(he:QD ca X e me)(hg:jH ca X tg f)(hs:swapsWithSole [tg] e pos.line X.env=pure false:=by rfl)(hw:swappedStores [tg] e X.env=pure none:=by rfl)(h1:(assignEach [tg] X.env).map (·.2)=[assign tg X.env]:=by rfl):HH ca X (.Assign [tg] e pos) (QK f me):=λpn Φ=>Z0 (Ld (X:=QI X ca pn Φ) (he pn Φ) (hg pn Φ) hs hw h1) lU
theorem qE(i:Nat){x:Str}{pos':Pos}(hN:X.N.Nodup)(he:QD ca X e me)(hi:X.N[i]?=some x:=by rfl)(hx:Loc X.env.scope x:=by first|exact Or.inl rfl|exact Or.inr rfl)(hs:swapsWith e (some (.Name x pos')) pos.line X.env=pure false:=by rfl)(hf:X.fn x=true\/X.env.scope.names.lookup x=some .local:=by first|exact .inl rfl|exact .inr rfl):
  HH ca X (.Assign [.Name x pos'] e pos) (QK (Qn i) me):=
 λpn Φ=>Z0 (kP (X:=QI X ca pn Φ) hN hi hx (he pn Φ) hs hf) λE σ H h=>by
  obtain⟨σ3,g,μ,R,p⟩:=h;refine⟨σ3,g,μ,R,?_⟩;unfold QK Qn at p;cases hm:me σ3 g with
  |ok d g1 =>rw[hm]at p;exact λv H' μ' e' r' q'=>p _ H' μ' e' ((R.go e' r').set q' i)
  |raise _ _=>rw[hm]at p;exact RaP.stmt R p|stuck=>rw[hm]at p;exact p
structure FldOk(K:Frag)(ca:Nat->Addr)(cs:List Nat)(f:Str):Prop where
 cl:∀c∈cs,Cls K (ca c)
 no:∀c∈cs,NoAttr K (ca c) f
theorem FRel.look{K:Frag}{μ:List Addr}{H:Hp}{f:Str}{d:D}:∀{fv:List (Str×V)}{fs:List (Str×D)},FRel K μ H fv fs->fs.lookup f=some d->∃v,fv.lookup f=some v/\Den K μ H v d
 |_,_,.nil,h=>by cases h
 | (k,v)::r,(k',d')::r',.cons ⟨e,q⟩ t,h=>by
  have e:k=k':=e;subst e;cases hb:f==k with
  |true =>simp only[List.lookup,hb]at h ⊢;cases h;exact⟨v,rfl,q⟩|false =>simp only[List.lookup,hb]at h ⊢;exact FRel.look t h
theorem FRel.no{K:Frag}{μ:List Addr}{H:Hp}{f:Str}:∀{fv:List (Str×V)}{fs:List (Str×D)},FRel K μ H fv fs->fs.lookup f=Option.none->fv.lookup f=Option.none
 |_,_,.nil,_=>rfl| (k,v)::r,(k',d')::r',.cons ⟨e,q⟩ t,h=>by
  have e:k=k':=e;subst e;cases hb:f==k with
  |true=>simp only[List.lookup,hb]at h;cases h|false =>simp only[List.lookup,hb]at h ⊢;exact FRel.no t h
theorem FRel.put{K:Frag}{μ:List Addr}{H:Hp}{f:Str}{v:V}{d:D}(q:Den K μ H v d):∀{fv:List (Str×V)}{fs:List (Str×D)},FRel K μ H fv fs->FRel K μ H (VD f v fv) (HD f d fs)
 |_,_,.nil=>.cons ⟨rfl,q⟩ .nil| (k,w)::r,(k',d')::r',.cons ⟨e,z⟩ t=>by
  have e:k=k':=e;subst e;show FRel K μ H (if k=f then (k,v)::r else (k,w)::VD f v r) (if k=f then (k,d)::r' else (k,d')::HD f d r');by_cases h:k=f
  ·rw[Ud h,Ud h];exact .cons ⟨rfl,q⟩ t
  ·rw[Uf h,Uf h];exact .cons ⟨rfl,z⟩ (FRel.put q t)
theorem QH{cs:List Nat}{f:Str}(he:QD ca X e me)(ok:FldOk X.K ca cs f)(hb:attributeBase e f X.env (eval e X.env)=eval e X.env:=by rfl):QD ca X (.Attribute e f pos) (Qq cs f me):=
 λpn Φ=>Zb (lA (X:=QI X ca pn Φ) (he pn Φ) hb) λσ H Q ⟨σ3,g,μ,R,p⟩=>Zg (YZ R p) λx H1 hQ=>by
  obtain⟨d,g1,μ1,e1,R1,q1,p1⟩:=hQ;cases q1 with
  |@ref n a hn=>
   dsimp only at p1;cases hg:g1[n]? with
   |none=>rw[hg]at p1;exact p1.elim|some o=>
    rw[hg]at p1;obtain⟨a',ha',ob⟩:=R1.g.addr hg;rw[hn]at ha';cases ha';cases o with
    |ins c fs=>
     dsimp only at p1;obtain⟨dx,fv,hH,fr⟩:=ob;by_cases hc:c∈cs
     ·rw[Ud hc]at p1;cases hl:fs.lookup f with
      |none=>rw[hl]at p1;exact p1.elim|some y =>rw[hl]at p1;obtain⟨v,h1,h2⟩:=fr.look hl;exact⟨a,ca c,dx,fv,v,rfl,hH,ok.cl c hc,ok.no c hc,h1,p1 v H1 μ1 .refl R1.g h2⟩
     ·rw[Uf hc]at p1;exact p1.elim
    |_=>exact p1.elim
  |_=>exact p1.elim
theorem Zh(ho:QD ca X o mo)(he:QD ca X e me)(ok:FldOk X.K ca cs f)(hs:swapsWith e (some (.Attribute o f pos')) pos.line X.env=pure false:=by rfl):
  HH ca X (.Assign [.Attribute o f pos'] e pos) (QJ cs f mo me):=
 λpn Φ=>Z0 (lC (X:=QI X ca pn Φ) (ho pn Φ) (he pn Φ) hs) λE σ H ⟨σ3,g,μ,R,p⟩=>⟨σ3,g,μ,R,by
  unfold QJ at p;cases hm:me σ3 g with
  |ok y g1=>
   rw[hm]at p;dsimp only at p;intro vy H1 μ1 e1 r1 q1;refine⟨σ3,g1,μ1,R.go e1 r1,?_⟩;cases hm2:mo σ3 g1 with
   |ok d g2=>
    rw[hm2]at p;intro vx H2 μ2 e2 r2 q2;cases q2 with
    |@ref n a hn=>
     dsimp only at p;cases hg:g2[n]? with
     |none=>rw[hg]at p;exact p.elim|some ob=>
      rw[hg]at p;obtain⟨a',ha',orp⟩:=r2.addr hg;rw[hn]at ha';cases ha';cases ob with
      |ins c fs=>
       dsimp only at p;obtain⟨dx,fv,hH,fr⟩:=orp;by_cases hc:c∈cs/\fs.length<100
       ·rw[Ud hc]at p;have fl:fv.length=fs.length:=Paired.length fr;refine⟨a,ca c,dx,fv,rfl,hH,ok.cl c hc.1,ok.no c hc.1,by omega,?_⟩;have ex:Ext X.K μ2 H2 μ2 (Zi H2 a (.ins (ca c) dx (VD f vy fv))):=ZZ hH (by intro _ z;cases z) (by intro _ _ z;cases z);refine p σ _ μ2 ((e1.trans e2).trans ex) ((R.go (e1.trans e2) r2).go ex ?_);exact r2.set hn hH (by intro _ z;cases z) (by intro _ _ z;cases z) ⟨dx,_,Qy,FRel.put ((q1.mono e2).mono ex) (fr.mono ex)⟩
       ·rw[Uf hc]at p;exact p.elim
      |_=>exact p.elim
    |_=>exact p.elim
   |raise _ _=>rw[hm2]at p;exact(RaP.stmt R p).go e1|stuck=>rw[hm2]at p;exact p
  |raise _ _=>rw[hm]at p;exact RaP.stmt R p|stuck=>rw[hm]at p;exact p⟩
theorem fA{o i:Expr}{mo mi:ME}{pos':Pos}(ho:QD ca X o mo)(hi:QD ca X i mi)(he:QD ca X e me)(hs:swapsWithSole [.Subscript o i pos'] e pos.line X.env=pure false:=by rfl)(hw:swappedStores [.Subscript o i pos'] e X.env=pure none:=by rfl)(h1:(assignEach [.Subscript o i pos'] X.env).map (·.2)=[assign (.Subscript o i pos') X.env]:=by rfl)(ha:∀v,assign (.Subscript o i pos') X.env v=(do
   let ov <-holding [v] (eval o X.env)
   let iv <-holding [v,ov] (eval i X.env)
   standAt pos'
   holding [v,ov,iv] (setItem ov iv v)
   release [v,ov,iv] []):=by intro _;rfl):HH ca X (.Assign [.Subscript o i pos'] e pos) (GB mo mi me):=
 λpn Φ=>Z0 (Ld (X:=QI X ca pn Φ) (he pn Φ) (Ot (X:=QI X ca pn Φ) (ho pn Φ) (hi pn Φ) Dz ha) hs hw h1) λE σ H ⟨σ3,g,μ,R,p⟩=>⟨σ3,g,μ,R,by
  unfold GB at p;cases hm:me σ3 g with
  |ok y g1=>
   rw[hm]at p;dsimp only at p;intro vy H1 μ1 e1 r1 q1;refine⟨σ3,g1,μ1,R.go e1 r1,?_⟩;cases hm2:mo σ3 g1 with
   |ok d g2=>
    rw[hm2]at p;intro vx H2 μ2 e2 r2 q2;cases q2 with
    |@ref n a hn=>
     dsimp only at p;refine⟨σ3,g2,μ2,R.go (e1.trans e2) r2,?_⟩;cases hm3:mi σ3 g2 with
     |ok di g3=>
      rw[hm3]at p;intro vi H3 μ3 e3 r3 q3;cases q3 with
      |int k=>
       dsimp only at p;cases hg:g3[n]? with
       |none=>rw[hg]at p;exact p.elim|some ob=>
        rw[hg]at p;obtain⟨a',ha',orp⟩:=r3.addr hg;rw[e3.at hn]at ha';cases ha';cases ob with
        |lst ds=>
         dsimp only at p;obtain⟨vs,hH,q⟩:=orp;cases hj:An ds.length k with
         |none=>rw[hj]at p;exact p.elim|some j =>rw[hj]at p;have ex:Ext X.K μ3 H3 μ3 (Zi H3 a (.lst (vs.set j vy))):=ZZ hH (by intro _ z;cases z) (by intro _ _ z;cases z);refine⟨a,vs,k,j,rfl,rfl,hH,by rw[q.length];exact hj,?_⟩;refine p σ _ μ3 (((e1.trans e2).trans e3).trans ex) ((R.go ((e1.trans e2).trans e3) r3).go ex ?_);exact r3.set (e3.at hn) hH (by intro _ z;cases z) (by intro _ _ z;cases z) ⟨_,Qy,Dens.set (((q1.mono e2).mono e3).mono ex) j (q.mono ex)⟩
        |_=>exact p.elim
      |_=>exact p.elim
     |raise _ _=>rw[hm3]at p;exact(RaP.stmt R p).go (e1.trans e2)|stuck=>rw[hm3]at p;exact p
    |_=>exact p.elim
   |raise _ _=>rw[hm2]at p;exact(RaP.stmt R p).go e1|stuck=>rw[hm2]at p;exact p
  |raise _ _=>rw[hm]at p;exact RaP.stmt R p|stuck=>rw[hm]at p;exact p⟩
def As(K:Frag)(ca:Nat->Addr)(μ0:List Addr)(H0:Hp)(src:Src)(J:It):Prop:=
 ∀(i:Nat)(H:Hp)(μ:List Addr)(g:G),Ext K μ0 H0 μ H->GRep K ca μ H g->match src.at' g i with
  |some (some d)=>J.go i H/\∀x H',J.yld i H x H'->Ext K μ H μ H'/\GRep K ca μ H' g/\Den K μ H' x d|some none=>J.stop i H|none=>True
def wI(K:Frag)(ca:Nat->Addr)(Φ:XS)(m:MI):TI:=λσ H R=>∃σ3 g μ,Rep K ca μ σ3 g σ H/\match m σ3 g with
 |.ok src g'=>∀J H' μ',Ext K μ H μ' H'->GRep K ca μ' H' g'->As K ca μ' H' src J->R J H'|.raise x g'=>RaP K ca Φ σ H μ x g'|.stuck=>False
def Dj(ca:Nat->Addr)(X:Cx)(tg iter:Expr)(m:MI):Prop:=∀pn Φ,PI (QI X ca pn Φ) tg iter (wI X.K ca Φ m)
theorem Jr(hc:X.calm=true)(hi:Dj ca X tg iter mi)(hg:jH ca X tg f)(hb:Cq ca X body m)(hs:∀x,foldedSetIterable iter X.env x=pure x:=by intro _;rfl)(hk:X.stack=X.env::X.outer:=by rfl)(hf:X.env.frame=some X.env.locals:=by rfl):
  HH ca X (.For tg iter body [] pos) (Jn mi f m):=
 λpn Φ=>Z0 (kS (X:=QI X ca pn Φ) (DV hk hf pn Φ) hc (hi pn Φ) (hg pn Φ) (hb pn Φ) hs) λE σ H ⟨σ3,g,μ,R,p⟩=>⟨σ3,g,μ,R,by
  unfold Jn at p;cases hm:mi σ3 g with
  |ok src g'=>
   rw[hm]at p;dsimp only at p ⊢;intro J H' μ' e' r' sim;refine⟨λi n σ1 H1=>∃σ4 g1 μ1,Ext X.K μ' H' μ1 H1/\Rep X.K ca μ1 σ4 g1 σ1 H1/\PostS X.K ca Φ E H1 μ1 (VE src f m n i σ4 g1),⟨src.top+1,σ3,g',μ',.refl,R.go e' r',p.go e'⟩,?_⟩;rintro i n σ1 H1 ⟨σ4,g1,μ1,e1,R1,p1⟩;have s1:=sim i H1 μ1 g1 e1 R1.g;cases n with
   |zero=>exact p1.elim|succ n=>
    unfold VE at p1;cases ha:src.at' g1 i with
    |none=>rw[ha]at p1;exact p1.elim|some od=>
     rw[ha]at p1 s1;cases od with
     |none=>exact .inl ⟨s1,p1 σ1 H1 μ1 .refl R1⟩|some d=>
      dsimp only at p1 s1;obtain⟨go,yl⟩:=s1;refine .inr ⟨go,λσ2 H2=>∃σ5 g2 μ2,Ext X.K μ' H' μ2 H2/\Rep X.K ca μ2 σ5 g2 σ2 H2/\PostS X.K ca Φ E H2 μ2 (VE src f m n (i+1) σ5 g2),λσ2 H2 z=>⟨n,TB n,z⟩,λx H2 y=>?_⟩;obtain⟨e2,r2,q2⟩:=yl x H2 y;cases hf:f d σ4 with
      |none=>rw[hf]at p1;exact p1.elim|some σ5=>
       rw[hf]at p1;dsimp only at p1;refine⟨σ4,g1,μ1,d,σ5,R1.go e2 r2,q2,hf,λσ6 R6=>⟨σ5,g1,μ1,R6,?_⟩⟩;cases hb:m σ5 g1 with
       |nx σ7 g7 =>rw[hb]at p1;exact λσ' H3 μ3 e3 R3=>⟨σ7,g7,μ3,(e1.trans e2).trans e3,R3,PostS.go (e2.trans e3) p1⟩
       |ct σ7 g7 =>rw[hb]at p1;exact λσ' H3 μ3 e3 R3=>⟨σ7,g7,μ3,(e1.trans e2).trans e3,R3,PostS.go (e2.trans e3) p1⟩
       |bk σ7 g7 =>rw[hb]at p1;exact λσ' H3 μ3 e3 R3=>p1 σ' H3 μ3 (e2.trans e3) R3
       |rt d7 g7 =>rw[hb]at p1;exact λv H3 μ3 e3 r3 q3=>p1 v H3 μ3 (e2.trans e3) r3 q3
       |raise _ _ _ =>rw[hb]at p1;exact λσ' H3 μ3 e3 R3=>p1 σ' H3 μ3 (e2.trans e3) R3
       |stuck=>rw[hb]at p1;exact p1
  |raise _ _=>rw[hm]at p;exact RaP.stmt R p|stuck=>rw[hm]at p;exact p⟩
theorem Lw(hc:Gg ca X c tc)(hb:Cq ca X body m)(hk:X.stack=X.env::X.outer:=by rfl)(hf:X.env.frame=some X.env.locals:=by rfl):HH ca X (.While c body [] pos) (Kp tc m):=
 λpn Φ=>Z0 (Dq (X:=QI X ca pn Φ) (DV hk hf pn Φ) (hc pn Φ) (hb pn Φ)) λE σ H hQ=>by
  obtain⟨σ3,g,μ,R,p⟩:=hQ;unfold Kp at p;by_cases hh:∃f,Zo tc m f σ3 g≠.stuck
  ·rw[dif_pos hh]at p;generalize hh.choose=k at p;refine⟨λn σ1 H1=>∃σ4 g1 μ1,Ext X.K μ H μ1 H1/\Rep X.K ca μ1 σ4 g1 σ1 H1/\PostS X.K ca Φ E H1 μ1 (Zo tc m n σ4 g1),⟨k,σ3,g,μ,.refl,R,p⟩,?_⟩;rintro n σ1 H1 ⟨σ4,g1,μ1,e1,R1,p1⟩;cases n with
   |zero=>exact p1.elim|succ n=>
    unfold Zo at p1;refine⟨σ4,g1,μ1,R1,?_⟩;cases ht:tc σ4 g1 with
    |ok t g2=>
     rw[ht]at p1;cases t with
     |true=>
      dsimp only at p1;intro H2 μ2 e2 r2;rw[Ud rfl];refine⟨λσ2 H3=>∃σ5 g3 μ3,Ext X.K μ H μ3 H3/\Rep X.K ca μ3 σ5 g3 σ2 H3/\PostS X.K ca Φ E H3 μ3 (Zo tc m n σ5 g3),λσ2 H3 z=>⟨n,TB n,z⟩,σ4,g2,μ2,R1.go e2 r2,?_⟩;cases hb:m σ4 g2 with
      |nx σ7 g7 =>rw[hb]at p1;exact λσ' H3 μ3 e3 R3=>⟨σ7,g7,μ3,(e1.trans e2).trans e3,R3,PostS.go (e2.trans e3) p1⟩
      |ct σ7 g7 =>rw[hb]at p1;exact λσ' H3 μ3 e3 R3=>⟨σ7,g7,μ3,(e1.trans e2).trans e3,R3,PostS.go (e2.trans e3) p1⟩
      |bk σ7 g7 =>rw[hb]at p1;exact λσ' H3 μ3 e3 R3=>p1 σ' H3 μ3 (e2.trans e3) R3
      |rt d7 g7 =>rw[hb]at p1;exact λv H3 μ3 e3 r3 q3=>p1 v H3 μ3 (e2.trans e3) r3 q3
      |raise _ _ _ =>rw[hb]at p1;exact λσ' H3 μ3 e3 R3=>p1 σ' H3 μ3 (e2.trans e3) R3
      |stuck=>rw[hb]at p1;exact p1
     |false =>intro H2 μ2 e2 r2;rw[Uf Ue];exact p1 σ1 H2 μ2 e2 (R1.go e2 r2)
    |raise _ _=>rw[ht]at p1;exact RaP.stmt R1 p1|stuck=>rw[ht]at p1;exact p1
  ·rw[dif_neg hh]at p;exact p.elim
end
def OK(K:Frag)(ca:Nat->Addr)(n:Nat)(F:MF):Sp:=λvs H Q E=>vs.length=n/\∃ds g μ,GRep K ca μ H g/\Dens K μ H vs ds/\match F ds g with
 |.ok d g'=>∀v H' μ',Ext K μ H μ' H'->GRep K ca μ' H' g'->Den K μ' H' v d->Q v H'|.raise x g'=>∀H' μ',Ext K μ H μ' H'->GRep K ca μ' H' g'->E (.int x.1 0) x.2 H'|.stuck=>False
theorem IF{K:Frag}{ca:Nat->Addr}{μ:List Addr}{H:Hp}{g:G}{vs:List V}{ds:List D}(N:List Str)(r:GRep K ca μ H g)(q:Dens K μ H vs ds):Rep K ca μ (ds.map some++List.replicate (N.length-vs.length) none) g (L2.start N vs) H:=by
 unfold L2.start;refine⟨r,?_,λi d h=>?_⟩
 ·rw[Um,Um,Uh,Uh,q.length,U1,U1]
 ·by_cases hi:i<ds.length
  ·rw[Uj (by simpa using hi),Uy]at h;cases hd:ds[i]? with
   |none=>rw[hd]at h;cases h|some d' =>rw[hd]at h;cases h;obtain⟨v,h1,h2⟩:=q.get hd;refine⟨v,?_,h2⟩;rw[Uj (by simpa[q.length]using hi),Uy,h1];rfl
  ·rw[UT (by simpa using hi),Ru]at h;split at h<;>cases h
structure FnH(P:Program)(w:World)(K:Frag)(mg:Vb)(base:Heap)(ca:Nat->Addr)(x:Str)(k n:Nat)(F:MF):Prop where
 ex:∃(f:Addr)(fd:FuncData)(ps:List Str),FnOk P w K mg base (Ms P w ca) k f fd ps (OK K ca n F)/\mg x=some (.ref f)/\keepIn K (.ref f)=true/\Binds K fd ps []
 st:∀ds g,ds.length≠n->F ds g=.stuck
structure MtH(P:Program)(w:World)(K:Frag)(mg:Vb)(base:Heap)(ca:Nat->Addr)(c:Nat)(x:Str)(k n:Nat)(F:MF):Prop where
 ex:∃(f:Addr)(fd:FuncData)(ps:List Str),FnOk P w K mg base (Ms P w ca) k f fd ps (OK K ca n F)/\Meth K (ca c) x f/\Cls K (ca c)/\Binds K fd ps []
 st:∀ds g,ds.length≠n->F ds g=.stuck
structure MkH(P:Program)(w:World)(K:Frag)(mg:Vb)(base:Heap)(ca:Nat->Addr)(c:Nat)(x:Str)(k n:Nat)(F:MF):Prop where
 ex:∃(f:Addr)(fd:FuncData)(ps:List Str),FnOk P w K mg base (Ms P w ca) k f fd ps (OK K ca n F)/\Mk K (ca c) f/\mg x=some (.ref (ca c))/\Binds K fd ps []
 st:∀ds g,ds.length≠n->F ds g=.stuck
theorem Ee(k n:Nat)(m:MS):∀ds g,ds.length≠k->QT k n m ds g=.stuck:=λds g h=>by unfold QT;rw[Uf h]
section
variable{P:Program}{w:World}{K:Frag}{mg:Vb}{base:Heap}{ca:Nat->Addr}
theorem IG{N:List Str}{qual:Str}{scope:Scope}{f:Addr}{cd:Value}{A:Around}{outer:List Env}{s:Shared}{H:Hp}{E:XK}{body:List Stmt}{t:TS}(h:PN (QI (E2 (Ms P w ca) P w K mg base N qual scope f cd A outer s H E) ca [] (λx _ H'=>E (.int x.1 0) x.2 H')) body t):PN (E2 (Ms P w ca) P w K mg base N qual scope f cd A outer s H E) body t:=λpins s1 σ H1 D I q=>
 TC (h pins s1 σ H1 D (Inv.wish I _) q) (λ_ _ z=>SP.unwish (X:=E2 (Ms P w ca) P w K mg base N qual scope f cd A outer s H E) z) λ_ _ z=>DW z
theorem MV{x qual:Str}{st:Stmt}{f:Addr}{fd:FuncData}{N ps:List Str}{k n j:Nat}{m:MS}(F:Fun K x qual st f fd)(S:FnScope N ps (Qg st))(hj:ps.length=j)(hn:N.length-ps.length=n)(h:∀(cdv:Value) (A:Around) (outer:List Env) (s:Shared) (H:Hp) (E:XK),Room k (A.deeper (envOfC qual (Qg st) s.heap.objs.size f cdv))->Cq ca (E2 (Ms P w ca) P w K mg base N qual (Qg st) f cdv A outer s H E) (ZB st) m):FnOk P w K mg base (Ms P w ca) (k+1) f fd ps (OK K ca j (QT j n m)):=by
 subst hj;obtain⟨oc,od,kV,doc,pm,an,cdv,ct,osl,rfl,lk,hcd⟩:=F.ex;refine iX lk hcd S (λvs H Q E q=>q.1) λA outer s H vs Q E hr hsp=>?_;obtain⟨hl,ds,g,μ,r,q,p⟩:=hsp;refine⟨_,IG (h cdv A outer s H E hr [] _),ds.map some++List.replicate n none,g,μ,?_,?_⟩
 ·have z:=IF N r q;rw[hl,hn]at z;exact z
 ·unfold QT at p;rw[Ud (by rw[<-q.length,hl])]at p;cases hm:m (ds.map some++List.replicate n none) g with
  |nx σ' g'=>rw[hm]at p;exact λσ'' H' μ' e' R'=>p .non H' μ' e' R'.g .non
  |rt d g'=>rw[hm]at p;exact p|bk _ _=>rw[hm]at p;exact p.elim|ct _ _=>rw[hm]at p;exact p.elim|raise _ _ _=>rw[hm]at p;exact λσ'' H' μ' e' R'=>p H' μ' e' R'.g
  |stuck=>rw[hm]at p;exact p.elim
def EK(Φ:XS)(σ:L2.St):XK:=λc l H'=>∀x:Xc,c=.int x.1 0->l=x.2->Φ x σ H'
theorem Lx(st:∀ds g,ds.length≠n->F ds g=.stuck)(r:GRep K ca μ H g)(q:Dens K μ H vs ds)(p:Post K ca Φ σ Q H μ (F ds g)):OK K ca n F vs H Q (EK Φ σ):=by
 have hl:vs.length=n:=by rw[q.length];apply Decidable.byContradiction;intro h;rw[st ds g h]at p;exact p
 refine⟨hl,ds,g,μ,r,q,?_⟩;cases hF:F ds g with
 |ok d g'=>rw[hF]at p;exact p|raise x g'=>
  rw[hF]at p;intro H' μ' e r' y e1 e2;have:x=y:=by
   obtain⟨a,b⟩:=x;obtain⟨c,d⟩:=y;injection e1 with e1;have e1:(a:Int)=(c:Int):=e1;have e3:a=c:=by omega
   rw[e3,show b=d from e2]
  rw[<-this];exact p H' μ' e r'
 |stuck=>rw[hF]at p;exact p
end
section
variable{X:Cx}{ca:Nat->Addr}{e o:Expr}{es:List Expr}{me mo:ME}{mr:MA}{p pos apos:Pos}{k n:Nat}{F:MF}{pn:YD}{Φ:XS}
theorem OL{f:Addr}{fd:FuncData}{ps:List Str}{pins:YD}{σ:L2.St}{H:Hp}{s:Shared}{Q:VK}{us:List Value}{vs:List V}(G:FnOk X.prog X.w X.K X.mg X.base (Ms X.prog X.w ca) k f fd ps (OK X.K ca n F))(hr:Room k X.A)(hb:Binds X.K fd ps [])(I:Inv (QI X ca pn Φ) pins σ H s)(r:Vals vs us)(h:OK X.K ca n F vs H Q (EK Φ σ)):wpAny (model X.prog X.w) X.A (call (.ref f) us) (EP (QI X ca pn Φ) pins σ Q) (QI X ca pn Φ).xe s:=by
 have hl:(us++[]).length=ps.length:=by rw[UY,<-r.length];exact G.len _ _ _ _ h
 have b:=hb s us I.kIn hl;rw[UY]at b;refine wpAny_call (Bv (G.run X.A X.stack s H ⟨us,[]⟩ us vs Q (EK Φ σ) hr I.env0 b r h) λres s' hq=>?_);cases res with
 |error z=>exact P6 I hq|ok fl=>
  cases fl with
  |ret u=>exact I.after hq|_=>exact False.elim hq
theorem QA{x:Str}(h:FnH X.prog X.w X.K X.mg X.base ca x k n F)(hr:Room k X.A)(ha:Aq ca X (e::es) mr)(hg:Gl X x:=by rfl)(hdb:(x==("__debug__" : Str))=false:=by decide)(he:starEach (e::es) X.env=(false,eval e X.env)::starEach es X.env:=by rfl)(hpl:(backTo pos (starEach es X.env)).any (·.1)=false:=by rfl):QD ca X (.Call (.Name x p) (e::es) [] pos) (Qp F mr):=by obtain⟨f,fd,ps,F1,m1,k1,b1⟩:=h.ex;intro pn Φ pins s σ H Q I ⟨σ3,g,μ,R,q⟩;refine Ry (Tm I hg m1 ?_ hdb);have z:DP X.K ca Φ mr σ H λvs H1=>OK X.K ca n F vs H1 Q (EK Φ σ):=JM (E7 R q) λxs H1 ⟨ds,g1,μ1,e1,R1,q1,p1⟩=>Lx h.st R1.g q1 p1;refine WZ (h₀:=X.base) I.ok.mod.kin k1 (ZD (ha pn Φ pos pins s σ H _ I z) λus s1 ⟨vs,H1,I1,r,q1⟩=>⟨I1.kIn,?_⟩) he hpl;exact OL F1 hr b1 I1 r q1
theorem P8{K:Frag}{c:Nat}{m:Str}{σ:L2.St}{H:Hp}{Q:VK}{α:Type}{kk:Nat->G->Res α}{R:Res α->Hp->List Addr->Prop}{d:D}{g:G}{μ:List Addr}{v:V}(r:GRep K ca μ H g)(hst:¬R .stuck H μ)(p:R (match d with
   |.ref i=>(match g[i]? with
    |some (.ins c' fs)=>if c'=c/\fs.lookup m=none then kk i g else .stuck
    |_=>.stuck)
   |_=>.stuck) H μ)(q:Den K μ H v d):∃a dx fv i,d=.ref i/\v=.ref a/\μ[i]?=some a/\H a=some (.ins (ca c) dx fv)/\fv.lookup m=none/\R (kk i g) H μ:=by
 cases q with
 |@ref i a hn=>
  dsimp only at p;cases hg:g[i]? with
  |none=>rw[hg]at p;exact(hst p).elim|some ob=>
   rw[hg]at p;obtain⟨a',ha',orp⟩:=r.addr hg;rw[hn]at ha';cases ha';cases ob with
   |ins c' fs=>
    dsimp only at p;obtain⟨dx,fv,hH,fr⟩:=orp;by_cases hc:c'=c/\fs.lookup m=none
    ·rw[Ud hc]at p;obtain⟨rfl,hl⟩:=hc;exact⟨a,dx,fv,i,rfl,rfl,hn,hH,fr.no hl,p⟩
    ·rw[Uf hc]at p;exact(hst p).elim
   |_=>exact(hst p).elim
 |_=>exact(hst p).elim
theorem Jw{c:Nat}{m:Str}{pl:Sem Bool}(h:MtH X.prog X.w X.K X.mg X.base ca c m k n F)(hr:Room k X.A)(ho:QD ca X o mo)(ha:Aq ca X (e::es) mr)(hst:starEach (e::es) X.env=(false,eval e X.env)::starEach es X.env:=by rfl)(hpl:(backTo pos (starEach es X.env)).any (·.1)=false:=by rfl)(ht:eval (.Call (.Attribute o m apos) (e::es) [] pos) X.env=(do
   let ov <-eval o X.env
   standAt apos.atName
   let (f,first) <-holding [ov] (getMethod ov m pl)
   callWith pos f first (backTo pos (starEach (e::es) X.env)) (backToKw pos (keywordEach [] X.env))):=by rfl):QD ca X (.Call (.Attribute o m apos) (e::es) [] pos) (QS c m F mo mr):=by
 obtain⟨f,fd,ps,F1,m1,k1,b1⟩:=h.ex;intro pn Φ pins s σ H Q I ⟨σ3,g,μ,R,q⟩;refine BF (pl:=pl) (ZD (ho pn Φ pins s σ H _ I (YZ R q)) λu s1 ⟨x,H1,I1,rx,d,g1,μ1,e1,R1,q1,p1⟩=>?_) ht;obtain⟨a,dx,fv,i,rfl,rfl,hn,hH,hl,p2⟩:=P8 (Q:=Q) (σ:=σ) (R:=λr H μ=>Post X.K ca Φ σ Q H μ r) (kk:=λi g=>(mr σ3 g).bind λxs g2=>F (.ref i::xs) g2) R1.g (λz=>z) p1 q1;obtain rfl:u=Value.ref a:=rx;refine Gv I1 hH k1 m1 hl ?_;have z:DP X.K ca Φ mr σ H1 λvs H2=>OK X.K ca n F (.ref a::vs) H2 Q (EK Φ σ):=JM (E7 R1 p2) λxs H2 ⟨ds,g2,μ2,e2,R2,q2,p3⟩=>Lx h.st R2.g (.cons (.ref (e2.at hn)) q2) p3;refine WZ (first:=[.ref a]) (h₀:=X.base) I.ok.mod.kin m1.kp (ZD (ha pn Φ pos pins s1 σ H1 _ I1 z) λus s2 ⟨vs,H2,I2,r,q2⟩=>⟨I2.kIn,?_⟩) hst hpl;exact OL (us:=.ref a::us) (vs:=.ref a::vs) F1 hr b1 I2 (.cons rfl r) q2
theorem Z2{c:Nat}{m:Str}{pl:Sem Bool}(h:MtH X.prog X.w X.K X.mg X.base ca c m k n F)(hr:Room k X.A)(ho:QD ca X o mo)(ht:eval (.Call (.Attribute o m apos) [] [] pos) X.env=(do
   let ov <-eval o X.env
   standAt apos.atName
   let (f,first) <-holding [ov] (getMethod ov m pl)
   callWith pos f first (backTo pos (starEach [] X.env)) (backToKw pos (keywordEach [] X.env))):=by rfl):QD ca X (.Call (.Attribute o m apos) [] [] pos) (QS c m F mo Qi):=by
 obtain⟨f,fd,ps,F1,m1,k1,b1⟩:=h.ex;intro pn Φ pins s σ H Q I ⟨σ3,g,μ,R,q⟩;refine BF (pl:=pl) (ZD (ho pn Φ pins s σ H _ I (YZ R q)) λu s1 ⟨x,H1,I1,rx,d,g1,μ1,e1,R1,q1,p1⟩=>?_) ht;obtain⟨a,dx,fv,i,rfl,rfl,hn,hH,hl,p2⟩:=P8 (Q:=Q) (σ:=σ) (R:=λr H μ=>Post X.K ca Φ σ Q H μ r) (kk:=λi g=>(Qi σ3 g).bind λxs g2=>F (.ref i::xs) g2) R1.g (λz=>z) p1 q1;obtain rfl:u=Value.ref a:=rx;refine Gv I1 hH k1 m1 hl ?_;exact callWith_K0 (first:=[.ref a]) I1.kIn m1.kp (OL (us:=[.ref a]) (vs:=[.ref a]) F1 hr b1 I1 (.cons rfl .nil) (Lx h.st R1.g (.cons (.ref hn) .nil) p2))
def vQ(X:Cx)(ca:Nat->Addr)(c n:Nat)(F:MF)(Φ:XS)(σ:L2.St)(Q:VK)(vs:List V)(H1:Hp):Prop:=∀y dy,H1 y=none->H1 dy=none->dy≠y->OK X.K ca n F (.ref y::vs) (Zi (Zi H1 dy (.own y)) y (.ins (ca c) dy [])) (λv H2=>v=.non/\Q (.ref y) H2) (EK Φ σ)
theorem qF{c:Nat}{x:Str}{Φ:XS}{σ:L2.St}{H:Hp}{μ:List Addr}{σ3:S3}{g:G}{Q:VK}(h:MkH X.prog X.w X.K X.mg X.base ca c x k n F)(R:Rep X.K ca μ σ3 g σ H)(q:Post X.K ca Φ σ Q H μ (Jq c F mr σ3 g)):DP X.K ca Φ mr σ H (vQ X ca c n F Φ σ Q):=
 JM (E7 R q) λxs H1 ⟨ds,g1,μ1,e1,R1,q1,p1⟩ y dy hy hdy ne=>by
  have hy2:(Zi H1 dy (.own y)) y=none:=by rw[Qz (Ne.symm ne)];exact hy
  have ex1:Ext X.K μ1 H1 μ1 (Zi H1 dy (.own y)):=Q3 hdy;have g2:=R1.g.new (o:=.own y) hdy;have ex2:Ext X.K μ1 (Zi H1 dy (.own y)) (μ1++[y]) (Zi (Zi H1 dy (.own y)) y (.ins (ca c) dy [])):=ZC hy2;have g3:GRep X.K ca (μ1++[y]) (Zi (Zi H1 dy (.own y)) y (.ins (ca c) dy [])) (g1++[.ins c []]):=g2.push hy2 ⟨dy,[],Qy,.nil⟩;have ey:(μ1++[y])[g1.length]?=some y:=by rw[<-R1.g.len];simp
  refine Lx (Φ:=Φ) (σ:=σ) h.st g3 (.cons (.ref ey) ((q1.mono ex1).mono ex2)) ?_;cases hF:F (D.ref g1.length::ds) (g1++[.ins c []]) with
  |stuck=>rw[hF]at p1;exact p1.elim|raise _ _=>rw[hF]at p1;exact RaP.go (ex1.trans ex2) p1|ok d g4=>
   rw[hF,Res.bind_ok]at p1;intro v H' μ' e' r' q';cases q' with
   |non=>exact⟨rfl,p1 _ H' μ' ((ex1.trans ex2).trans e') r' (.ref (e'.at ey))⟩|_=>exact p1.elim
theorem DX{c:Nat}{x:Str}{pn:YD}{Φ:XS}{pins:YD}{s1:Shared}{σ:L2.St}{H1:Hp}{vs:List V}{us:List Value}{Q:VK}(h:MkH X.prog X.w X.K X.mg X.base ca c x k n F)(hr:Room (k+1) X.A)(I1:Inv (QI X ca pn Φ) pins σ H1 s1)(r:Vals vs us)(q1:vQ X ca c n F Φ σ Q vs H1):wpAny (model X.prog X.w) X.A (call (.ref (ca c)) us) (EP (QI X ca pn Φ) pins σ Q) (QI X ca pn Φ).xe s1:=by
 obtain⟨f,fd,ps,F1,m1,k1,b1⟩:=h.ex;have hq:=q1 (s1.heap.objs.size+1) s1.heap.objs.size (I1.hok.fresh (Nat.le_succ _)) (I1.hok.fresh (Ug _)) (UH (TB _));have I2:=Inv.made (C:=ca c) I1;have r2:Vals (V.ref (s1.heap.objs.size+1)::vs) (Value.ref (s1.heap.objs.size+1)::us):=.cons rfl r;have hl:(Value.ref (s1.heap.objs.size+1)::us++[]).length=ps.length:=by have w:=r2.length;rw[F1.len _ _ _ _ hq]at w;rw[UY];exact w.symm
 have b2:=b1 _ (Value.ref (s1.heap.objs.size+1)::us) I2.kIn hl;rw[UY]at b2;refine wpAny_call (Dv (f:=f) I1.kIn m1.makes m1.init (Tn.mp m1.fn) (Bv (F1.run _ X.stack _ _ ⟨Value.ref (s1.heap.objs.size+1)::us,[]⟩ (Value.ref (s1.heap.objs.size+1)::us) _ _ (EK Φ σ) (hr.make (ca c) us [])
  (I2.env0.make (ca c) us []) b2 r2 hq) λres s' hq'=>?_))
 cases res with
 |error z=>exact P6 I2 hq'|ok fl=>
  cases fl with
  |ret u =>obtain⟨v,H',I3,rv,ev,q3⟩:=I2.after hq';subst ev;exact⟨rv,⟨V.ref (s1.heap.objs.size+1),H',I3,rfl,q3⟩⟩|_=>exact False.elim hq'
theorem Ly{c:Nat}{x:Str}(h:MkH X.prog X.w X.K X.mg X.base ca c x k n F)(hr:Room (k+1) X.A)(ha:Aq ca X (e::es) mr)(hg:Gl X x:=by rfl)(hdb:(x==("__debug__" : Str))=false:=by decide)(he:starEach (e::es) X.env=(false,eval e X.env)::starEach es X.env:=by rfl)(hpl:(backTo pos (starEach es X.env)).any (·.1)=false:=by rfl):QD ca X (.Call (.Name x p) (e::es) [] pos) (Jq c F mr):=by obtain⟨f,fd,ps,F1,m1,k1,b1⟩:=h.ex;intro pn Φ pins s σ H Q I ⟨σ3,g,μ,R,q⟩;refine Ry (Tm I hg k1 ?_ hdb);exact WZ (h₀:=X.base) I.ok.mod.kin m1.kp (ZD (ha pn Φ pos pins s σ H _ I (qF h R q)) λus s1 ⟨vs,H1,I1,r,q1⟩=>⟨I1.kIn,DX h hr I1 r q1⟩) he hpl
theorem fB{c:Nat}{x:Str}(h:MkH X.prog X.w X.K X.mg X.base ca c x k n F)(hr:Room (k+1) X.A)(hg:Gl X x:=by rfl)(hdb:(x==("__debug__" : Str))=false:=by decide):QD ca X (.Call (.Name x p) [] [] pos) (Jq c F Qi):=by obtain⟨f,fd,ps,F1,m1,k1,b1⟩:=h.ex;intro pn Φ pins s σ H Q I ⟨σ3,g,μ,R,q⟩;refine Ry (Tm I hg k1 ?_ hdb);obtain⟨_,_,μ',R',p'⟩:=qF h R q;exact callWith_K0 I.kIn m1.kp (DX h hr I .nil (p' [] H μ' .refl R'.g .nil))
end
section
variable{X:Cx}{ca:Nat->Addr}{tg e:Expr}{me:ME}{mr:MA}{p pos:Pos}
theorem Xj(h:PI X tg iter t)(i:∀σ H R,t' σ H R->t σ H R):PI X tg iter t':=λpins s σ H R I q=>h pins s σ H R I (i σ H R q)
theorem IH(K:Frag)(μ:List Addr)(H:Hp)(lo:Int)(n:Nat):As K ca μ H (Q0 lo n) (pG lo n):=by
 intro i H1 μ1 g1 e r;unfold Q0;dsimp only;by_cases h:i<n
 ·rw[Ud h];exact⟨h,λx H' y=>by obtain⟨rfl,rfl⟩:=y;exact⟨.refl,r,.int _⟩⟩
 ·rw[Uf h];exact Ra h
theorem fE{K:Frag}{μ:List Addr}{H:Hp}{a:Addr}{vs:List V}{ds:List D}(h:SqT K H a vs)(q:Dens K μ H vs ds):As K ca μ H ⟨λ_ i=>some ds[i]?,ds.length⟩ (tI K a):=by
 intro i H1 μ1 g1 e r;dsimp only;cases hd:ds[i]? with
 |none =>refine⟨vs,e.tup _ _ h,?_⟩;rw[q.length];exact To.mp hd|some d =>obtain⟨v,h1,h2⟩:=q.get hd;refine⟨⟨vs,v,e.tup _ _ h,h1⟩,λx H' y=>?_⟩;obtain⟨rfl,y⟩:=y;have:=y vs (e.tup _ _ h);rw[h1]at this;cases this;exact⟨.refl,r,h2.mono e⟩
theorem fF{K:Frag}{μ:List Addr}{H:Hp}{a:Addr}{n t:Nat}(hn:μ[n]?=some a):As K ca μ H ⟨λg i=>(match g[n]? with|some (.lst es)=>some es[i]? | _=>none),t⟩ (rX K a):=by
 intro i H1 μ1 g1 e r;dsimp only;cases hg:g1[n]? with
 |none=>trivial|some o=>
  cases o with
  |lst ds=>
   dsimp only;obtain⟨a',ha',vs,hH,q⟩:=r.addr hg;rw[e.at hn]at ha';cases ha';cases hd:ds[i]? with
   |none =>refine⟨vs,.of hH,?_⟩;rw[q.length];exact To.mp hd|some d =>obtain⟨v,h1,h2⟩:=q.get hd;refine⟨⟨vs,v,.of hH,h1⟩,λx H' y=>?_⟩;obtain⟨rfl,y⟩:=y;have:=y vs (.of hH);rw[h1]at this;cases this;exact⟨.refl,r,h2⟩
  |_=>trivial
theorem lV{K:Frag}{μ:List Addr}{H:Hp}{a:Addr}{vs:List V}{ds:List D}(h:SqF K H a vs)(q:Dens K μ H vs ds):As K ca μ H ⟨λ_ i=>some ds[i]?,ds.length⟩ (rX K a):=by
 intro i H1 μ1 g1 e r;dsimp only;have sq:SqL K H1 a vs:=(e.fl _ _ h).sq;cases hd:ds[i]? with
 |none =>refine⟨vs,sq,?_⟩;rw[q.length];exact To.mp hd|some d =>obtain⟨v,h1,h2⟩:=q.get hd;refine⟨⟨vs,v,sq,h1⟩,λx H' y=>?_⟩;obtain⟨rfl,y⟩:=y;have:=y vs sq;rw[h1]at this;cases this;exact⟨.refl,r,h2.mono e⟩
theorem lW(hl:PE X l tl):PI X tg l (λσ H R=>tl σ H λx H1=>(∃a,x=.ref a/\(∃xs,SqL X.K H1 a xs)/\R (rX X.K a) H1)\/∃a,x=.ref a/\(∃xs,SqT X.K H1 a xs)/\R (tI X.K a) H1):=by
 intro pins s σ H R I h;refine ZD (hl pins s σ H _ I h) λv s1 ⟨x,H1,I1,r1,q1⟩=>?_;rcases q1 with⟨a,e,⟨xs,hq⟩,q⟩|⟨a,e,⟨xs,hq⟩,q⟩
 ·subst e;cases r1;obtain⟨its,rv,p,hz⟩:=I1.list hq;refine Ba p.isList ?_;refine⟨s1.heap.objs.size,[s1.heap.objs.size],_,_,H1,rfl,I1.kept (t':=s1.toks) λb o e=>Uc _ e,S6 a _,⟨_,Uk _ rfl,rfl,rfl⟩,λb hb=>?_,q⟩;have e:b=s1.heap.objs.size:=by simpa using hb
  subst e;exact I1.fpOk (Ug _) (I1.hok.fresh (Ug _))
 ·subst e;cases r1;obtain⟨its,rv,p,hz⟩:=I1.tuple hq;refine wpAny_pyIter_tuple (show s1.heap.IsTuple a its.toArray from p) ?_;refine⟨s1.heap.objs.size,[s1.heap.objs.size],_,_,H1,rfl,I1.kept (t':=s1.toks) λb o e=>Uc _ e,Ou a _,⟨_,Uk _ rfl,rfl,rfl⟩,λb hb=>?_,q⟩;have e:b=s1.heap.objs.size:=by simpa using hb
  subst e;exact I1.fpOk (Ug _) (I1.hok.fresh (Ug _))
theorem Yj(he:QD ca X e me):Dj ca X tg e (Zp me):=
 λpn Φ=>Xj (lW (X:=QI X ca pn Φ) (he pn Φ)) λσ H R hQ=>by
  obtain⟨σ3,g,μ,Rp,p⟩:=hQ;unfold Zp at p;refine⟨σ3,g,μ,Rp,?_⟩;cases hm:me σ3 g with
  |raise _ _=>rw[hm]at p;exact p|stuck=>rw[hm]at p;exact p.elim|ok d g1=>
   rw[hm,Res.bind_ok]at p;intro v H1 μ1 e1 r1 q1;unfold Vd at p;cases q1 with
   |@tup a vs ds ht hs =>exact .inr ⟨a,rfl,⟨vs,ht⟩,p _ H1 μ1 e1 r1 (fE ht hs)⟩|@fl a vs ds ht hs=>exact .inl ⟨a,rfl,⟨vs,ht.sq⟩,p _ H1 μ1 e1 r1 (lV ht hs)⟩|@ref n a hn=>
    dsimp only at p;cases hg:g1[n]? with
    |none=>rw[hg]at p;exact p.elim|some o=>
     rw[hg]at p;obtain⟨a',ha',orp⟩:=r1.addr hg;rw[hn]at ha';cases ha';cases o with
     |lst ds=>obtain⟨vs,hH,q⟩:=orp;exact .inl ⟨a,rfl,⟨vs,.of hH⟩,p _ H1 μ1 e1 r1 (fF hn)⟩|_=>exact p.elim
   |_=>exact p.elim
theorem Kw(hm:X.mg "range"=none)(he:QD ca X e me)(hg:Gl X "range":=by rfl)(hs:starEach [e] X.env=[(false,eval e X.env)]:=by rfl):Dj ca X tg (.Call (.Name "range" p) [e] [] pos) (Zl me):=
 λpn Φ=>Xj (S7 (X:=QI X ca pn Φ) hg hm (ZH he Qm hs pn Φ) hs) λσ H R hQ=>by
  obtain⟨σ3,g,μ,Rp,p⟩:=hQ;refine⟨σ3,g,μ,Rp,?_⟩;unfold Zl at p;unfold Qc Qi;cases hm:me σ3 g with
  |raise _ _=>rw[hm]at p;exact p|stuck=>rw[hm]at p;exact p.elim|ok d g1=>
   rw[hm,Res.bind_ok]at p;rw[Res.bind_ok,Res.bind_ok];intro vs H1 μ1 e1 r1 q1;cases q1 with
   |cons h1 h2=>
    cases h2;cases h1 with
    |int j=>
     dsimp only at p;by_cases hj:HE j
     ·rw[Ud hj]at p;exact⟨j,rfl,hj.1,hj.2,p _ H1 μ1 e1 r1 (IH X.K μ1 H1 0 j.toNat)⟩
     ·rw[Uf hj]at p;exact p.elim
    |_=>exact p.elim
theorem Ef{e2:Expr}{me2:ME}(hm:X.mg "range"=none)(he:QD ca X e me)(he2:QD ca X e2 me2)(hg:Gl X "range":=by rfl)(hs:starEach [e,e2] X.env=[(false,eval e X.env),(false,eval e2 X.env)]:=by rfl)(hs2:starEach [e2] X.env=[(false,eval e2 X.env)]:=by rfl)(hs3:starEach [e,e2] X.env=(false,eval e X.env)::starEach [e2] X.env:=by rfl):Dj ca X tg (.Call (.Name "range" p) [e,e2] [] pos) (Zu me me2):=
 λpn Φ=>Xj (S8 (X:=QI X ca pn Φ) hg hm (ZH he (ZH he2 Qm hs2) hs3 pn Φ) hs hs2) λσ H R hQ=>by
  obtain⟨σ3,g,μ,Rp,p⟩:=hQ;refine⟨σ3,g,μ,Rp,?_⟩;unfold Zu at p;unfold Qc Qi;cases hm:me σ3 g with
  |raise _ _=>rw[hm]at p;exact p|stuck=>rw[hm]at p;exact p.elim|ok d g1=>
   rw[hm,Res.bind_ok]at p;rw[Res.bind_ok];cases hm2:me2 σ3 g1 with
   |raise _ _=>rw[hm2]at p;exact p|stuck=>rw[hm2]at p;exact p.elim|ok d2 g2=>
    rw[hm2,Res.bind_ok]at p;rw[Res.bind_ok,Res.bind_ok,Res.bind_ok];intro vs H1 μ1 e1 r1 q1;cases q1 with
    |cons h1 h2=>
     cases h2 with
     |cons h2 h3=>
      cases h3;cases h1 with
      |int i=>
       cases h2 with
       |int j=>
        dsimp only at p;by_cases hj:HE i/\HE j
        ·rw[Ud hj]at p;exact⟨i,j,rfl,⟨hj.1.1,hj.1.2,hj.2.1,hj.2.2⟩,p _ H1 μ1 e1 r1 (IH X.K μ1 H1 i (j-i).toNat)⟩
        ·rw[Uf hj]at p;exact p.elim
       |_=>exact p.elim
      |_=>exact p.elim
end
def II(X:Cx)(scope:Scope)(cl:List (Str×Addr))(C:Addr)(Nb:List Str)(s3:Shared)(H3:Hp)(ex:List Addr):Cx:={X with env:=compEnvC scope cl C X.env,N:=Nb,s₀:=s3,H₀:=H3,outer:=X.stack,stack:=X.stack,ex:=ex,fn:=λ_=>false,pn:=[],xe:=λ_ _=>False}
structure BScope(X:Cx)(scope:Scope)(Nb:List Str)(no:Nat)(cap:List Nat):Prop where
 kind:scope.kind=.function
 cell:∀y∈scope.names,y.2≠.cell
 loc:∀y∈scope.names,y.2=.local->scope.names.lookup y.1=some .local
 free:∀y∈scope.names,y.2=.free->X.env.kindOf y.1=some .cell\/X.env.kindOf y.1=some .free
 len:Nb.length=no+cap.length
 cap:∀(j i:Nat),cap[j]?=some i->∃x,Nb[no+j]?=some x/\X.N[i]?=some x/\scope.names.lookup x=some .free/\rW X.env.scope x/\X.env.kindOf x≠some .local
def E8(cells:List (Str×Addr)):List (Str×NameKind)->List (Str×Addr)->Option (List (Str×Addr))
 |[],cs=>some cs| (n,k)::r,cs=>if (k==.free)=true then (match cells.lookup n with
  |some a=>E8 cells r ((n,a)::cs)|none=>none) else E8 cells r cs
theorem Cr:∀(names:List (Str×NameKind))(cs cl:List (Str×Addr)),E8 env.cells names cs=some cl->
  (forIn names cs λ(x:Str×NameKind)(r:List (Str×Addr))=>(match x with
   | (name,kind)=>if (kind==.free)=true then (do let a <-cellOf env name;pure (ForInStep.yield ((name,a)::r))) else pure (ForInStep.yield r):Sem (ForInStep (List (Str×Addr)))))=(pure cl:Sem (List (Str×Addr)))
 |[],cs,cl,h=>by cases h;rfl
 | (n,k)::r,cs,cl,h=>by
  unfold E8 at h;rw[RQ];by_cases hk:(k==.free)=true
  ·rw[Ud hk]at h;cases hl:env.cells.lookup n with
   |none=>rw[hl]at h;cases h|some a =>rw[hl]at h;dsimp only at h ⊢;rw[Ud hk];unfold cellOf;rw[hl];exact Cr r _ cl h
  ·rw[Uf hk]at h;dsimp only;rw[Uf hk];exact Cr r _ cl h
theorem HI(h:E8 env.cells scope.names []=some cl):closureFor scope env=pure cl:=by have q:=Cr (env:=env) scope.names [] cl h;unfold closureFor;exact Rf (λt=>t >>= λr=>(pure r:Sem _)) q
theorem E9:∀(names:List (Str×NameKind))(cs:List (Str×Addr)),(∀y∈names,y.2=.free->∃c,cells.lookup y.1=some c)->∃cl,E8 cells names cs=some cl
 |[],cs,_=>⟨cs,rfl⟩| (n,k)::r,cs,h=>by
  unfold E8;by_cases hk:(k==.free)=true
  ·rw[Ud hk];obtain⟨c,e⟩:=h (n,k) Ux (Tn.mp hk);rw[show cells.lookup n=some c from e];exact E9 r _ λy hy=>h y (Uw _ hy)
  ·rw[Uf hk];exact E9 r _ λy hy=>h y (Uw _ hy)
theorem JN:∀(names:List (Str×NameKind))(cs cl:List (Str×Addr)),E8 cells names cs=some cl->(∀x c,cs.lookup x=some c->cells.lookup x=some c)->∀x c,cl.lookup x=some c->cells.lookup x=some c
 |[],cs,cl,h,hc=>by cases h;exact hc
 | (n,k)::r,cs,cl,h,hc=>by
  unfold E8 at h;by_cases hk:(k==.free)=true
  ·rw[Ud hk]at h;cases hl:cells.lookup n with
   |none=>rw[hl]at h;cases h|some a=>
    rw[hl]at h;refine JN r _ cl h λx c e=>?_;by_cases z:x=n
    ·subst z;simp only[List.lookup,Wt]at e;cases e;exact hl
    ·have zb:(x==n)=false:=U2.mpr z;simp only[List.lookup,zb]at e;exact hc x c e
  ·rw[Uf hk]at h;exact JN r _ cl h hc
theorem Eg:∀(names:List (Str×NameKind))(cs cl:List (Str×Addr)),E8 cells names cs=some cl->∀x,(x∈names.filterMap λy=>if (y.2==.free)=true then some y.1 else none)\/(∃c,cs.lookup x=some c)->∃c,cl.lookup x=some c
 |[],cs,cl,h,x,hx=>by
  cases h;rcases hx with hx|hx
  ·simp at hx
  ·exact hx
 | (n,k)::r,cs,cl,h,x,hx=>by
  unfold E8 at h;by_cases hk:(k==.free)=true
  ·rw[Ud hk]at h;cases hl:cells.lookup n with
   |none=>rw[hl]at h;cases h|some a=>
    rw[hl]at h;refine Eg r _ cl h x ?_;by_cases z:x=n
    ·subst z;exact .inr ⟨a,by simp[List.lookup]⟩
    ·have zb:(x==n)=false:=U2.mpr z;rcases hx with hx|⟨c,hx⟩
     ·rw[T5]at hx;simp only[hk,RK]at hx;rcases Uz.mp hx with e|e
      ·exact absurd e z
      ·exact .inl e
     ·exact .inr ⟨c,by simp only[List.lookup,zb];exact hx⟩
  ·rw[Uf hk]at h;refine Eg r _ cl h x ?_;rcases hx with hx|hx
   ·rw[T5]at hx;simp only[hk]at hx;exact .inl (by simpa using hx)
   ·exact .inr hx
theorem FE{names:List (Str×NameKind)}{x:Str}(h:names.lookup x=some .free):x∈names.filterMap λy=>if (y.2==.free)=true then some y.1 else none:=WY.mpr ⟨(x,.free),T6 h,by simp⟩
theorem VG{env:Env}:∀{names:List (Str×NameKind)}{x:Str}{k:NameKind},(∀y∈names,y.2≠.cell)->(names.map λ(n,k)=>if (k==NameKind.free&&env.scope.kind==.function&&env.kindOf n==some .cell) then (n,NameKind.cell) else (n,k)).lookup x=some k->(k=.cell\/k=.free)->names.lookup x=some .free
 |[],_,_,_,h,_=>by cases h
 | (n,k0)::r,x,k,hn,h,hk=>by
  have ih:=@VG env r x k λy hy=>hn y (Uw _ hy);rw[UL]at h;by_cases hc:(k0==NameKind.free&&env.scope.kind==.function&&env.kindOf n==some .cell)=true
  ·have k0f:k0=.free:=by simp only[UK]at hc;exact Tn.mp hc.1.1
   dsimp only at h;rw[Ud hc]at h;cases hx:x==n with
   |true=>simp only[List.lookup,hx];rw[k0f]|false=>simp only[List.lookup,hx]at h ⊢;exact ih h hk
  ·dsimp only at h;rw[Uf hc]at h;cases hx:x==n with
   |true=>
    simp only[List.lookup,hx]at h ⊢;cases h;rcases hk with e|e
    ·exact absurd e (hn (n,k0) Ux)
    ·rw[e]
   |false=>simp only[List.lookup,hx]at h ⊢;exact ih h hk
theorem Lz{prog:Program}{w:World}{A:Around}{R:Result->Shared->Prop}{s:Shared}{elt target iter:Expr}{ifs:List Expr}{scope:Scope}{pos:Pos}{it acc:Value}{env:Env}(I:Nat->Shared->Prop)(turn:∀n s,I n s->wpAny (model prog w) A (pyNext it) (λr s₁=>match r with
   |none=>R (.ok .next) s₁|some v=>wpAny (model prog w) A (letOwnedTupleGo target it v) (λ_ s1'=>wpAny (model prog w) A (assign target env v) (λ_ s₂=>
     wpAny (model prog w) A (forIn ifs true λc r=>if r=true then do let ok <-isTrue c env (eval c env);pure (ForInStep.yield ok) else pure (ForInStep.yield r)) (λok s₃=>
      if ok=true then wpAny (model prog w) A (eval elt env) (λx s₄=>
       wpAny (model prog w) A (call (.builtin "list.append") [acc,x]) (λ_ s₅=>∃m,m<n/\I m s₅) (λ_ _=>False) s₄) (λ_ _=>False) s₃
      else ∃m,m<n/\I m s₃) (λ_ _=>False) s₂) (λ_ _=>False) s1') (λ_ _=>False) s₁) (λ_ _=>False) s)(n:Nat)(h:I n s):codeAny (model prog w) A (.compLoop (.ListComp elt [⟨target,iter,ifs,0⟩] scope pos) 0 it acc env) R s:=by
 refine codeAny_loop rfl I (λn s hI=>?_) n h;show wpAny _ A ((compTurn (.ListComp elt [⟨target,iter,ifs,0⟩] scope pos) 0 it acc env).onRaise (λx=>do noteFrame x env;theTreesLotGoes x)) _ _ s;refine wpAny_noted ?_;rw[compTurn_list];refine Ua (Bc (Ua (TC (turn n s hI) (λr s₁ h₁=>?_) λ_ _ h'=>h'.elim)));cases r with
 |none=>exact Ub h₁|some v=>
  refine Ua (TC h₁ (λ_ s1' h1'=>?_) λ_ _ h'=>h'.elim);refine Ua (TC h1' (λ_ s₂ h₂=>Ua (TC h₂ (λok s₃ h₃=>?_) λ_ _ h'=>h'.elim)) λ_ _ h'=>h'.elim);cases ok with
  |false=>exact Ub ⟨rfl,h₃⟩|true =>exact Ua (Ua (TC h₃ (λx s₄ h₄=>Ua (TC h₄ (λ_ s₅ h₅=>Ub (Ub ⟨rfl,h₅⟩)) λ_ _ h'=>h'.elim)) λ_ _ h'=>h'.elim))
theorem Inv.track(I:Inv X pins σ H s)(ha:FpOk X pins H a)(new:ObjOk X.prog X.w (Zi H a o) s.heap a o):Inv X pins σ (Zi H a o) s:=by
 obtain⟨f0,f1,f2,f3,f4,f5⟩:=ha;have ne:∀b u,H b=some u->b≠a:=λb u e=>Q8 e f0;refine I.step (h':=s.heap) (g':=s.gens) (t':=s.toks) (d':=s.drawn) (ch:=[a]) (λb hb=>?_) (λb o _ _ _ e _=>e) (λb o _ _ _ e _=>⟨o.slots,e⟩) (λb o hb e n=>?_) (λb o _ e=>⟨o,e⟩)
  (λb xs e=>by rw[Qz (ne b _ e)];exact e) (λb o u e=>by rw[Qz (ne b _ e)];exact e) (λb ps e=>⟨#[],by rw[Qz (ne b _ e),e];simp⟩) (λ_ h=>h) (λb u e=>?_) I.bare
 ·have e:b=a:=by simpa using hb
  subst e;exact⟨f3,f1,f4,f5⟩
 ·rw[Qz (λz=>hb (by simp[z]))];exact n
 ·by_cases hb:b=a
  ·subst hb;rw[Qy]at e;cases e;exact new
  ·rw[Qz hb]at e;exact(I.hok b u e).stay (λ_ _ _ q=>q) (λc q=>by rw[Qz (ne c _ q)];exact q) λc xs q=>by rw[Qz (ne c _ q)];exact q
theorem FpOk.mono(h:FpOk X pins H b)(n:H' b=none):FpOk X pins H' b:=⟨n,h.2⟩
abbrev F0:XS:=λ_ _ _=>False
theorem oP(h:wpAny M A t Q (XE X ca F0) s):wpAny M A t Q (λ_ _=>False) s:=TC h (λ_ _ z=>z) λ_ _ ⟨_,_,_,_,_,_,_,z⟩=>z
def sC(ca:Nat->Addr)(X:Cx)(ifs:List Expr)(m:MT):Prop:=∀(pins:YD)(s:Shared)(σ:L2.St)(H:Hp)(Q:Bool->Hp->Prop),Inv (QI X ca [] F0) pins σ H s->jE X.K ca F0 m σ H Q->wpAny (model X.prog X.w) X.A (forIn ifs true λc r=>if r=true then do let ok <-isTrue c X.env (eval c X.env);pure (ForInStep.yield ok) else pure (ForInStep.yield r)) (TP (QI X ca [] F0) pins σ Q) (λ_ _=>False) s
theorem MW  : sC ca X [] Yw:=by intro pins s σ H Q I ⟨_,_,μ,R,p⟩;rw[Wd];exact Ub ⟨H,I,p H μ .refl R.g⟩
theorem MX(h:Gg ca X c m):sC ca X [c] m:=by intro pins s σ H Q I q;exact wpAny_tests_one (oP (h [] F0 pins s σ H Q I q))
section
variable{X:Cx}{ca:Nat->Addr}{pn:YD}
theorem lX{scope:Scope}{Nb:List Str}{no:Nat}{cap:List Nat}{cl:List (Str×Addr)}{pins:YD}{σ:L2.St}{H:Hp}{s:Shared}{ex:List Addr}(B:BScope X scope Nb no cap)(hcl:E8 X.env.cells scope.names []=some cl)(I:Inv (QI X ca pn F0) pins σ H s)(hex:∀b∈ex,FpOk (QI X ca pn F0) pins H b)(hlt:∀b∈ex,b<s.heap.objs.size):(QI (II X scope cl s.heap.objs.size Nb s H ex) ca [] F0).Ok where
 mod:=I.ok.mod
 kind:=B.kind
 glob:=I.ok.glob
 blt:=I.ok.blt
 above:=Ug _
 inj:=λx y c h1 h2=>I.ok.inj x y c (JN _ _ _ hcl (λ_ _ z=>by cases z) x c h1) (JN _ _ _ hcl (λ_ _ z=>by cases z) y c h2)
 has:=λx hx=>Eg _ _ _ hcl x (.inl (FE (by
  rcases hx with hx|hx
  ·exact VG B.cell hx (.inl rfl)
  ·exact VG B.cell hx (.inr rfl))))
 cab:=λ_ _ z=>by cases z
 hd:=I.ok.hd
 frames:=I.ok.frames
 stk:=.inl rfl
 exf:=λb hb=>⟨UH (hlt b hb),λx c e z=>(hex b hb).2.2.2.2.1 x c (JN _ _ _ hcl (λ_ _ z=>by cases z) x c e) z⟩
 bs:=I.bs
 bsz:=Uo I.ok.bsz I.sz
 noex:=λb o e hb=>by
  rcases(hex b hb).2.2.2.1 with z|z
  ·exact I.ok.noex b o e z
  ·exact absurd (Uu (Ul e) (Uo I.ok.bsz z)) (Tx _)
 exfs:=λb hb z=>by
  rcases Uz.mp (I.stkSub b z) with e|e
  ·exact(hex b hb).2.1 e
  ·exact(hex b hb).2.2.1 e
 funs:=I.stack
 frf:=I.stkFree
theorem XZ{env:Env}:∀{names:List (Str×NameKind)}{x:Str},names.lookup x=some .free->(names.map λ(n,k)=>if (k==NameKind.free&&env.scope.kind==.function&&env.kindOf n==some .cell) then (n,NameKind.cell) else (n,k)).lookup x=some .local->False
 |[],_,h,_=>by cases h
 | (n,k0)::r,x,h,h'=>by
  have ih:=@XZ env r x;rw[UL]at h';dsimp only at h';by_cases hc:(k0==NameKind.free&&env.scope.kind==.function&&env.kindOf n==some .cell)=true
  ·rw[Ud hc]at h';cases hx:x==n with
   |true=>simp only[List.lookup,hx]at h';cases h'|false=>simp only[List.lookup,hx]at h h';exact ih h h'
  ·rw[Uf hc]at h';cases hx:x==n with
   |true=>simp only[List.lookup,hx]at h h';rw[h']at h;cases h|false=>simp only[List.lookup,hx]at h h';exact ih h h'
theorem DY{K:Frag}{ca:Nat->Addr}{μ2:List Addr}{σ3:S3}{g1:G}{σ:L2.St}{H2:Hp}(no:Nat)(cap:List Nat)(R2:Rep K ca μ2 σ3 g1 σ H2):Rep K ca μ2 (GA no cap σ3) g1 (List.replicate no none++cap.map λi=>(σ[i]?).getD none) H2:=by
 refine⟨R2.g,?_,λi d h=>?_⟩
 ·unfold GA;rw[Um,Um,U1,U1,Uh,Uh]
 ·unfold GA at h;have hi:no<=i:=by apply Ra;intro hlt;rw[Uj (by simpa using hlt),Ru,Ud hlt]at h;cases h
  rw[UT (by simpa using hi),U1,Uy]at h ⊢;cases hcp:cap[i-no]? with
  |none=>rw[hcp]at h;cases h|some j=>
   rw[hcp]at h;have h:(σ3[j]?).getD none=some d:=by simpa using h
   have hs:σ3[j]?=some (some d):=by
    cases z:σ3[j]? with
    |none=>rw[z]at h;cases h|some w=>rw[z]at h;have h:w=some d:=h;rw[h]
   obtain⟨v,h1,h2⟩:=R2.st j d hs;exact⟨v,by simp[h1],h2⟩
theorem At{tg iter elt:Expr}{ifs:List Expr}{scope:Scope}{pos:Pos}{Nb:List Str}{no:Nat}{cap:List Nat}{cl:List (Str×Addr)}{f:MG}{tc:MT}{me:ME}{src:Src}{pins:YD}{σ:L2.St}{σ3:S3}{H2:Hp}{s2:Shared}{μ2:List Addr}{g1 g2:G}{ds:List D}{it:Addr}{fp:List Addr}{tn:Nat->Heap->Prop}{J:It}{RR:Value->Addr->Result->Shared->Prop}{E:VP}(B:BScope X scope Nb no cap)(hc:X.calm=true)(hb:∀cl C s3 H3 ex,jH ca (II X scope cl C Nb s3 H3 ex) tg f/\sC ca (II X scope cl C Nb s3 H3 ex) ifs tc/\QD ca (II X scope cl C Nb s3 H3 ex) elt me)(hcl:E8 X.env.cells scope.names []=some cl)(I2:Inv (QI X ca pn F0) pins σ H2 s2)(T:Turn X.prog X.w X.K tg J fp it tn)(st2:tn 0 s2.heap)(f2:∀b∈fp,FpOk (QI X ca pn F0) pins H2 b)(R2:Rep X.K ca μ2 σ3 g1 σ H2)(sim:As X.K ca μ2 H2 src J)(hz:src.top<=SZ)(hL:YS src f tc me (src.top+1) 0 (GA no cap σ3) g1 []=.ok ds g2)(fin:∀(D C:Addr) (s':Shared) (H4:Hp) (μ4:List Addr) (accV:List V) (its:List Value) (k:Nat),Inv (QI X ca pn F0) pins σ H4 s'->(∃m,s'.heap.Ns C m)->FpOk (QI X ca pn F0) pins H4 C->FpOk (QI X ca pn F0) pins H4 D->D≠C->s'.heap.get? D=some {cls:=.type "list",data:=.seq its.toArray k}->Vals accV its->accV.length<=sizeLine->Ext X.K μ2 H2 μ4 H4->GRep X.K ca μ4 H4 g2->Dens X.K μ4 H4 accV ds->RR (.ref D) C (.ok .next) s'):
  wpAny (model X.prog X.w) X.A (newList []) (λacc s₃=>wpAny (model X.prog X.w) X.A (newFunctionEnv scope X.env.globals cl [] X.env.qual none .none (some X.env)) (λcenv s₄=>
   codeAny (model X.prog X.w) X.A (.compStart (.ListComp elt [⟨tg,iter,ifs,0⟩] scope pos) 0 (.ref it) acc {cenv with scope:=relabel scope X.env}) (RR acc cenv.locals) s₄) E s₃) E s2:=by
 refine UB (wpAny_newFunctionEnv B.cell (by intro y hy;simp at hy) (λh₁ hns₁ hsb₁=>?_) B.kind);dsimp only at hns₁ hsb₁ ⊢;generalize hH2:s2.heap.push {cls:=.type "list",dict:=none,data:=.seq ([]:List Value).toArray}=hp at hns₁ hsb₁ ⊢;have hC:hp.objs.size=s2.heap.objs.size+1:=by rw[<-hH2,TZ]
 have I3:Inv (QI X ca pn F0) pins σ H2 {s2 with heap:=hp}:=by rw[<-hH2];exact I2.kept (t':=s2.toks) λb o e=>Uc _ e
 have hD3:hp.get? s2.heap.objs.size=some {cls:=.type "list",data:=.seq ([]:List Value).toArray}:=by rw[<-hH2];exact Uk _ rfl
 have fD:FpOk (QI X ca pn F0) pins H2 s2.heap.objs.size:=I2.fpOk (Ug _) (I2.hok.fresh (Ug _));have fC:FpOk (QI X ca pn F0) pins H2 hp.objs.size:=I3.fpOk (Ug _) (I3.hok.fresh (Ug _));have fplt:∀b∈fp,b<s2.heap.objs.size:=λb hb=>by obtain⟨o,e,_⟩:=T.obj 0 _ st2 b hb;exact Ul e
 have DnF:s2.heap.objs.size∉fp:=λh=>Tx _ (fplt _ h);have DnC:s2.heap.objs.size≠hp.objs.size:=by rw[hC];exact UH (TB _)
 have exOk:∀b∈s2.heap.objs.size::fp,FpOk (QI X ca pn F0) pins H2 b:=λb hb=>by
  rcases Uz.mp hb with e|e
  ·rw[e];exact fD
  ·exact f2 b e
 have exLt:∀b∈s2.heap.objs.size::fp,b<hp.objs.size:=λb hb=>by
  rcases Uz.mp hb with e|e
  ·rw[e,hC];exact TB _
  ·rw[hC];exact W9 (fplt b e)
 have okb:(QI (II X scope cl hp.objs.size Nb {s2 with heap:=hp} H2 (s2.heap.objs.size::fp)) ca [] F0).Ok:=lX (s:={s2 with heap:=hp}) B hcl I3 exOk exLt;obtain⟨hgB,hiB,heB⟩:=hb cl hp.objs.size {s2 with heap:=hp} H2 (s2.heap.objs.size::fp);have old:∀b o,hp.get? b=some o->h₁.get? b=some o:=λb o e=>hsb₁.extBut b o (UH (Ul e)) (Uc _ e)
 -- the block's first state
 have Ib:Inv (QI (II X scope cl hp.objs.size Nb {s2 with heap:=hp} H2 (s2.heap.objs.size::fp)) ca [] F0) [] (List.replicate no none++cap.map λi=>(σ[i]?).getD none) H2 {s2 with heap:=h₁,toks:=s2.toks+([]:List (Str×Value)).length}:=by
  refine⟨okb,rfl,I3.bare,Un.kept old,⟨_,hns₁,λi x v h1 h2 h3=>?_⟩,λx c e=>?_,fC.1,λx c e=>?_,λp hp=>absurd (show p∈([]:YD) from hp) (by simp),I3.hok.kept old,?_⟩
  ·have hi:no<=i:=by apply Ra;intro hlt;rw[Uj (by simpa using hlt),Ru,Ud hlt]at h2;cases h2
   rw[UT (by simpa using hi),U1,Uy]at h2;cases hcp:cap[i-no]? with
   |none=>rw[hcp]at h2;cases h2|some j=>
    rw[hcp]at h2;have h2:(σ[j]?).getD none=some v:=by simpa using h2
    have hs:σ[j]?=some (some v):=by
     cases z:σ[j]? with
     |none=>rw[z]at h2;cases h2|some w=>rw[z]at h2;have h2:w=some v:=h2;rw[h2]
    obtain⟨y,n1,n2,n3,n4,n5⟩:=B.cap (i-no) j hcp;have e0:no+(i-no)=i:=by omega
    rw[e0]at n1;have h1:Nb[i]?=some x:=h1;have hxy:y=x:=Option.some.inj (n1.symm.trans h1);subst hxy;obtain⟨m,hn,hl⟩:=I3.loc;obtain⟨u,ru,lk⟩:=hl j y v n2 hs n4;refine⟨u,ru,.inr ⟨?_,?_⟩⟩
    ·rcases h3 with z|z|z
     ·exact(XZ n3 z).elim
     ·exact .inl z
     ·exact .inr z
    ·rcases lk with⟨k1,_⟩|⟨_,c,k2,k3⟩
     ·exact absurd k1 n5
     ·obtain⟨c',hc'⟩:=Eg _ _ _ hcl y (.inl (FE n3));have:=JN _ _ _ hcl (λ_ _ z=>by cases z) y c' hc';have k2:X.env.cells.lookup y=some c:=k2;have hcc:c'=c:=Option.some.inj (this.symm.trans k2);subst hcc;exact⟨c',hc',k3.keeps old⟩
  ·obtain⟨v,z⟩:=I3.cell x c (JN _ _ _ hcl (λ_ _ z=>by cases z) x c e);exact⟨v,z.keeps old⟩
  ·exact I3.freeC x c (JN _ _ _ hcl (λ_ _ z=>by cases z) x c e)
  ·rw[Um,U1,Uh];exact B.len.symm
 have RbR:=DY no cap R2;have eK:(QI (II X scope cl hp.objs.size Nb {s2 with heap:=hp} H2 (s2.heap.objs.size::fp)) ca [] F0).K=X.K:=rfl;have eP:(QI (II X scope cl hp.objs.size Nb {s2 with heap:=hp} H2 (s2.heap.objs.size::fp)) ca [] F0).prog=X.prog:=rfl;have eW:(QI (II X scope cl hp.objs.size Nb {s2 with heap:=hp} H2 (s2.heap.objs.size::fp)) ca [] F0).w=X.w:=rfl;have eA:(QI (II X scope cl hp.objs.size Nb {s2 with heap:=hp} H2 (s2.heap.objs.size::fp)) ca [] F0).A=X.A:=rfl;have eE:(QI (II X scope cl hp.objs.size Nb {s2 with heap:=hp} H2 (s2.heap.objs.size::fp)) ca [] F0).env=compEnvC scope cl hp.objs.size X.env:=rfl;have eC:(QI (II X scope cl hp.objs.size Nb {s2 with heap:=hp} H2 (s2.heap.objs.size::fp)) ca [] F0).calm=true:=hc;have eX:∀b∈s2.heap.objs.size::fp,b∈(QI (II X scope cl hp.objs.size Nb {s2 with heap:=hp} H2 (s2.heap.objs.size::fp)) ca [] F0).ex:=λb hb=>hb;have eN:∀{pl:YD}{p:Addr×Obj},p∈(QI (II X scope cl hp.objs.size Nb {s2 with heap:=hp} H2 (s2.heap.objs.size::fp)) ca [] F0).pn++pl->p∈pl:=λh=>h;have toUn:∀{pl:YD}{σ':L2.St}{H':Hp}{s':Shared},Inv (QI (II X scope cl hp.objs.size Nb {s2 with heap:=hp} H2 (s2.heap.objs.size::fp)) ca [] F0) pl σ' H' s'->Un (PM (QI X ca pn F0).stack) (s2.heap.objs.size::fp) H2 H' hp s'.heap:=λI=>I.base;have toOs:∀{pl:YD}{σ':L2.St}{H':Hp}{s':Shared},Inv (QI (II X scope cl hp.objs.size Nb {s2 with heap:=hp} H2 (s2.heap.objs.size::fp)) ca [] F0) pl σ' H' s'->s'.os=s2.os:=λI=>I.os;generalize II X scope cl hp.objs.size Nb {s2 with heap:=hp} H2 (s2.heap.objs.size::fp)=Xb at okb hgB hiB heB Ib eK eP eW eA eE eC eX eN toUn toOs
 -- the iterator's records,through the block
 have FpB:∀{H:Hp}{pl:YD},(∀b∈fp,H b=none)->(∀p∈pl,p.1∉fp)->∀b∈fp,FpOk (QI Xb ca [] F0) pl H b:=λ{H pl} hn hpl b hb=>by
  have e0:=okb.exf b (eX b (Uw _ hb));refine⟨hn b hb,e0.1,?_,.inl (eX b (Uw _ hb)),e0.2,λp hp z=>?_⟩
  ·exact okb.exfs b (eX b (Uw _ hb))
  ·have hp':p∈pl:=eN hp;exact hpl p hp' (z ▸ hb)
 have FpD:∀{H:Hp},H s2.heap.objs.size=none->FpOk (QI Xb ca [] F0) [] H s2.heap.objs.size:=λ{H} hn=>by
  have e0:=okb.exf s2.heap.objs.size (eX _ Ux);refine⟨hn,e0.1,?_,.inl (eX _ Ux),e0.2,λp hp=>?_⟩
  ·exact okb.exfs s2.heap.objs.size (eX _ Ux)
  ·exact absurd (eN hp) (by simp)
 have st4:tn 0 h₁:=T.keep _ _ _ st2 λb hb o e=>old b o (by rw[<-hH2];exact Uc _ e)
 -- the invariant
 have loop:∀s4:Shared,s4 = {s2 with heap:=h₁,toks:=s2.toks+([]:List (Str×Value)).length}->codeAny (model X.prog X.w) X.A (.compLoop (.ListComp elt [⟨tg,iter,ifs,0⟩] scope pos) 0 (.ref it) (.ref s2.heap.objs.size) (compEnvC scope cl hp.objs.size X.env)) (RR (.ref s2.heap.objs.size) hp.objs.size) s4:=by
  rintro s4 rfl;obtain⟨P,hP⟩:∃P:Nat->Shared->Prop,∀n s',P n s'↔∃(i:Nat)(σ4:S3)(g4:G)(μ4:List Addr)(σ5:L2.St)(H4:Hp)(acc:List D)(accV:List V)(its:List Value)(k:Nat),Inv (QI Xb ca [] F0) [] σ5 H4 s'/\tn i s'.heap/\(∀b∈fp,H4 b=none)/\H4 s2.heap.objs.size=none/\s'.heap.get? s2.heap.objs.size=some {cls:=.type "list",data:=.seq its.toArray k}/\Vals accV its/\Ext X.K μ2 H2 μ4 H4/\Rep X.K ca μ4 σ4 g4 σ5 H4/\Dens X.K μ4 H4 accV acc/\YS src f tc me n i σ4 g4 acc=.ok ds g2/\acc.length<=i/\i+n<=SZ+1:=⟨_,λ_ _=>Iff.rfl⟩
  refine Lz P ?_ (src.top+1) ((hP _ _).2 ⟨0,GA no cap σ3,g1,μ2,_,H2,[],[],[],_,Ib,st4,λb hb=>(f2 b hb).1,fD.1,old _ _ hD3,.nil,.refl,RbR,.nil,hL,Ug _,by omega⟩);rintro n s5 h5;obtain⟨i,σ4,g4,μ4,σ5,H4,acc,accV,its,k,I5,st5,fr5,frD,hD5,va,e5,R5,da,hl5,ha5,hn5⟩:=(hP _ _).1 h5;cases n with
  |zero=>cases hl5|succ n=>
   unfold YS at hl5;have s1:=sim i H4 μ4 g4 e5 R5.g;have pinD:Inv (QI Xb ca [] F0) [(s2.heap.objs.size,{cls:=.type "list",data:=.seq its.toArray k})] σ5 H4 s5:=I5.pins_of λp hp=>by rw[Ur.mp hp];have z:=FpD frD;exact⟨hD5,frD,z.2.1,z.2.2.1,λv q=>by cases q⟩
   have nofp:∀p∈[(s2.heap.objs.size,({cls:=.type "list",data:=.seq its.toArray k}:Obj))],p.1∉fp:=λp hp=>by rw[Ur.mp hp];exact DnF
   have getD:∀{σ':L2.St}{H':Hp}{s':Shared}{pl:YD},Inv (QI Xb ca [] F0) ([(s2.heap.objs.size,({cls:=.type "list",data:=.seq its.toArray k}:Obj))]++pl) σ' H' s'->s'.heap.get? s2.heap.objs.size=some {cls:=.type "list",data:=.seq its.toArray k}/\H' s2.heap.objs.size=none:=λ{σ' H' s' pl} I'=>by have z:=I'.pin (s2.heap.objs.size,{cls:=.type "list",data:=.seq its.toArray k}) (UQ _ (Rl _ (Ur.mpr rfl)));exact⟨z.1,z.2.1⟩
   cases hat:src.at' g4 i with
   |none=>rw[hat]at hl5;cases hl5|some od=>
    rw[hat]at hl5 s1;cases od with
    |none=>
     cases hl5;have dn:=T.done (QI Xb ca [] F0) eP eW eK eC i _ s5 σ5 H4 (λ_ _=>False) pinD (FpB fr5 nofp) st5 s1;rw[eA]at dn;refine ZD dn λr s6 ⟨hr,I6⟩=>?_;subst hr;obtain⟨hD6,frD6⟩:=getD (pl:=[]) (by rw[UY];exact I6);have un:Un (PM (QI X ca pn F0).stack) (s2.heap.objs.size::fp) H2 H4 hp s6.heap:=toUn I6;have hok:HOk (QI X ca pn F0).prog (QI X ca pn F0).w H4 s6.heap:=by have:=I6.hok;rw[eP,eW]at this;exact this
     have os:s6.os=s2.os:=toOs I6;have I7:Inv (QI X ca pn F0) pins σ H4 s6:=Inv.call' (s':=s6) (ch:=s2.heap.objs.size::fp) I3 os un hok I6.bare λb hb=>⟨(exOk b hb).2.2.2.1,(exOk b hb).2.1,(exOk b hb).2.2.2.2.1,(exOk b hb).2.2.2.2.2⟩;have hCn:H4 hp.objs.size=none:=by have:=I6.free;rw[eE]at this;exact this
     have nsC:∃m,s6.heap.Ns hp.objs.size m:=by obtain⟨m,hm,_⟩:=I6.loc;rw[eE]at hm;exact⟨m,hm⟩
     refine fin _ _ s6 H4 μ4 accV its k I7 nsC (FpOk.mono fC hCn) (FpOk.mono fD frD6) DnC hD6 va ?_ e5 R5.g da;rw[da.length];have:=Y0;omega
    |some d=>
     obtain⟨go,yl⟩:=s1;dsimp only at hl5;cases hf:f d σ4 with
     |none=>rw[hf]at hl5;cases hl5|some σ6=>
      rw[hf]at hl5;dsimp only at hl5;have im:=T.item (QI Xb ca [] F0) eP eW eK eC i _ s5 σ5 H4 (λ_ _=>False) pinD (FpB fr5 nofp) st5 go;rw[eA]at im;refine ZD im λr s6 ⟨u,hr,h6⟩=>?_;subst hr;refine ZD h6 λ_ s7 ⟨x,H7,I7,r7,y7,st7,fr7⟩=>?_;obtain⟨e7,g7,q7⟩:=yl x H7 y7;have I7':=I7.pinned (FpB fr7 nofp) (T.obj _ _ st7);have R7:=R5.go e7 g7;have asg:=hgB [] F0 _ s7 σ5 H7 x u (λσ' H'=>H'=H7/\Rep X.K ca μ4 σ6 g4 σ' H7) I7' r7 (by have:Xb.K=X.K:=eK;rw[this];exact⟨σ4,g4,μ4,d,σ6,R7,q7,hf,λσ' R'=>⟨rfl,R'⟩⟩);rw[eP,eW,eA,eE]at asg;refine ZD (oP asg) λ_ s8 ⟨σ8,H8,I8,e8,R8⟩=>?_;subst e8;cases ht:tc σ6 g4 with
      |raise _ _=>rw[ht]at hl5;cases hl5|stuck=>rw[ht]at hl5;cases hl5|ok b g9=>
       rw[ht]at hl5;have hl5:(if b=true then (match me σ6 g9 with | .ok y g2=>YS src f tc me n (i+1) σ6 g2 (acc++[y])|_=>.stuck) else YS src f tc me n (i+1) σ6 g9 acc)=.ok ds g2:=hl5;have tst:=hiB _ s8 σ8 _ (λb' H'=>b'=b/\∃μ9,Ext X.K μ4 H8 μ9 H'/\Rep X.K ca μ9 σ6 g9 σ8 H') I8 (by have:Xb.K=X.K:=eK;rw[this];refine⟨σ6,g4,μ4,R8,?_⟩;rw[ht];exact λH' μ' e' r'=>⟨rfl,μ',e',R8.go e' r'⟩);have eP':Xb.prog=X.prog:=eP;have eW':Xb.w=X.w:=eW;have eA':Xb.A=X.A:=eA;have eE':Xb.env=compEnvC scope cl hp.objs.size X.env:=eE;rw[eP',eW',eA',eE']at tst;refine ZD tst λok s9 ⟨H9,I9,eb,μ9,e9,R9⟩=>?_;subst eb;have again:∀{σ':L2.St}{H':Hp}{s':Shared},Inv (QI Xb ca [] F0) ([(s2.heap.objs.size,({cls:=.type "list",data:=.seq its.toArray k}:Obj))]++Gu fp s7.heap) σ' H' s'->Inv (QI Xb ca [] F0) [] σ' H' s'/\tn (i+1) s'.heap/\∀b∈fp,H' b=none:=λ{σ' H' s'} I'=>by refine⟨I'.pins_of λp hp=>absurd hp (by simp),T.keep _ _ _ st7 λb hb o e=>(I'.pin (b,o) (UQ _ (UQ _ (VC hb e)))).1,λb hb=>?_⟩;obtain⟨o,e,_⟩:=T.obj _ _ st7 b hb;exact(I'.pin (b,o) (UQ _ (UQ _ (VC hb e)))).2.1
       cases ok with
       |false =>rw[Uf Ue]at hl5 ⊢;obtain⟨J1,J2,J3⟩:=again I9;obtain⟨K1,K2⟩:=getD I9;refine⟨n,TB n,(hP _ _).2 ⟨i+1,σ6,g9,μ9,σ8,H9,acc,accV,its,k,J1,J2,J3,K2,K1,va,(e5.trans e7).trans e9,R9,(da.mono e7).mono e9,hl5,by omega,by omega⟩⟩|true=>
        rw[Ud rfl]at hl5 ⊢;cases hm:me σ6 g9 with
        |raise _ _=>rw[hm]at hl5;cases hl5|stuck=>rw[hm]at hl5;cases hl5|ok y g10=>
         rw[hm]at hl5;have hl5:YS src f tc me n (i+1) σ6 g10 (acc++[y])=.ok ds g2:=hl5;have el:=heB [] F0 _ s9 σ8 H9 (λvy H'=>∃μ10,Ext X.K μ9 H9 μ10 H'/\Rep X.K ca μ10 σ6 g10 σ8 H'/\Den X.K μ10 H' vy y) I9 (by have:Xb.K=X.K:=eK;rw[this];refine⟨σ6,g9,μ9,R9,?_⟩;rw[hm];exact λv H' μ' e' r' q'=>⟨μ',e',R9.go e' r',q'⟩);rw[eP,eW,eA,eE]at el;refine ZD (oP el) λuy s10 ⟨vy,H10,I10,ry,μ10,e10,R10,qy⟩=>?_;obtain⟨K1,K2⟩:=getD I10;obtain⟨J1,J2,J3⟩:=again I10;have hlen:its.length=acc.length:=by rw[<-va.length,da.length]
         refine By F.slot_list_append ⟨_,K1,rfl⟩ F.entry_list_append (F.args_list_append_2 _ _) (PySem.list_append s2.heap.objs.size its.toArray k uy (by rw[Us,Td];have:SZ=1000000:=rfl;omega)) ⟨K1,?_⟩;have up:=PySem.IsL.update K1 (·.push uy);rw[show its.toArray.push uy=(its++[uy]).toArray by simp]at up;have upo:∀b o,b≠s2.heap.objs.size->s10.heap.get? b=some o->(s10.heap.update s2.heap.objs.size (Obj.mapSeq (·.push uy))).get? b=some o:=λb o hb e=>(Tl s10.heap (Obj.mapSeq (·.push uy)) (Ne.symm hb)).trans e;obtain⟨d0,d1,d2,d3,d4,d5⟩:=FpD K2;refine⟨n,TB n,(hP _ _).2 ⟨i+1,σ6,g10,μ10,σ8,H10,acc++[y],accV++[vy],its++[uy],_,J1.turned (t':=s10.toks) upo d0 d1 d3 d4 d5,T.keep _ _ _ J2 λb hb o e=>upo b o (λz=>DnF (z ▸ hb)) e,J3,K2,up,va.append (.cons ry .nil),((e5.trans e7).trans e9).trans e10,R10,((da.mono e7).mono e9).mono e10 |>.append (.cons qy .nil),hl5,by rw[Um,U8];omega,by omega⟩⟩
 exact codeAny_compStart_list (loop _ rfl) (T.self _ 0 _ _ _ st4 (loop _ rfl))
end
section
variable{X:Cx}{ca:Nat->Addr}
theorem DZ{K:Frag}{Φ:XS}{σ:L2.St}{Q:VK}{H:Hp}{μ:List Addr}{mi:MI}{no:Nat}{cap:List Nat}{f:MG}{tc:MT}{me:ME}{σ3:S3}{g:G}(p:Post K ca Φ σ Q H μ (ZN mi no cap f tc me σ3 g)):
  ∃src g1 ds g2,mi σ3 g=.ok src g1/\src.top<=SZ/\YS src f tc me (src.top+1) 0 (GA no cap σ3) g1 []=.ok ds g2/\Post K ca Φ σ Q H μ (.ok (.ref g2.length) (g2++[.lst ds])):=by
 unfold ZN at p;cases hm:mi σ3 g with
 |raise _ _=>rw[hm]at p;exact p.elim|stuck=>rw[hm]at p;exact p.elim|ok src g1=>
  rw[hm]at p;dsimp only at p;by_cases hz:src.top<=SZ
  ·rw[Ud hz]at p;cases hL:YS src f tc me (src.top+1) 0 (GA no cap σ3) g1 []with
   |raise _ _=>rw[hL]at p;exact p.elim|stuck=>rw[hL]at p;exact p.elim|ok ds g2=>rw[hL]at p;exact⟨src,g1,ds,g2,rfl,hz,hL,p⟩
  ·rw[Uf hz]at p;exact p.elim
theorem Ve{tg iter elt:Expr}{ifs:List Expr}{scope:Scope}{pos:Pos}{Nb:List Str}{no:Nat}{cap:List Nat}{mi:MI}{f:MG}{tc:MT}{me:ME}(B:BScope X scope Nb no cap)(hc:X.calm=true)(hi:Dj ca X tg iter mi)(hb:∀cl C s3 H3 ex,jH ca (II X scope cl C Nb s3 H3 ex) tg f/\sC ca (II X scope cl C Nb s3 H3 ex) ifs tc/\QD ca (II X scope cl C Nb s3 H3 ex) elt me)(hs:∀x,foldedSetIterable iter X.env x=pure x:=by intro _;rfl):QD ca X (.ListComp elt [⟨tg,iter,ifs,0⟩] scope pos) (ZN mi no cap f tc me):=by
 intro pn Φ pins s σ H Q I' ⟨σ3,g,μ,R,p⟩;obtain⟨src,g1,ds,g2,hm,hz,hL,p⟩:=DZ p;have I:Inv (QI X ca pn F0) pins σ H s:=Inv.wish I' _;suffices hh:wpAny (model X.prog X.w) X.A (eval (.ListComp elt [⟨tg,iter,ifs,0⟩] scope pos) X.env) (EP (QI X ca pn F0) pins σ Q) (λ_ _=>False) s from
  TC hh (λu s' ⟨v,H',J,r,q⟩=>⟨v,H',Inv.wish J _,r,q⟩) λ_ _ z=>z.elim
 obtain⟨cl,hcl⟩:=E9 (cells:=X.env.cells) scope.names [] λy hy hf=>I.ok.has y.1 (B.free y hy hf);rw[eval_ListComp];refine wpAny_comprehension_free (env:=X.env) (use:=none) rfl hs (HI hcl) B.kind B.loc ?_;refine ZD (oP (hi pn F0 pins s σ H (λJ H'=>∃μ',Ext X.K μ H μ' H'/\GRep X.K ca μ' H' g1/\As X.K ca μ' H' src J) I ⟨σ3,g,μ,R,?_⟩)) λv s1 h1=>ZD (oP h1) λitv s2 h2=>?_
 ·rw[hm];exact λJ H' μ' e r sm=>⟨μ',e,r,sm⟩
 ·obtain⟨it,fp,tn,J,H2,e,I2,T,st2,f2,μ2,e2,r2,sim⟩:=h2;subst e;refine At (X:=X) (pn:=pn) (RR:=λacc C=>compPost (model X.prog X.w) X.A (λ_ _=>False) none (EP (QI X ca pn F0) pins σ Q) acc C) B hc hb hcl I2 T st2 f2 (R.go e2 r2) sim hz hL ?_;intro D C s' H4 μ4 accV its k I4 nsC fC fD dc hD va hl e4 r4 da;obtain⟨m,nsC⟩:=nsC;refine⟨m,nsC,λh'' hs''=>?_⟩;have I5:Inv (QI X ca pn F0) pins σ H4 {s' with heap:=h''}:=I4.turned (t':=s'.toks) (λb o hb e=>hs''.extBut b o hb e) fC.1 fC.2.1 fC.2.2.2.1 fC.2.2.2.2.1 fC.2.2.2.2.2;have hD':=hs''.extBut _ _ dc hD;have I6:=Inv.track (o:=.lst accV) I5 fD ⟨hl,its,k,va,hD'⟩;refine⟨.ref D,_,I6,rfl,p _ _ (μ4++[D]) ((e2.trans e4).trans (ZC fD.1)) (r4.push fD.1 ⟨accV,Qy,da.mono (ZC fD.1)⟩) (.ref ?_)⟩;rw[<-r4.len];simp
end
section
variable{X:Cx}{ca:Nat->Addr}{a b:Expr}{ma mb:ME}{pos:Pos}
theorem D0:OpR X (binaryOp .Add) (λx y H Q=>∃a b ys,x=.ref a/\y=.ref b/\SqT X.K H a []/\SqT X.K H b ys/\Q (.ref b) H):=by
 intro pins s σ H x y v u Q I rx ry h;obtain⟨a,b,ys,rfl,rfl,ha,hb,q⟩:=h;cases rx;cases ry;obtain⟨us,r1,p1,_⟩:=I.tuple ha;obtain⟨ts,r2,p2,_⟩:=I.tuple hb;cases r1;obtain⟨⟨cls,dd,data,sl⟩,ho,hc,n,hd⟩:=id p1;obtain⟨⟨cls2,dd2,data2,sl2⟩,ho2,hc2,n2,hd2⟩:=id p2;simp only at hc hd hc2 hd2;subst hc hd hc2 hd2;exact concat_meets ⟨_,ho,rfl⟩ ⟨_,ho2,rfl⟩ Bk seq_tuple_add RZ RT (RP _ _)
   (tuple_addW0 a b _ _ n n2 dd dd2 sl sl2 (by simp)) ⟨ho,ho2,⟨.ref b,H,I,rfl,q⟩⟩
theorem D1{K:Frag}:Z1 K ca (λx y H Q=>((∃i j,x=.int i/\y=.int j/\Q (.int (i+j)) H)\/iY K x y H Q)\/(∃a b ys,x=.ref a/\y=.ref b/\SqT K H a []/\SqT K H b ys/\Q (.ref b) H)) ZL:=by
 intro Φ σ H μ g x y dx dy Q r qx qy p;unfold ZL at p;cases qx with
 |int i=>
  cases qy with
  |int j=>exact .inl (.inl ⟨i,j,rfl,rfl,p _ H μ .refl r (.int _)⟩)|_=>exact p.elim
 |@tup ax xs dsx hx hsx=>
  cases qy with
  |@tup ay ys dsy hy hsy=>
   dsimp only at p;by_cases z:dsx.length+dsy.length<=SZ
   ·rw[Ud z]at p;by_cases hx0:dsx=[]
    ·subst hx0;cases hsx;exact .inr ⟨ax,ay,ys,rfl,rfl,hx,hy,p _ H μ .refl r (.tup hy hsy)⟩
    ·refine .inl (.inr ⟨ax,ay,xs,ys,rfl,rfl,hx,hy,?_,by rw[hsx.length,hsy.length];exact Uo z Y0,λe=>?_,λ_ t ht=>p _ _ μ (Q3 ht) (r.new ht) (.tup (.of Qy) ((hsx.append hsy).mono (Q3 ht)))⟩)
     ·rintro rfl;cases hsx;exact hx0 rfl
     ·subst e;cases hsy;rw[UY]at p;exact p _ H μ .refl r (.tup hx hsx)
   ·rw[Uf z]at p;exact p.elim
  |_=>exact p.elim
 |_=>exact p.elim
theorem JO(ha:QD ca X a ma)(hb:QD ca X b mb):QD ca X (.BinOp a .Add b pos) (Qd ZL ma mb):=GD (λ_ _=>(op_add.or eQ).or D0) D1 ha hb
theorem LA{K:Frag}{C:Int->Int->Prop}{h:Int->Int->V}{f:D->D->G->Res D}(hf:∀Φ σ i j g Q H μ,GRep K ca μ H g->Post K ca Φ σ Q H μ (f (.int i) (.int j) g)->C i j/\Q (h i j) H)(hn:∀Φ σ x y g Q H μ,Post K ca Φ σ Q H μ (f x y g)->∃i j,x=.int i/\y=.int j):Z1 K ca (rI C h) f:=by intro Φ σ H μ g x y dx dy Q r qx qy p;obtain⟨i,j,rfl,rfl⟩:=hn Φ σ dx dy g Q H μ p;cases qx;cases qy;obtain⟨c,q⟩:=hf Φ σ i j g Q H μ r p;exact⟨i,j,rfl,rfl,c,q⟩
theorem MY{K:Frag}{h:Int->Int->V}{f:D->D->G->Res D}(hf:∀Φ σ i j g Q H μ,GRep K ca μ H g->Post K ca Φ σ Q H μ (f (.int i) (.int j) g)->Q (h i j) H)(hn:∀Φ σ x y g Q H μ,Post K ca Φ σ Q H μ (f x y g)->∃i j,x=.int i/\y=.int j):Z1 K ca (dI h) f:=by intro Φ σ H μ g x y dx dy Q r qx qy p;obtain⟨i,j,rfl,rfl⟩:=hn Φ σ dx dy g Q H μ p;cases qx;cases qy;exact⟨i,j,rfl,rfl,hf Φ σ i j g Q H μ r p⟩
theorem Kx{K:Frag}{f:D->D->G->Res D}(h:∀x y g,(∃i j,x=D.int i/\y=D.int j)\/f x y g=.stuck)(Φ:XS)(σ:L2.St)(x y:D)(g:G)(Q:VK)(H:Hp)(μ:List Addr)(p:Post K ca Φ σ Q H μ (f x y g)):∃i j,x=.int i/\y=.int j:=by
 rcases h x y g with z|z
 ·exact z
 ·rw[z]at p;exact p.elim
theorem X0(ha:QD ca X a ma)(hb:QD ca X b mb):QD ca X (.BinOp a .Sub b pos) (Qd YW ma mb):=GD (λ_ _=>kU) (MY (λΦ σ i j g Q H μ r p=>p _ H μ .refl r (.int _)) (Kx λx y g=>by cases x with|int i=>(cases y with|int j=>exact .inl ⟨_,_,rfl,rfl⟩|_=>exact .inr rfl)|_=>exact .inr rfl)) ha hb
theorem Jx(ha:QD ca X a ma)(hb:QD ca X b mb):QD ca X (.BinOp a .FloorDiv b pos) (Qd Yx ma mb):=
 GD (λ_ _=>dZ) (LA (λΦ σ i j g Q H μ r p=>by
  unfold Yx at p;by_cases z:0<j/\j<1073741824
  ·dsimp only at p;rw[Ud z]at p;exact⟨z,p _ H μ .refl r (.int _)⟩
  ·dsimp only at p;rw[Uf z]at p;exact p.elim) (Kx λx y g=>by cases x with|int i=>(cases y with|int j=>exact .inl ⟨_,_,rfl,rfl⟩|_=>exact .inr rfl)|_=>exact .inr rfl)) ha hb
theorem Y1(ha:QD ca X a ma)(hb:QD ca X b mb):QD ca X (.BinOp a .Mod b pos) (Qd ZM ma mb):=
 GD (λ_ _=>kX) (LA (λΦ σ i j g Q H μ r p=>by
  unfold ZM at p;by_cases z:0<j
  ·dsimp only at p;rw[Ud z]at p;exact⟨z,p _ H μ .refl r (.int _)⟩
  ·dsimp only at p;rw[Uf z]at p;exact p.elim) (Kx λx y g=>by cases x with|int i=>(cases y with|int j=>exact .inl ⟨_,_,rfl,rfl⟩|_=>exact .inr rfl)|_=>exact .inr rfl)) ha hb
theorem Xy(ha:QD ca X a ma)(hb:QD ca X b mb):QD ca X (.BinOp a .Mult b pos) (Qd ZE ma mb):=
 GD (λ_ _=>kW) (λΦ σ H μ g x y dx dy Q r qx qy p=>by
  unfold ZE at p;cases qx with
  |int i=>
   cases qy with
   |int j=>
    dsimp only at p;by_cases z:cM i\/cM j
    ·rw[Ud z]at p;exact⟨i,j,rfl,rfl,z,p _ H μ .refl r (.int _)⟩
    ·rw[Uf z]at p;exact p.elim
   |_=>exact p.elim
  |_=>exact p.elim) ha hb
theorem Kz(ha:QD ca X a ma):QD ca X (.UnaryOp .USub a pos) (Qt XY ma):=
 uB (λ_ _=>kZ) (λΦ σ H μ g x dx Q r qx p=>by
  cases qx with
  |int i=>exact⟨i,rfl,p _ H μ .refl r (.int _)⟩|_=>exact p.elim) ha
theorem Xz{K:Frag}(r:Int->Int->Bool):Z1 K ca (dI λi j=>.bl (r i j)) (Ao r):=MY (λΦ σ i j g Q H μ r p=>p _ H μ .refl r (.bl _)) (Kx λx y g=>by cases x with|int i=>(cases y with|int j=>exact .inl ⟨_,_,rfl,rfl⟩|_=>exact .inr rfl)|_=>exact .inr rfl)
theorem uD(ha:QD ca X a ma)(hb:QD ca X b mb):QD ca X (.Compare a [.Gt] [b] pos) (Qd Lk ma mb):=IC (λ_ _=>iU) (Xz _) ha hb (Xw b)
theorem GF(ha:QD ca X a ma)(hb:QD ca X b mb):Gg ca X (.Compare a [.Lt] [b] pos) (Ql (Qd HF ma mb)):=JG (λ_ _=>iS) (Xz _) ha hb (Xw b)
theorem D2(ha:QD ca X a ma)(hb:QD ca X b mb):Gg ca X (.Compare a [.LtE] [b] pos) (Ql (Qd Oq ma mb)):=JG (λ_ _=>iT) (Xz _) ha hb (Xw b)
theorem P9(ha:QD ca X a ma)(hb:QD ca X b mb):Gg ca X (.Compare a [.Gt] [b] pos) (Ql (Qd Lk ma mb)):=JG (λ_ _=>iU) (Xz _) ha hb (Xw b)
theorem D3(ha:QD ca X a ma)(hb:QD ca X b mb):Gg ca X (.Compare a [.GtE] [b] pos) (Ql (Qd lN ma mb)):=JG (λ_ _=>pP) (Xz _) ha hb (Xw b)
end
section
variable{X:Cx}{ca:Nat->Addr}{pins:YD}{σ:L2.St}{H:Hp}{s:Shared}{μ:List Addr}{g:G}
theorem MZ:∀(xs ys:List D)(b:Bool),HG eq xs ys=some b->∃e:Nat->Bool,(∀(j:Nat)(x y:D),xs[j]?=some x->ys[j]?=some y->eq x y=some (e j))/\b=((List.range (min xs.length ys.length)).all e&&(xs.length==ys.length))
 |[],[],b,h=>by cases h;exact⟨λ_=>true,λj x y h=>by simp at h,by simp⟩
 |[],_::ys,b,h=>by cases h;exact⟨λ_=>true,λj x y h=>by simp at h,by simp⟩
 |_::xs,[],b,h=>by cases h;exact⟨λ_=>true,λj x y _ h=>by simp at h,by simp⟩
 |x::xs,y::ys,b,h=>by
  unfold HG at h;cases h1:eq x y with
  |none=>rw[h1]at h;cases h|some c=>
   cases h2:HG eq xs ys with
   |none=>rw[h1,h2]at h;cases h|some d=>
    rw[h1,h2]at h;cases h;obtain⟨e,e1,e2⟩:=MZ xs ys d h2;refine⟨λj=>match j with|0=>c|j+1=>e j,λj x' y' hx hy=>?_,?_⟩
    ·cases j with
     |zero =>simp at hx hy;subst hx hy;exact h1|succ j =>simp at hx hy;exact e1 j x' y' hx hy
    ·rw[UA,UA,Nat.add_min_add_right,List.range_succ_eq_map,Rs,List.all_map,e2];simp[Function.comp_def,Bool.and_assoc]
theorem D4{A:Around}{eq:D->D->Option Bool}{vs ws:List V}{ds es:List D}{us ts:List Value}{e:Nat->Bool}(qv:Dens X.K μ H vs ds)(qw:Dens X.K μ H ws es)(rv:Vals vs us)(rw':Vals ws ts)(he:∀(j:Nat) (x y:D),ds[j]?=some x->es[j]?=some y->eq x y=some (e j))(ih:∀{v w:V} {d d':D} {u t:Value} {b:Bool},Den X.K μ H v d->Den X.K μ H w d'->RelV v u->RelV w t->eq d d'=some b->SeqAt.EqAt A s u t b):
  ∀(j:Nat)(h1:j<us.toArray.size)(h2:j<ts.toArray.size),SeqAt.EqAt A s us.toArray[j] ts.toArray[j] (e j):=by
 intro j h1 h2;have l1:j<us.length:=by simpa using h1
 have l2:j<ts.length:=by simpa using h2
 have l3:j<vs.length:=by rw[rv.length];exact l1
 have l4:j<ws.length:=by rw[rw'.length];exact l2
 obtain⟨x,hx,qx⟩:=qv.getV (i:=j) (v:=vs[j]) (by simp[l3]);obtain⟨y,hy,qy⟩:=qw.getV (i:=j) (v:=ws[j]) (by simp[l4]);obtain⟨u,hu,ru⟩:=rv.get (i:=j) (x:=vs[j]) (by simp[l3]);obtain⟨t,ht,rt⟩:=rw'.get (i:=j) (x:=ws[j]) (by simp[l4]);have eu:us.toArray[j]=u:=by
  have:us[j]?=some us[j]:=by simp[l1]
  rw[this]at hu;simpa using hu
 have et:ts.toArray[j]=t:=by
  have:ts[j]?=some ts[j]:=by simp[l2]
  rw[this]at ht;simpa using ht
 rw[eu,et];exact ih qx qy ru rt (he j x y hx hy)
theorem fG{A:Around}{eq:D->D->Option Bool}{a c:Addr}{vs ws:List V}{ds es:List D}{b:Bool}(hu:A.units<cLine)(I:Inv X pins σ H s)(h1:SqL X.K H a vs)(q1:Dens X.K μ H vs ds)(h2:SqL X.K H c ws)(q2:Dens X.K μ H ws es)(ih:∀{v w:V} {d d':D} {u t:Value} {b:Bool},Den X.K μ H v d->Den X.K μ H w d'->RelV v u->RelV w t->eq d d'=some b->SeqAt.EqAt A.in1 s u t b)(h:(if ds.length=es.length then HG eq ds es else some false)=some b):SeqAt.RcAt A s (.ref a) (.ref c) b:=by
 obtain⟨us,r1,p1,_⟩:=I.list h1;obtain⟨ts,r2,p2,_⟩:=I.list h2;have l1:us.toArray.size=ds.length:=by rw[Us,<-r1.length,q1.length]
 have l2:ts.toArray.size=es.length:=by rw[Us,<-r2.length,q2.length]
 by_cases hl:ds.length=es.length
 ·rw[Ud hl]at h;obtain⟨e,e1,e2⟩:=MZ ds es b h;have q:=SeqAt.RcAt.lists (A:=A) p1.isList p2.isList (by rw[l1,l2,hl]) hu (e:=e) (D4 q1 q2 r1 r2 e1 ih);rw[l1]at q;rw[e2,<-hl,Nat.min_self];simpa using q
 ·rw[Uf hl]at h;cases h;exact SeqAt.RcAt.lists_lengths p1.isList p2.isList (by rw[l1,l2];simpa using hl) hu
theorem M0(I:Inv X pins σ H s)(h:SqT X.K H a vs):∃its,Vals vs its/\NK.Tp s.heap a its:=by obtain⟨its,rv,⟨o,ho,hc,n,hd⟩,_⟩:=I.tuple h;exact⟨its,rv,o,_,n,ho,hc,hd,by simp⟩
theorem Sa:∀{ds:List D}{vs:List V}{its:List Value}{ks:List Int},Dens X.K μ H vs ds->Vals vs its->Xx ds=some ks->NK.Al ((NK.intV X.prog X.w).is s.heap) ks its
 |[],_,_,_,.nil,.nil,h=>by cases h;exact .nil
 |.int i::r,_,_,ks,.cons q qs,.cons rv rvs,h=>by have h:(Xx r).map (i :: ·)=some ks:=h;obtain⟨js,h1,rfl⟩:=US.mp h;cases q;obtain⟨t,rfl⟩:=rv;exact .cons (show Value.isInt i (.int i t)=true by simp[Value.isInt]) (Sa qs rvs h1)
theorem Bf(I:Inv X pins σ H s)(q:Den X.K μ H v (.tup ds))(rv:RelV v u)(h:Xx ds=some ks):(NK.lstV (NK.intV X.prog X.w)).is s.heap ks u:=by
 cases q with
 |tup ht hs =>cases rv;obtain⟨its,r1,r2⟩:=M0 I ht;exact⟨_,its,rfl,r2,Sa hs r1 h⟩
theorem lY(I:Inv X pins σ H s){A:Around}(hu:A.units+1<cLine){v w:V}{d e:D}{u t:Value}{b:Bool}(qv:Den X.K μ H v d)(qw:Den X.K μ H w e)(rv:RelV v u)(rw':RelV w t)(h:lO d e=some b):SeqAt.EqAt A s u t b:=by
 unfold lO at h;cases qv with
 |tup t1 s1=>cases qw with
  |tup t2 s2=>
   rename_i a1 vs ds a2 ws es;dsimp only at h;cases h1:Xx ds with
   |none=>rw[h1]at h;cases h|some x=>cases h2:Xx es with
    |none=>rw[h1,h2]at h;cases h|some y =>rw[h1,h2]at h;cases h;have k1:=Bf I (.tup t1 s1) rv h1;have k2:=Bf I (.tup t2 s2) rw' h2;intro prog w' E' Q' hq;exact(NK.lstV (NK.intV prog w')).eqBool hu k1 k2 hq
  |_=>cases h
 |_=>cases h
def qG(K:Frag):R2:=λx y H Q=>∃(μ:List Addr)(a c:Addr)(vs ws:List V)(ds es:List D)(b:Bool),x=.ref a/\y=.ref c/\Dens K μ H vs ds/\Dens K μ H ws es/\SqL K H a vs/\SqL K H c ws/\(if ds.length=es.length then HG lO ds es else some false)=some b/\Q (.bl b) H
theorem D5(hu:X.A.units+16<cLine):OpR X (compareOp .Eq) (qG X.K):=by intro pins s σ H x y v u Q I rx ry h;obtain⟨μ,a,c,vs,ws,ds,es,b,rfl,rfl,q1,q2,h1,h2,h3,q⟩:=h;cases rx;cases ry;exact(fG (A:=X.A) (by omega) I h1 q1 h2 q2 (λa1 a2 a3 a4 a5=>lY I (by show X.A.units+1+1<cLine;omega) a1 a2 a3 a4 a5) h3) _ _ _ _ ⟨.bl b,H,I,rfl,q⟩
theorem Sb{K:Frag}:Z1 K ca (λx y H Q=>vG x y H Q\/qG K x y H Q) Vp:=by
 intro Φ σ H μ g x y dx dy Q r qx qy p;unfold Vp uA at p;cases qx with
 |int i=>
  cases qy with
  |int j=>exact .inl ⟨rfl,by rw[Gd];exact p _ H μ .refl r (.bl _)⟩|_=>exact p.elim
 |str i=>
  cases qy with
  |str j=>exact .inl ⟨rfl,by rw[Le];exact p _ H μ .refl r (.bl _)⟩|_=>exact p.elim
 |@ref n a hn=>
  cases qy with
  |@ref m c hm=>
   dsimp only at p;cases hg:g[n]? with
   |none=>rw[hg]at p;exact p.elim|some o1=>
    cases hg2:g[m]? with
    |none=>rw[hg,hg2]at p;cases o1<;>exact p.elim|some o2=>
     rw[hg,hg2]at p;obtain⟨b1,hb1,ob1⟩:=r.addr hg;obtain⟨b2,hb2,ob2⟩:=r.addr hg2;rw[hn]at hb1;cases hb1;rw[hm]at hb2;cases hb2;cases o1 with
     |lst xs=>
      cases o2 with
      |lst ys=>
       obtain⟨vs,hH1,q1⟩:=ob1;obtain⟨ws,hH2,q2⟩:=ob2;dsimp only at p;cases e:(if xs.length=ys.length then HG lO xs ys else some false) with
       |none=>rw[e]at p;exact p.elim|some b=>rw[e]at p;exact .inr ⟨μ,a,c,vs,ws,xs,ys,b,rfl,rfl,q1,q2,.of hH1,.of hH2,e,p _ H μ .refl r (.bl _)⟩
      |_=>exact p.elim
     |_=>exact p.elim
  |_=>exact p.elim
 |_=>exact p.elim
theorem fH{K:Frag}:Z1 K ca vH MK:=by
 intro Φ σ H μ g x y dx dy Q r qx qy p;unfold MK vN at p;cases qx with
 |int i=>
  cases qy with
  |int j=>exact⟨rfl,by rw[Gd];exact p _ H μ .refl r (.bl _)⟩|_=>exact p.elim
 |bl i=>
  cases qy with
  |bl j=>exact⟨rfl,by rw[Ow];exact p _ H μ .refl r (.bl _)⟩|_=>exact p.elim
 |_=>exact p.elim
end
section
variable{X:Cx}{ca:Nat->Addr}{a b e:Expr}{ma mb me:ME}{pos p:Pos}{k:Nat}
theorem qH(hr:Room k A):A.units+16<cLine:=by have:=hr.units;omega
theorem Au(hr:Room k X.A)(ha:QD ca X a ma)(hb:QD ca X b mb):QD ca X (.Compare a [.Eq] [b] pos) (Qd Vp ma mb):=IC (λpn Φ=>op_eq.or (D5 (X:=QI X ca pn Φ) (qH hr))) Sb ha hb (Xw b)
theorem X1(hr:Room k X.A)(ha:QD ca X a ma)(hb:QD ca X b mb):Gg ca X (.Compare a [.Eq] [b] pos) (Ql (Qd Vp ma mb)):=JG (λpn Φ=>op_eq.or (D5 (X:=QI X ca pn Φ) (qH hr))) Sb ha hb (Xw b)
theorem FF(_:Room k X.A)(ha:QD ca X a ma)(hb:QD ca X b mb):Gg ca X (.Compare a [.NotEq] [b] pos) (Ql (Qd MK ma mb)):=JG (λ_ _=>pO) fH ha hb (Xw b)
theorem M1{K:Frag}{μ:List Addr}{H:Hp}{x:V}{d:D}(q:Den K μ H x d):decide (x=.non)=isNon d:=by cases q<;>simp[isNon]
theorem Sc{K:Frag}:Z1 K ca (λx y H Q=>y=.non/\Q (.bl (decide (x=.non))) H) P3:=by
 intro Φ σ H μ g x y dx dy Q r qx qy p;cases qy with
 |non=>exact⟨rfl,p _ H μ .refl r (by rw[M1 qx];exact .bl _)⟩|_=>exact p.elim
theorem OM{K:Frag}:Z1 K ca (λx y H Q=>y=.non/\Q (.bl (!decide (x=.non))) H) Kq:=by
 intro Φ σ H μ g x y dx dy Q r qx qy p;cases qy with
 |non=>exact⟨rfl,p _ H μ .refl r (by rw[M1 qx];exact .bl _)⟩|_=>exact p.elim
theorem uE(ha:QD ca X a ma)(hb:QD ca X b mb):QD ca X (.Compare a [.Is] [b] pos) (Qd P3 ma mb):=IC (λ_ _=>Dr) Sc ha hb (Xw b)
theorem IJ(ha:QD ca X a ma)(hb:QD ca X b mb):Gg ca X (.Compare a [.Is] [b] pos) (Ql (Qd P3 ma mb)):=JG (λ_ _=>Dr) Sc ha hb (Xw b)
theorem KA(ha:QD ca X a ma)(hb:QD ca X b mb):Gg ca X (.Compare a [.IsNot] [b] pos) (Ql (Qd Kq ma mb)):=JG (λ_ _=>eB) OM ha hb (Xw b)
theorem GG{K:Frag}{μ:List Addr}{H:Hp}{vs:List V}{ds:List D}{i:Int}{d:D}(q:Dens K μ H vs ds)(h:Ll ds i=some d):∃v,oM vs i=some v/\Den K μ H v d:=by
 unfold Ll at h;cases hj:An ds.length i with
 |none=>rw[hj]at h;cases h|some j =>rw[hj]at h;obtain⟨v,h1,h2⟩:=q.get (show ds[j]?=some d from h);refine⟨v,?_,h2⟩;unfold oM;rw[q.length,show oK ds.length i=some j from hj];exact h1
theorem fI{K:Frag}:Z1 K ca (λx y H Q=>pU K x y H Q\/pV K x y H Q) QZ:=by
 intro Φ σ H μ g x y dx dy Q r qx qy p;unfold QZ at p;cases qx with
 |tup ht hs=>
  cases qy with
  |int i=>
   dsimp only at p;rename_i a vs ds;cases h:Ll ds i with
   |none=>rw[h]at p;exact p.elim|some d =>rw[h]at p;obtain⟨v,h1,h2⟩:=GG hs h;exact .inr ⟨a,vs,i,v,rfl,rfl,ht,h1,p v H μ .refl r h2⟩
  |_=>exact p.elim
 |fl ht hs=>
  cases qy with
  |int i=>
   dsimp only at p;rename_i a vs ds;cases h:Ll ds i with
   |none=>rw[h]at p;exact p.elim|some d =>rw[h]at p;obtain⟨v,h1,h2⟩:=GG hs h;exact .inl ⟨a,vs,i,v,rfl,rfl,ht.sq,h1,p v H μ .refl r h2⟩
  |_=>exact p.elim
 |@ref n a hn=>
  cases qy with
  |int i=>
   dsimp only at p;cases hg:g[n]? with
   |none=>rw[hg]at p;exact p.elim|some o=>
    rw[hg]at p;obtain⟨a',ha',ob⟩:=r.addr hg;rw[hn]at ha';cases ha';cases o with
    |lst ds=>
     obtain⟨vs,hH,hs⟩:=ob;dsimp only at p;cases h:Ll ds i with
     |none=>rw[h]at p;exact p.elim|some d =>rw[h]at p;obtain⟨v,h1,h2⟩:=GG hs h;exact .inl ⟨a,vs,i,v,rfl,rfl,.of hH,h1,p v H μ .refl r h2⟩
    |_=>exact p.elim
  |_=>exact p.elim
 |_=>exact p.elim
theorem Qw(ha:QD ca X a ma)(hb:QD ca X b mb)(hs:Be b:=by exact λ_ _=>rfl):QD ca X (.Subscript a b pos) (Qd QZ ma mb):=eY (λ_ _=>ix_list.or ix_tup) fI ha hb hs
theorem IK{x:Str}{id:String}{r:List V->Hp->VK->Prop}{f:D->G->Res D}(hc:∀pn Φ,JL (QI X ca pn Φ) (.builtin id) r)(hm:X.mg x=none)(hv:bootBuiltins x=some (.builtin id))(hp:∀(Φ:XS) (σ:L2.St) (H:Hp) (μ:List Addr) (g:G) (y:V) (d:D) (Q:VK),GRep X.K ca μ H g->Den X.K μ H y d->Post X.K ca Φ σ Q H μ (f d g)->r [y] H Q)(he:QD ca X e me)(hg:Gl X x)(hn:x ≠"__name__")(hdb:(x==("__debug__" : Str))=false)(hs:starEach [e] X.env=[(false,eval e X.env)])(hpl:(backTo pos (starEach [] X.env)).any (·.1)=false):QD ca X (.Call (.Name x p) [e] [] pos) (Qt f me):=
 λpn Φ=>Zb (Vn (X:=QI X ca pn Φ) (hc pn Φ) hg hm hv (ZH he Qm hs pn Φ) hn hdb hs hpl) λσ H Q hQ=>by
  obtain⟨σ3,g,μ,R,q⟩:=hQ;refine⟨σ3,g,μ,R,?_⟩;unfold Qt at q;unfold Qc Qi;cases hm:me σ3 g with
  |raise _ _=>rw[hm]at q;exact q|stuck=>rw[hm]at q;exact q.elim|ok d g1=>
   rw[hm,Res.bind_ok]at q;rw[Res.bind_ok,Res.bind_ok];intro vs H1 μ1 e1 r1 q1;cases q1 with
   |cons h1 h2 =>cases h2;exact hp Φ σ H1 μ1 g1 _ d Q r1 h1 (q.go e1)
end
theorem uF{x:Str}{T:String}{r:List V->Hp->VK->Prop}{f:D->G->Res D}(hc:∀pn Φ,JL (QI X ca pn Φ) (.type T) r)(hm:X.mg x=none)(hv:bootBuiltins x=some (.type T))(hp:∀(Φ:XS) (σ:L2.St) (H:Hp) (μ:List Addr) (g:G) (y:V) (d:D) (Q:VK),GRep X.K ca μ H g->Den X.K μ H y d->Post X.K ca Φ σ Q H μ (f d g)->r [y] H Q)(he:QD ca X e me)(hg:Gl X x)(hn:x ≠"__name__")(hdb:(x==("__debug__" : Str))=false)(hs:starEach [e] X.env=[(false,eval e X.env)])(hpl:(backTo pos (starEach [] X.env)).any (·.1)=false):QD ca X (.Call (.Name x p) [e] [] pos) (Qt f me):=
 λpn Φ=>Zb (Af (X:=QI X ca pn Φ) (hc pn Φ) hg hm hv (ZH he Qm hs pn Φ) hn hdb hs hpl) λσ H Q hQ=>by
  obtain⟨σ3,g,μ,R,q⟩:=hQ;refine⟨σ3,g,μ,R,?_⟩;unfold Qt at q;unfold Qc Qi;cases hm:me σ3 g with
  |raise _ _=>rw[hm]at q;exact q|stuck=>rw[hm]at q;exact q.elim|ok d g1=>
   rw[hm,Res.bind_ok]at q;rw[Res.bind_ok,Res.bind_ok];intro vs H1 μ1 e1 r1 q1;cases q1 with
   |cons h1 h2 =>cases h2;exact hp Φ σ H1 μ1 g1 _ d Q r1 h1 (q.go e1)
theorem XA(hm:X.mg "len"=none)(he:QD ca X e me)(hg:Gl X "len":=by rfl)(hs:starEach [e] X.env=[(false,eval e X.env)]:=by rfl)(hpl:(backTo pos (starEach [] X.env)).any (·.1)=false:=by rfl):
  QD ca X (.Call (.Name "len" p) [e] [] pos) (Qt Zv me):=
 IK (r:=λxs H Q=>∃p ys,xs=[V.ref p]/\(SqL X.K H p ys\/SqT X.K H p ys)/\Q (V.int (ys.length:Int)) H) (λ_ _=>Lh) hm boot_len (λΦ σ H μ g y d Q r q pp=>by
  unfold Zv at pp;cases q with
  |@tup t vs ds ht hs=>exact⟨t,vs,rfl,.inr ht,pp _ H μ .refl r (by rw[hs.length];exact .int _)⟩|@fl t vs ds ht hs=>exact⟨t,vs,rfl,.inl ht.sq,pp _ H μ .refl r (by rw[hs.length];exact .int _)⟩|@ref n t hn=>
   dsimp only at pp;cases hgn:g[n]? with
   |none=>rw[hgn]at pp;exact pp.elim|some ob=>
    rw[hgn]at pp;obtain⟨t',ht',orp⟩:=r.addr hgn;rw[hn]at ht';cases ht';cases ob with
    |lst ds=>obtain⟨vs,hH,q⟩:=orp;exact⟨t,vs,rfl,.inl (.of hH),pp _ H μ .refl r (by rw[q.length];exact .int _)⟩|_=>exact pp.elim
  |_=>exact pp.elim) he hg (by decide) (by decide) hs hpl
theorem LB(hm:X.mg "tuple"=none)(he:QD ca X e me)(hg:Gl X "tuple":=by rfl)(hs:starEach [e] X.env=[(false,eval e X.env)]:=by rfl)(hpl:(backTo pos (starEach [] X.env)).any (·.1)=false:=by rfl):
  QD ca X (.Call (.Name "tuple" p) [e] [] pos) (Qt Jv me):=
 uF (r:=λxs H Q=>∃p ys,xs=[V.ref p]/\((SqL X.K H p ys/\∀l,H l=none->Q (.ref l) (Zi H l (.tup ys)))\/(SqT X.K H p ys/\Q (.ref p) H))) (λ_ _=>HA) hm boot_tuple (λΦ σ H μ g y d Q r q pp=>by
  unfold Jv at pp;cases q with
  |@tup t vs ds ht hs=>exact⟨t,vs,rfl,.inr ⟨ht,pp _ H μ .refl r (.tup ht hs)⟩⟩|@fl t vs ds ht hs=>exact⟨t,vs,rfl,.inl ⟨ht.sq,λl hl=>pp _ _ μ (Q3 hl) (r.new hl) (.tup (.of Qy) (hs.mono (Q3 hl)))⟩⟩|@ref n t hn=>
   dsimp only at pp;cases hgn:g[n]? with
   |none=>rw[hgn]at pp;exact pp.elim|some ob=>
    rw[hgn]at pp;obtain⟨t',ht',orp⟩:=r.addr hgn;rw[hn]at ht';cases ht';cases ob with
    |lst ds=>obtain⟨vs,hH,q⟩:=orp;exact⟨t,vs,rfl,.inl ⟨.of hH,λl hl=>pp _ _ μ (Q3 hl) (r.new hl) (.tup (.of Qy) (q.mono (Q3 hl)))⟩⟩|_=>exact pp.elim
  |_=>exact pp.elim) he hg (by decide) (by decide) hs hpl
theorem Z8(ho:QD ca X o mo)(he:QD ca X e me)(hbase:attributeBase o "append" X.env (eval o X.env)=eval o X.env:=by rfl)(hfew:((backTo pos (starEach [e] X.env)).all (λx=>!x.1)&&(backToKw pos (keywordEach [] X.env)).all (λx=>x.1.isSome)&&decide ([e].length+([]:List Keyword).length+(if ([]:List Keyword).isEmpty then 0 else 1)<30))=true:=by rfl)(hline:(apos.endLine==pos.line)=true:=by rfl)(hs:starEach [e] X.env=(false,eval e X.env)::starEach [] X.env:=by rfl)(hplain:(backTo pos (starEach [] X.env)).any (·.1)=false:=by rfl):
  QD ca X (.Call (.Attribute o "append" apos) [e] [] pos) (Zc mo me):=
 λpn Φ=>Zb (iZ (X:=QI X ca pn Φ) RU PySem.F.slot_list_append PySem.F.type_list_append Ah (ho pn Φ) (ZH he Qm hs pn Φ) hbase hfew hline hs hplain) λσ H Q ⟨σ3,g,μ,R,q⟩=>Zg (YZ R q) λx H1 hQ=>by
  obtain⟨d,g1,μ1,e1,R1,q1,p1⟩:=hQ;cases q1 with
  |@ref n t hn=>
   dsimp only at p1;cases hgn:g1[n]? with
   |none=>rw[hgn]at p1;exact p1.elim|some ob=>
    rw[hgn]at p1;obtain⟨t',ht',orp⟩:=R1.g.addr hgn;rw[hn]at ht';cases ht';cases ob with
    |lst ds0=>
     obtain⟨vs0,hH0,_⟩:=orp;dsimp only at p1;refine⟨.inl ⟨rfl,_,.of hH0⟩,σ3,g1,μ1,R1,?_⟩;unfold Qc Qi;cases hm:me σ3 g1 with
     |raise _ _=>rw[hm]at p1;exact p1|stuck=>rw[hm]at p1;exact p1.elim|ok y g2=>
      rw[hm,Res.bind_ok]at p1;rw[Res.bind_ok,Res.bind_ok];intro vs H2 μ2 e2 r2 q2;cases q2 with
      |@cons vy _ _ _ h1 h2=>
       cases h2;cases hg2:g2[n]? with
       |none=>rw[hg2]at p1;exact p1.elim|some ob2=>
        rw[hg2]at p1;obtain⟨t',ht',orp⟩:=r2.addr hg2;rw[e2.at hn]at ht';cases ht';cases ob2 with
        |lst ds=>
         obtain⟨ws,hH,qs⟩:=orp;dsimp only at p1;by_cases z:ds.length<SZ
         ·rw[Ud z]at p1;have ex:Ext X.K μ2 H2 μ2 (Zi H2 t (.lst (ws++[vy]))):=ZZ hH (by intro _ z;cases z) (by intro _ _ z;cases z);refine⟨t,ws,_,rfl,rfl,hH,by rw[qs.length];exact Uu z Y0,p1 _ _ μ2 (e2.trans ex) ?_ .non⟩;exact r2.set (e2.at hn) hH (by intro _ z;cases z) (by intro _ _ z;cases z) ⟨_,Qy,(qs.mono ex).append (.cons (h1.mono ex) .nil)⟩
         ·rw[Uf z]at p1;exact p1.elim
        |_=>exact p1.elim
    |_=>exact p1.elim
  |_=>exact p1.elim
theorem Dens.dropLast{K:Frag}{μ:List Addr}{H:Hp}{vs:List V}{ds:List D}(h:Dens K μ H vs ds):Dens K μ H vs.dropLast ds.dropLast:=by rw[Wo,Wo,h.length];exact h.take _
theorem Sd(ho:QD ca X o mo)(hbase:attributeBase o "pop" X.env (eval o X.env)=eval o X.env:=by rfl)(hline:(apos.endLine==pos.line)=true:=by rfl):QD ca X (.Call (.Attribute o "pop" apos) [] [] pos) (Qt E6 mo):=
 λpn Φ=>Zb (lG (X:=QI X ca pn Φ) RU PySem.F.slot_list_pop PySem.F.type_list_pop lH (ho pn Φ) hbase hline) λσ H Q ⟨σ3,g,μ,R,q⟩=>Zg (YZ R q) λx H1 hQ=>by
  obtain⟨d,g1,μ1,e1,R1,q1,p1⟩:=hQ;unfold E6 at p1;cases q1 with
  |@ref n t hn=>
   dsimp only at p1;cases hgn:g1[n]? with
   |none=>rw[hgn]at p1;exact p1.elim|some ob=>
    rw[hgn]at p1;obtain⟨t',ht',orp⟩:=R1.g.addr hgn;rw[hn]at ht';cases ht';cases ob with
    |lst ds=>
     obtain⟨ws,hH,qs⟩:=orp;dsimp only at p1;cases hl:ds[ds.length-1]? with
     |none=>rw[hl]at p1;exact p1.elim|some y =>rw[hl]at p1;obtain⟨v,h1,h2⟩:=qs.get hl;have ex:Ext X.K μ1 H1 μ1 (Zi H1 t (.lst ws.dropLast)):=ZZ hH (by intro _ z;cases z) (by intro _ _ z;cases z);refine⟨.inl ⟨rfl,_,.of hH⟩,t,ws,v,rfl,rfl,hH,by rw[qs.length];exact h1,p1 v _ μ1 ex ?_ (h2.mono ex)⟩;exact R1.g.set hn hH (by intro _ z;cases z) (by intro _ _ z;cases z) ⟨_,Qy,(qs.mono ex).dropLast⟩
    |_=>exact p1.elim
  |_=>exact p1.elim
def IsIt(b:Bool)(h:Heap)(i l:Addr)(k:Nat):Prop:=if b=true then h.IsListIter i l k else h.IsTupleIter i l k
def IsSq(b:Bool)(h:Heap)(l:Addr)(xs:Array Value):Prop:=if b=true then h.IsList l xs else h.IsTuple l xs
theorem IsIt.at(x:IsIt b h i l k)(hk:∀o,h.get? i=some o->h'.get? i=some o):IsIt b h' i l k:=by
 cases b
 ·exact Heap.IsTupleIter.at (show h.IsTupleIter i l k from x) hk
 ·exact Heap.IsListIter.at (show h.IsListIter i l k from x) hk
theorem IsSq.at(x:IsSq b h l xs)(hk:∀o,h.get? l=some o->h'.get? l=some o):IsSq b h' l xs:=by
 cases b
 ·obtain⟨o,e,c⟩:=(show h.IsTuple l xs from x);exact⟨o,hk o e,c⟩
 ·obtain⟨o,e,c⟩:=(show h.IsList l xs from x);exact⟨o,hk o e,c⟩
theorem IsIt.lt(x:IsIt b h i l k):i<h.objs.size:=by
 cases b
 ·obtain⟨o,e,_⟩:=(show h.IsTupleIter i l k from x);exact Ul e
 ·obtain⟨o,e,_⟩:=(show h.IsListIter i l k from x);exact Ul e
theorem IsIt.rec(x:IsIt b h i l k):∃o,h.get? i=some o/\∀v,o.data≠.cell v:=by
 cases b
 ·obtain⟨o,e,c,d⟩:=(show h.IsTupleIter i l k from x);exact⟨o,e,λv z=>by rw[d]at z;cases z⟩
 ·obtain⟨o,e,c,d⟩:=(show h.IsListIter i l k from x);exact⟨o,e,λv z=>by rw[d]at z;cases z⟩
theorem IsSq.lt(x:IsSq b h l xs):l<h.objs.size:=by
 cases b
 ·obtain⟨o,e,_⟩:=(show h.IsTuple l xs from x);exact Ul e
 ·obtain⟨o,e,_⟩:=(show h.IsList l xs from x);exact Ul e
theorem ON(hit:s.heap.IsTupleIter it t i)(ht:s.heap.IsTuple t items)(hx:items[i]?=some x)(hQ:∀h',h'.IsTupleIter it t (i+1)->Heap.SameBut it s.heap h'->Q x {s with heap:=h'}):
  wpAny (model prog w) A (Builtin.SmallTypes.nextOf (.ref it)) Q E s:=by
 obtain⟨o,ho,hc,hd⟩:=id hit;obtain⟨ol,hol,_,nl,hdl⟩:=ht;unfold Builtin.SmallTypes.nextOf;refine Ua (UG (name:=Str.ofString "__next__") hit.typeIs Re (UE Re hit.typeIs WR ?_ (WF _)));show wpAny _ _ (field (.ref it) 0 >>= _) _ _ s;refine Ua (UP ho hd (x:=.ref t) rfl ?_);show wpAny _ _ (if (Value.ref t==Value.none)=true then _ else _) _ _ s;rw[Uf (show ¬((Value.ref t==Value.none)=true) from Ue)];show wpAny _ _ (field (.ref it) 1 >>= _) _ _ s;refine Ua (UP ho hd (x:=.int i 0) rfl ?_);show wpAny _ _ (seqItems? (.ref t) >>= _) _ _ s;refine Ua (T0 hol hdl ?_);simp only[RE,hx];refine Ua (TH ho hd (by simp) (Ub ⟨x,rfl,Ub (hQ _ ⟨_,Tu _ ho (Rj (Th hd _)),(Wb ..).trans hc,by rw[Th hd];simp[rawInt]⟩ (UV ..))⟩))
theorem HJ{it t:Addr}{i:Nat}{items:Array Value}{Q:VP}(hh:A.handled=none)(hit:s.heap.IsTupleIter it t i)(ht:s.heap.IsTuple t items)(hx:items[i]?=none)(hE:∀h' e,Heap.ExtBut it s.heap h'->(∃o,h'.get? e=some o/\o.cls=.type "StopIteration")->E (.ref e) {s with heap:=h'}):wpAny (model prog w) A (Builtin.SmallTypes.nextOf (.ref it)) Q E s:=by obtain⟨o,ho,hc,hd⟩:=id hit;obtain⟨ol,hol,_,nl,hdl⟩:=ht;unfold Builtin.SmallTypes.nextOf;refine Ua (UG (name:=Str.ofString "__next__") hit.typeIs Re (UE Re hit.typeIs WR ?_ (WF _)));show wpAny _ _ (field (.ref it) 0 >>= _) _ _ s;refine Ua (UP ho hd (x:=.ref t) rfl ?_);show wpAny _ _ (if (Value.ref t==Value.none)=true then _ else _) _ _ s;rw[Uf (show ¬((Value.ref t==Value.none)=true) from Ue)];show wpAny _ _ (field (.ref it) 1 >>= _) _ _ s;refine Ua (UP ho hd (x:=.int i 0) rfl ?_);show wpAny _ _ (seqItems? (.ref t) >>= _) _ _ s;refine Ua (T0 hol hdl ?_);simp only[RE,hx];refine Ua (TL (Ua (TH ho hd (by simp) ?_)));show wpAny _ _ (newExc (.type "StopIteration") [] >>= _) _ _ _;refine Ua ?_;simp only[newExc,newTuple];refine Ua (UB ?_ (by size_fits));refine Ua (m:=firstArgMember _ _) (TD (a:=Value.none) (by first|rfl|(simp only[firstArgMember];rfl)) ?_);refine UB ?_ (by size_fits);simp only[raiseNew];refine Ua (wpAny_handled ?_);(first|rw[show A.in1.handled=none from hh]|rw[hh]);refine Ua (Ub (BS ?_));exact hE _ _ (((UV ..).extBut.push _).push _) ⟨_,Uk _ rfl,rfl⟩
theorem OO(hit:IsIt b s.heap it l i)(hl:IsSq b s.heap l xs)(hx:xs[i]?=some x)(hQ:∀h',IsIt b h' it l (i+1)->Heap.SameBut it s.heap h'->Q x {s with heap:=h'}):
  wpAny (model prog w) A (Builtin.SmallTypes.nextOf (.ref it)) Q E s:=by
 cases b
 ·exact ON hit hl hx hQ
 ·exact wpAny_nextOf_list_item hit hl hx hQ
theorem Se{b:Bool}{it l:Addr}{i:Nat}{xs:Array Value}{Q:VP}(hh:A.handled=none)(hit:IsIt b s.heap it l i)(hl:IsSq b s.heap l xs)(hx:xs[i]?=none)(hE:∀h' e,Heap.ExtBut it s.heap h'->(∃o,h'.get? e=some o/\o.cls=.type "StopIteration")->E (.ref e) {s with heap:=h'}):wpAny (model prog w) A (Builtin.SmallTypes.nextOf (.ref it)) Q E s:=by
 cases b
 ·exact HJ hh hit hl hx hE
 ·exact wpAny_nextOf_list_end hh hit hl hx hE
theorem fJ{b1 b2:Bool}{z TI TO i1 i2 l1 l2:Addr}{k:Nat}{xs ys:Array Value}{x y a b:Value}{Q:VP}(D:ZipApart z TI TO i1 i2 l1 l2)(hz:IsZip s.heap z TI TO .none)(hTI:IsPair s.heap TI (.ref i1) (.ref i2))(hTO:IsPair s.heap TO a b)(h1:IsIt b1 s.heap i1 l1 k)(h2:IsIt b2 s.heap i2 l2 k)(hl1:IsSq b1 s.heap l1 xs)(hl2:IsSq b2 s.heap l2 ys)(hx:xs[k]?=some x)(hy:ys[k]?=some y)(hQ:∀h',IsZip h' z TI TO (rawInt s.heap.objs.size)->IsPair h' TO x y->IsIt b1 h' i1 l1 (k+1)->IsIt b2 h' i2 l2 (k+1)->IsPair h' s.heap.objs.size x y->h'.objs.size=s.heap.objs.size+1->(∀c o,c≠z->c≠TO->c≠i1->c≠i2->s.heap.get? c=some o->h'.get? c=some o)->Q (.ref s.heap.objs.size) {s with heap:=h'}):
  wpAny (model prog w) A (Builtin.«zip.__next__» ⟨[.ref z],[]⟩) (λfin s'=>∃v,fin=.done (.ret v)/\Q v s') E s:=by
 show wpAny _ _ (field (.ref z) 2 >>= _) _ _ _;refine Ua (UP hz rfl (x:=.bool false) rfl ?_);show wpAny _ _ (field (.ref z) 3 >>= _) _ _ _;refine Ua (UP hz rfl (x:=.ref TI) rfl ?_);refine Ua (T0 hTI rfl ?_);show wpAny _ _ (Builtin.SmallTypes.ownedTupleIsFree (.ref z) >>= _) _ _ _;refine Ua ?_;unfold Builtin.SmallTypes.ownedTupleIsFree;refine Ua (UP hz rfl (x:=.none) rfl (Ub ?_));simp only[RK];refine Ua (TL ?_);refine Ua (UP hz rfl (x:=.ref TO) rfl ?_);refine Ua (Rh hz (by simp) λg1 hz1 hs1=>?_);replace hz1:IsZip g1 z TI TO .ellipsis:=hz1;refine Ua ?_;simp only[Wu,List.zipIdx_nil,RQ,Wd];refine Ua (Ua (Bd ?_));show wpAny _ _ (Builtin.SmallTypes.nextOf (.ref i1) >>= _) _ _ _;refine Ua (OO (h1.at λo e=>hs1.extBut _ o D.i1z e) (hl1.at λo e=>hs1.extBut _ o D.l1z e) hx λg2 h12 hs2=>Ub ?_);have hTO2:IsPair g2 TO a b:=hs2.extBut _ _ D.TOi1 (hs1.extBut _ _ D.TOz hTO);refine Ua (T0 hTO2 rfl ?_);refine Ua (WC hTO2 λg3 hTO3 hs3=>?_);replace hTO3:IsPair g3 TO x b:=hTO3;refine Ua (BT (Ub ?_));refine Ua (Ua (Bd ?_));show wpAny _ _ (Builtin.SmallTypes.nextOf (.ref i2) >>= _) _ _ _;refine Ua (OO (h2.at λo e=>hs3.extBut _ o D.TOi2.symm (hs2.extBut _ o D.i12.symm (hs1.extBut _ o D.i2z e))) (hl2.at λo e=>hs3.extBut _ o D.l2TO (hs2.extBut _ o D.l2i1 (hs1.extBut _ o D.l2z e))) hy λg4 h24 hs4=>Ub ?_);have hTO4:IsPair g4 TO x b:=hs4.extBut _ _ D.TOi2 hTO3;refine Ua (T0 hTO4 rfl ?_);refine Ua (WC hTO4 λg5 hTO5 hs5=>?_);replace hTO5:IsPair g5 TO x y:=hTO5;refine Ua (BT (Ub (Ub ?_)));refine Ua (T0 hTO5 rfl ?_);refine Ua (wpAny_newTuple ?_);have hsz:g5.objs.size=s.heap.objs.size:=by rw[hs5.1,hs4.1,hs3.1,hs2.1,hs1.1]
 have hz5:IsZip g5 z TI TO .ellipsis:=hs5.extBut _ _ D.TOz.symm (hs4.extBut _ _ D.i2z.symm (hs3.extBut _ _ D.TOz.symm (hs2.extBut _ _ D.i1z.symm hz1)));have hk5:∀c o,c≠z->c≠TO->c≠i1->c≠i2->s.heap.get? c=some o->g5.get? c=some o:=λc o c1 c2 c3 c4 e=>hs5.extBut _ _ c2 (hs4.extBut _ _ c4 (hs3.extBut _ _ c2 (hs2.extBut _ _ c3 (hs1.extBut _ _ c1 e))));have h15:IsIt b1 g5 i1 l1 (k+1):=h12.at λo e=>hs5.extBut _ o D.TOi1.symm (hs4.extBut _ o D.i12 (hs3.extBut _ o D.TOi1.symm e));have h25:IsIt b2 g5 i2 l2 (k+1):=h24.at λo e=>hs5.extBut _ o D.TOi2.symm e;have hzlt:z<g5.objs.size:=Ul hz5;show wpAny _ _ (Builtin.SmallTypes.ownedTupleHandOut (.ref z) (.ref g5.objs.size) >>= _) _ _ _;refine Ua ?_;unfold Builtin.SmallTypes.ownedTupleHandOut;have hz6:IsZip (g5.push {cls:=.type "tuple",data:=.seq #[x,y]}) z TI TO .ellipsis:=Uc _ hz5;refine Ua (Rh hz6 (by simp) λg7 hz7 hs7=>?_);replace hz7:IsZip g7 z TI TO (rawInt g5.objs.size):=hz7;refine Rh hz7 (by simp) λg8 hz8 hs8=>?_;replace hz8:IsZip g8 z TI TO (rawInt g5.objs.size):=hz8;have upz:∀c o,c≠z->g5.get? c=some o->g8.get? c=some o:=λc o c1 e=>hs8.extBut _ _ c1 (hs7.extBut _ _ c1 (Uc _ e));have hT8:IsPair g8 g5.objs.size x y:=hs8.extBut _ _ (Wf hzlt) (hs7.extBut _ _ (Wf hzlt) (Uk _ rfl));have hsz8:g8.objs.size=g5.objs.size+1:=by rw[hs8.1,hs7.1,TZ]
 rw[hsz]at hz8 hT8 hsz8;refine Ub ⟨_,rfl,?_⟩;show Q (.ref g5.objs.size) _;rw[hsz];exact hQ g8 hz8 (upz _ _ D.TOz hTO5) (h15.at λo e=>upz _ o D.i1z e) (h25.at λo e=>upz _ o D.i2z e) hT8 hsz8 λc o c1 c2 c3 c4 e=>upz c o c1 (hk5 c o c1 c2 c3 c4 e)
theorem lZ{b1 b2:Bool}{z TI TO i1 i2 l1 l2:Addr}{k:Nat}{xs ys:Array Value}{a b:Value}{Q:Fin->Shared->Prop}(hh:A.handled=none)(D:ZipApart z TI TO i1 i2 l1 l2)(hz:IsZip s.heap z TI TO .none)(hTI:IsPair s.heap TI (.ref i1) (.ref i2))(hTO:IsPair s.heap TO a b)(h1:IsIt b1 s.heap i1 l1 k)(h2:IsIt b2 s.heap i2 l2 k)(hl1:IsSq b1 s.heap l1 xs)(hl2:IsSq b2 s.heap l2 ys)(hend:xs[k]?=none\/ys[k]?=none)(hE:∀h' e,(∀c o,c≠z->c≠TO->c≠i1->c≠i2->s.heap.get? c=some o->h'.get? c=some o)->(∃o,h'.get? e=some o/\o.cls=.type "StopIteration")->E (.ref e) {s with heap:=h'}):
  wpAny (model prog w) A (Builtin.«zip.__next__» ⟨[.ref z],[]⟩) Q E s:=by
 show wpAny _ _ (field (.ref z) 2 >>= _) _ _ _;refine Ua (UP hz rfl (x:=.bool false) rfl ?_);show wpAny _ _ (field (.ref z) 3 >>= _) _ _ _;refine Ua (UP hz rfl (x:=.ref TI) rfl ?_);refine Ua (T0 hTI rfl ?_);show wpAny _ _ (Builtin.SmallTypes.ownedTupleIsFree (.ref z) >>= _) _ _ _;refine Ua ?_;unfold Builtin.SmallTypes.ownedTupleIsFree;refine Ua (UP hz rfl (x:=.none) rfl (Ub ?_));simp only[RK];refine Ua (TL ?_);refine Ua (UP hz rfl (x:=.ref TO) rfl ?_);refine Ua (Rh hz (by simp) λg1 hz1 hs1=>?_);replace hz1:IsZip g1 z TI TO .ellipsis:=hz1;refine Ua ?_;simp only[Wu,List.zipIdx_nil,RQ,Wd];refine Ua (Ua (Bd ?_));show wpAny _ _ (Builtin.SmallTypes.nextOf (.ref i1) >>= _) _ _ _;cases hx:xs[k]? with
 |none=>
  refine Ua (Se hh (h1.at λo e=>hs1.extBut _ o D.i1z e) (hl1.at λo e=>hs1.extBut _ o D.l1z e) hx λg2 e hs2 he=>?_);obtain⟨oe,hoe,hce⟩:=he;have hz2:IsZip g2 z TI TO .ellipsis:=hs2 _ _ D.i1z.symm hz1;have hez:e≠z:=λq=>by subst q;rw[hz2]at hoe;cases hoe;simp at hce
  refine Rh hz2 (by simp) λg3 _ hs3=>hE g3 e (λc o c1 _ c3 _ q=>hs3.extBut _ _ c1 (hs2 _ _ c3 (hs1.extBut _ _ c1 q))) ⟨oe,hs3.extBut _ _ hez hoe,hce⟩
 |some x=>
  have hy:ys[k]?=none:=by rcases hend with q|q;(· rw[hx]at q;cases q);exact q
  refine Ua (OO (h1.at λo e=>hs1.extBut _ o D.i1z e) (hl1.at λo e=>hs1.extBut _ o D.l1z e) hx λg2 h12 hs2=>Ub ?_);have hTO2:IsPair g2 TO a b:=hs2.extBut _ _ D.TOi1 (hs1.extBut _ _ D.TOz hTO);refine Ua (T0 hTO2 rfl ?_);refine Ua (WC hTO2 λg3 hTO3 hs3=>?_);refine Ua (BT (Ub ?_));refine Ua (Ua (Bd ?_));show wpAny _ _ (Builtin.SmallTypes.nextOf (.ref i2) >>= _) _ _ _;refine Ua (Se hh (h2.at λo e=>hs3.extBut _ o D.TOi2.symm (hs2.extBut _ o D.i12.symm (hs1.extBut _ o D.i2z e))) (hl2.at λo e=>hs3.extBut _ o D.l2TO (hs2.extBut _ o D.l2i1 (hs1.extBut _ o D.l2z e))) hy λg4 e hs4 he=>?_);obtain⟨oe,hoe,hce⟩:=he;have hz4:IsZip g4 z TI TO .ellipsis:=hs4 _ _ D.i2z.symm (hs3.extBut _ _ D.TOz.symm (hs2.extBut _ _ D.i1z.symm hz1));have hez:e≠z:=λq=>by subst q;rw[hz4]at hoe;cases hoe;simp at hce
  refine Rh hz4 (by simp) λg5 _ hs5=>hE g5 e (λc o c1 c2 c3 c4 q=>hs5.extBut _ _ c1 (hs4 _ _ c4 (hs3.extBut _ _ c2 (hs2.extBut _ _ c3 (hs1.extBut _ _ c1 q))))) ⟨oe,hs5.extBut _ _ hez hoe,hce⟩
theorem OP{b1 b2:Bool}{z TI TO i1 i2 l1 l2:Addr}{k:Nat}{xs ys:Array Value}{x y a b:Value}{Q:Option Value->Shared->Prop}(D:ZipApart z TI TO i1 i2 l1 l2)(hz:IsZip s.heap z TI TO .none)(hTI:IsPair s.heap TI (.ref i1) (.ref i2))(hTO:IsPair s.heap TO a b)(h1:IsIt b1 s.heap i1 l1 k)(h2:IsIt b2 s.heap i2 l2 k)(hl1:IsSq b1 s.heap l1 xs)(hl2:IsSq b2 s.heap l2 ys)(hx:xs[k]?=some x)(hy:ys[k]?=some y)(hQ:∀h',IsZip h' z TI TO (rawInt s.heap.objs.size)->IsPair h' TO x y->IsIt b1 h' i1 l1 (k+1)->IsIt b2 h' i2 l2 (k+1)->IsPair h' s.heap.objs.size x y->h'.objs.size=s.heap.objs.size+1->(∀c o,c≠z->c≠TO->c≠i1->c≠i2->s.heap.get? c=some o->h'.get? c=some o)->Q (some (.ref s.heap.objs.size)) {s with heap:=h'}):wpAny (model prog w) A (pyNext (.ref z)) Q E s:=by
 have hT:s.TypeIs (.ref z) "zip":=⟨_,hz,rfl⟩;unfold pyNext;exact Ua (Tz (UG (name:=Str.ofString "__next__") hT WI (UE WI hT F.entry_zip_next (fJ D hz hTI hTO h1 h2 hl1 hl2 hx hy λh' a1 a2 a3 a4 a5 a6 a7=>Ub (hQ h' a1 a2 a3 a4 a5 a6 a7)) (F.args_zip_next_1 _))))
theorem HK{b1 b2:Bool}{z TI TO i1 i2 l1 l2:Addr}{k:Nat}{xs ys:Array Value}{a b:Value}{Q:Option Value->Shared->Prop}(hh:A.handled=none)(D:ZipApart z TI TO i1 i2 l1 l2)(hz:IsZip s.heap z TI TO .none)(hTI:IsPair s.heap TI (.ref i1) (.ref i2))(hTO:IsPair s.heap TO a b)(h1:IsIt b1 s.heap i1 l1 k)(h2:IsIt b2 s.heap i2 l2 k)(hl1:IsSq b1 s.heap l1 xs)(hl2:IsSq b2 s.heap l2 ys)(hend:xs[k]?=none\/ys[k]?=none)(hQ:∀h',(∀c o,c≠z->c≠TO->c≠i1->c≠i2->s.heap.get? c=some o->h'.get? c=some o)->Q none {s with heap:=h'}):wpAny (model prog w) A (pyNext (.ref z)) Q E s:=by have hT:s.TypeIs (.ref z) "zip":=⟨_,hz,rfl⟩;unfold pyNext;refine Ua (Tz (UG (name:=Str.ofString "__next__") hT WI (UE WI hT F.entry_zip_next (lZ hh D hz hTI hTO h1 h2 hl1 hl2 hend λh' e hk he=>?_) (F.args_zip_next_1 _))));obtain⟨o,ho,hc⟩:=he;refine Ua (TQ (T:="StopIteration") (b:=true) ⟨o,ho,hc⟩ BP ?_);exact Ub (hQ _ hk)
def mB(b:Bool):String:=if b=true then "list_iterator" else "tuple_iterator"
def Eh(b:Bool)(l:Addr):Obj:={cls:=.type (mB b),data:=.fields #[.ref l,.int 0 0]}
theorem IL(hl:IsSq b s.heap l xs)(h:Q (.ref s.heap.objs.size) {s with heap:=s.heap.push (Eh b l)}):wpAny (model prog w) A (pyIter (.ref l)) Q E s:=by
 cases b
 ·exact wpAny_pyIter_tuple hl h
 ·exact Ba hl h
theorem IsSq.push(x:IsSq b h l xs)(o:Obj):IsSq b (h.push o) l xs:=x.at λ_ e=>Uc _ e
abbrev sD(b1:Bool)(h:Heap)(l1:Addr):Heap:=h.push (Eh b1 l1)
abbrev sE(b1 b2:Bool)(h:Heap)(l1 l2:Addr):Heap:=(sD b1 h l1).push (Eh b2 l2)
abbrev sF(b1 b2:Bool)(h:Heap)(l1 l2:Addr):Heap:=(sE b1 b2 h l1 l2).push {cls:=.type "tuple",data:=.seq #[.ref h.objs.size,.ref (sD b1 h l1).objs.size]}
abbrev sG(b1 b2:Bool)(h:Heap)(l1 l2:Addr):Heap:=(sF b1 b2 h l1 l2).push {cls:=.type "tuple",data:=.seq #[.none,.none]}
abbrev mC(b1 b2:Bool)(h:Heap)(l1 l2:Addr):Heap:=(sG b1 b2 h l1 l2).push {cls:=.type "zip",data:=.fields #[.none,.bool false,.bool false,.ref (sE b1 b2 h l1 l2).objs.size,.ref (sF b1 b2 h l1 l2).objs.size]}
theorem fK(b1 b2:Bool)(l1 l2:Addr)(xs ys:Array Value):Meets (Builtin.«zip.__new__» ⟨[.type "zip",.ref l1,.ref l2],[]⟩) (λ_ R s=>IsSq b1 s.heap l1 xs/\IsSq b2 s.heap l2 ys/\R (.ok (.ret (.ref (sG b1 b2 s.heap l1 l2).objs.size))) {s with heap:=mC b1 b2 s.heap l1 l2}):=
 .of_wp λprog w A R s h=>by
  obtain⟨hp,g,d,tk,os⟩:=s;obtain⟨hl1,hl2,h⟩:=h;have hsub:=sub_zip;have hL1:IsSq b1 (Shared.heap ⟨hp,g,d,tk,os⟩) l1 xs:=hl1;have hL2:IsSq b2 (Shared.heap ⟨hp.push (Eh b1 l1),g,d,tk,os⟩) l2 ys:=hl2.push _
  wp_walk using IL hL1,IL hL2
  exact⟨_,rfl,h⟩
theorem qI(b:Bool)(e:h.get? i=some (Eh b l)):IsIt b h i l 0:=by
 cases b
 ·exact⟨_,e,rfl,rfl⟩
 ·exact⟨_,e,rfl,rfl⟩
theorem D6{b1 b2:Bool}{l1 l2:Addr}{xs ys:Array Value}{Q:VP}(hl1:IsSq b1 s.heap l1 xs)(hl2:IsSq b2 s.heap l2 ys)(h:∀h',IsZip h' (s.heap.objs.size+4) (s.heap.objs.size+2) (s.heap.objs.size+3) .none->IsPair h' (s.heap.objs.size+2) (.ref s.heap.objs.size) (.ref (s.heap.objs.size+1))->IsPair h' (s.heap.objs.size+3) .none .none->IsIt b1 h' s.heap.objs.size l1 0->IsIt b2 h' (s.heap.objs.size+1) l2 0->h'.objs.size=s.heap.objs.size+5->(∀c o,s.heap.get? c=some o->h'.get? c=some o)->Q (.ref (s.heap.objs.size+4)) {s with heap:=h'}):
  wpAny (model prog w) A (call (.type "zip") [.ref l1,.ref l2]) Q E s:=by
 refine callType_new F.called_zip (by decide) (F.typeCall_zip_2 _ _) (F.newCall_zip_2 _ _) (λobj=>F.args_object_init_3 obj _ _) F.entry_zip_new (fK b1 b2 l1 l2 xs ys) ⟨hl1,hl2,?_⟩;have z1:(sD b1 s.heap l1).objs.size=s.heap.objs.size+1:=TZ ..;have z2:(sE b1 b2 s.heap l1 l2).objs.size=s.heap.objs.size+2:=by rw[TZ,z1]
 have z3:(sF b1 b2 s.heap l1 l2).objs.size=s.heap.objs.size+3:=by rw[TZ,z2]
 have z4:(sG b1 b2 s.heap l1 l2).objs.size=s.heap.objs.size+4:=by rw[TZ,z3]
 have z5:(mC b1 b2 s.heap l1 l2).objs.size=s.heap.objs.size+5:=by rw[TZ,z4]
 have g5:(mC b1 b2 s.heap l1 l2).get? (sG b1 b2 s.heap l1 l2).objs.size=some _:=Uk _ rfl;have g4:(mC b1 b2 s.heap l1 l2).get? (sF b1 b2 s.heap l1 l2).objs.size=some _:=Uc _ (Uk _ rfl);have g3:(mC b1 b2 s.heap l1 l2).get? (sE b1 b2 s.heap l1 l2).objs.size=some _:=Uc _ (Uc _ (Uk _ rfl));have g2:(mC b1 b2 s.heap l1 l2).get? (sD b1 s.heap l1).objs.size=some (Eh b2 l2):=Uc _ (Uc _ (Uc _ (Uk _ (by unfold Eh;rfl))));have g1:(mC b1 b2 s.heap l1 l2).get? s.heap.objs.size=some (Eh b1 l1):=Uc _ (Uc _ (Uc _ (Uc _ (Uk _ (by unfold Eh;rfl)))));show _/\_;rw[z2,z3,z4]at g5;rw[z1,z2]at g3;rw[z3]at g4;rw[z1]at g2;rw[z4];exact⟨⟨_,g5,rfl⟩,h _ g5 g3 g4 (qI b1 g1) (qI b2 g2) z5 λc o q=>Uc _ (Uc _ (Uc _ (Uc _ (Uc _ q))))⟩
def Sq(b:Bool)(K:Frag)(H:Hp)(a:Addr)(xs:List V):Prop:=if b=true then SqL K H a xs else SqT K H a xs
theorem Sq.real{b:Bool}{X:Cx}{pins:YD}{σ:L2.St}{H:Hp}{s:Shared}{a:Addr}{xs:List V}(I:Inv X pins σ H s)(h:Sq b X.K H a xs):∃its:List Value,Vals xs its/\IsSq b s.heap a its.toArray:=by
 cases b
 ·obtain⟨its,r,p,_⟩:=I.tuple (show SqT X.K H a xs from h);exact⟨its,r,p⟩
 ·obtain⟨its,r,p,_⟩:=I.list (show SqL X.K H a xs from h);exact⟨its,r,p.isList⟩
theorem Sq.inj{b:Bool}{X:Cx}{pins:YD}{σ:L2.St}{H:Hp}{s:Shared}{a:Addr}{xs ys:List V}(I:Inv X pins σ H s)(h:Sq b X.K H a xs)(h':Sq b X.K H a ys):xs=ys:=by
 cases b
 ·exact I.tuple_inj h h'
 ·exact I.list_inj h h'
def uG(K:Frag)(b1 b2:Bool)(a1 a2:Addr):It:=⟨λi H=>∃xs ys x y,Sq b1 K H a1 xs/\Sq b2 K H a2 ys/\xs[i]?=some x/\ys[i]?=some y,λi H v H'=>∃p x y,H p=none/\v=.ref p/\H'=Zi H p (.tup [x,y])/\(∀xs,Sq b1 K H a1 xs->xs[i]?=some x)/\∀ys,Sq b2 K H a2 ys->ys[i]?=some y,λi H=>∃xs ys,Sq b1 K H a1 xs/\Sq b2 K H a2 ys/\(xs.length<=i\/ys.length<=i)⟩
def qJ(b1 b2:Bool)(z TI TO i1 i2 l1 l2:Addr)(i:Nat)(h:Heap):Prop:=IsZip h z TI TO .none/\IsPair h TI (.ref i1) (.ref i2)/\(∃a b,IsPair h TO a b)/\IsIt b1 h i1 l1 i/\IsIt b2 h i2 l2 i
theorem D7{P:Program}{w:World}{K:Frag}{elts:List Expr}{kk:Nat}{tp:Pos}(b1 b2:Bool)(z TI TO i1 i2 l1 l2:Addr)(D:ZipApart z TI TO i1 i2 l1 l2):
  Turn P w K (.Tuple elts kk tp) (uG K b1 b2 l1 l2) [z,TI,TO,i1,i2] z (qJ b1 b2 z TI TO i1 i2 l1 l2) where
 mem:=by simp
 obj:=λi h st b hb=>by
  obtain⟨hz,hTI,⟨a,c,hTO⟩,h1,h2⟩:=st;have hb':b=z\/b=TI\/b=TO\/b=i1\/b=i2:=by simpa using hb
  rcases hb' with rfl|rfl|rfl|rfl|rfl
  ·exact⟨_,hz,λv q=>by cases q⟩
  ·exact⟨_,hTI,λv q=>by cases q⟩
  ·exact⟨_,hTO,λv q=>by cases q⟩
  ·exact h1.rec
  ·exact h2.rec
 keep:=λi h h' st k=>by obtain⟨hz,hTI,⟨a,c,hTO⟩,h1,h2⟩:=st;exact⟨k z (by simp) _ hz,k TI (by simp) _ hTI,⟨a,c,k TO (by simp) _ hTO⟩,h1.at λo e=>k i1 (by simp) o e,h2.at λo e=>k i2 (by simp) o e⟩
 item:=by
  intro X hP hw hK hc i pins s σ H E I hf st hg;subst hP hw hK;obtain⟨xs,ys,x,y,q1,q2,hx,hy⟩:=hg;obtain⟨us,r1,p1⟩:=q1.real I;obtain⟨ts,r2,p2⟩:=q2.real I;obtain⟨u,hu,ru⟩:=r1.get hx;obtain⟨t,ht,rt⟩:=r2.get hy;obtain⟨hz,hTI,⟨a,c,hTO⟩,h1,h2⟩:=st;have fz:=hf z (by simp);have fTI:=hf TI (by simp);have fTO:=hf TO (by simp);have f1:=hf i1 (by simp);have f2:=hf i2 (by simp);refine OP D hz hTI hTO h1 h2 p1 p2 (by simpa using hu) (by simpa using ht) λh' a1 a2 a3 a4 a5 a6 hk=>?_;have hp:H s.heap.objs.size=none:=I.hok.fresh (Ug _);have inC:∀b,b∈[z,TO,i1,i2]->FpOk X pins H b:=λb hb=>by
   have hb':b=z\/b=TO\/b=i1\/b=i2:=by simpa using hb
   rcases hb' with rfl|rfl|rfl|rfl
   ·exact fz
   ·exact fTO
   ·exact f1
   ·exact f2
  have hk':∀b o,b∉[z,TO,i1,i2]->s.heap.get? b=some o->h'.get? b=some o:=λb o hb e=>hk b o (λq=>hb (by simp[q])) (λq=>hb (by simp[q])) (λq=>hb (by simp[q])) (λq=>hb (by simp[q])) e;have nC:∀b v,H b=some v->b∉[z,TO,i1,i2]:=λb v e hb=>by rw[(inC b hb).1]at e;cases e
  have nP:∀b v,H b=some v->b≠s.heap.objs.size:=λb v e=>Q8 e hp;have I1:Inv X pins σ (Zi H s.heap.objs.size (.tup [x,y])) {s with heap:=h'}:=by
   refine I.step (g':=s.gens) (t':=s.toks) (d':=s.drawn) (ch:=[z,TO,i1,i2]) (λb hb=>⟨(inC b hb).2.2.2.1,(inC b hb).2.1,(inC b hb).2.2.2.2.1,(inC b hb).2.2.2.2.2⟩) (λb o _ _ hb e _=>hk' b o hb e) (λb o _ _ hb e _=>⟨o.slots,hk' b o hb e⟩)
    (λb o hb e n=>by rw[Qz (UH (Ul e))];exact n) (λb o hb e=>⟨o,hk' b o hb e⟩) (λb v e=>by rw[Qz (nP b _ e)];exact e) (λb o v e=>by rw[Qz (nP b _ e)];exact e) (λb ps e=>⟨#[],by rw[Qz (nP b _ e),e];simp⟩)
    (λm hm=>?_) (λb v e=>?_) I.bare
   ·obtain⟨o,es,ep,ho,rr⟩:=hm;exact⟨o,es,ep,hk' _ o (λhb=>(inC _ hb).2.1 rfl) ho,rr⟩
   ·by_cases hb:b=s.heap.objs.size
    ·subst hb;rw[Qy]at e;cases e;exact⟨by rw[Td];show 2<=16777216;decide,[u,t],.cons ru (.cons rt .nil),⟨_,a5,rfl,_,rfl⟩⟩
    ·rw[Qz hb]at e;refine(I.hok b v e).stay (λc' v' hc' q=>?_) (λc' q=>by rw[Qz (nP c' _ q)];exact q) λc' xs' q=>by rw[Qz (nP c' _ q)];exact q
     rcases hc' with rfl|hc'
     ·exact hk' _ _ (nC _ _ e) q
     ·exact hk' _ _ (nC _ _ hc') q
  refine⟨_,rfl,wpAny_letOwnedTupleGo_zip a1 λh'' hz'' hs''=>?_⟩;have hpz:s.heap.objs.size≠z:=Wf (Ul hz);have I2:Inv X pins σ (Zi H s.heap.objs.size (.tup [x,y])) {s with heap:=h''}:=Inv.turned (s:={s with heap:=h'}) (t':=s.toks) I1 (λb o hb e=>hs''.extBut b o hb e) (by rw[Qz (Ne.symm hpz)];exact fz.1) fz.2.1 fz.2.2.2.1 fz.2.2.2.2.1 fz.2.2.2.2.2;refine⟨.ref s.heap.objs.size,_,I2,rfl,⟨_,x,y,hp,rfl,rfl,λxs' q=>by rw[q.inj I q1];exact hx,λys' q=>by rw[q.inj I q2];exact hy⟩,⟨hz'',hs''.extBut _ _ D.TIz (hk _ _ D.TIz D.TITO D.TIi1 D.TIi2 hTI),⟨_,_,hs''.extBut _ _ D.TOz a2⟩,a3.at λo e=>hs''.extBut _ o D.i1z e,a4.at λo e=>hs''.extBut _ o D.i2z e⟩,λb hb=>?_⟩
  have lt:b<s.heap.objs.size:=by
   have hb':b=z\/b=TI\/b=TO\/b=i1\/b=i2:=by simpa using hb
   rcases hb' with rfl|rfl|rfl|rfl|rfl
   ·exact Ul hz
   ·exact Ul hTI
   ·exact Ul hTO
   ·exact h1.lt
   ·exact h2.lt
  rw[Qz (UH lt)];exact(hf b hb).1
 done:=by
  intro X hP hw hK hc i pins s σ H E I hf st hg;subst hP hw hK;obtain⟨xs,ys,q1,q2,hl⟩:=hg;obtain⟨us,r1,p1⟩:=q1.real I;obtain⟨ts,r2,p2⟩:=q2.real I;have l1:=r1.length;have l2:=r2.length;obtain⟨hz,hTI,⟨a,c,hTO⟩,h1,h2⟩:=st;have inC:∀b,b∈[z,TO,i1,i2]->FpOk X pins H b:=λb hb=>hf b (by
   have hb':b=z\/b=TO\/b=i1\/b=i2:=by simpa using hb
   rcases hb' with rfl|rfl|rfl|rfl<;>simp)
  refine HK (I.ok.hd hc) D hz hTI hTO h1 h2 p1 p2 (by
   rcases hl with z|z
   ·exact .inl (by simp;omega)
   ·exact .inr (by simp;omega)) λh' hk=>⟨rfl,?_⟩
  have hk':∀b o,b∉[z,TO,i1,i2]->s.heap.get? b=some o->h'.get? b=some o:=λb o hb e=>hk b o (λq=>hb (by simp[q])) (λq=>hb (by simp[q])) (λq=>hb (by simp[q])) (λq=>hb (by simp[q])) e;have nC:∀b v,H b=some v->b∉[z,TO,i1,i2]:=λb v e hb=>by rw[(inC b hb).1]at e;cases e
  refine I.step (g':=s.gens) (t':=s.toks) (d':=s.drawn) (ch:=[z,TO,i1,i2]) (λb hb=>⟨(inC b hb).2.2.2.1,(inC b hb).2.1,(inC b hb).2.2.2.2.1,(inC b hb).2.2.2.2.2⟩) (λb o _ _ hb e _=>hk' b o hb e) (λb o _ _ hb e _=>⟨o.slots,hk' b o hb e⟩)
   (λb o hb e n=>n) (λb o hb e=>⟨o,hk' b o hb e⟩) (λb v e=>e) (λb o v e=>e) (λb ps e=>⟨#[],by rw[e];simp⟩) (λm hm=>?_) (λb v e=>?_) I.bare
  ·obtain⟨o,es,ep,ho,rr⟩:=hm;exact⟨o,es,ep,hk' _ o (λhb=>(inC _ hb).2.1 rfl) ho,rr⟩
  ·refine(I.hok b v e).stay (λc' v' hc' q=>?_) (λc' q=>q) λc' xs' q=>q;rcases hc' with rfl|hc'
   ·exact hk' _ _ (nC _ _ e) q
   ·exact hk' _ _ (nC _ _ hc') q
 self:=λ_ _ _ _ _ st h=>wpAny_pyIter_zip st.1 h
section
variable{X:Cx}{ca:Nat->Addr}{e1 e2:Expr}{m1 m2:ME}{p pos tp:Pos}{elts:List Expr}{kk:Nat}
theorem mD{ta:TA}(hg:Gl X "zip")(hm:X.mg "zip"=none)(ha:PA X [e1,e2] ta)(hs:starEach [e1,e2] X.env=[(false,eval e1 X.env),(false,eval e2 X.env)])(hs2:starEach [e2] X.env=[(false,eval e2 X.env)]):
  PI X (.Tuple elts kk tp) (.Call (.Name "zip" p) [e1,e2] [] pos) (λσ H R=>ta σ H λvs H1=>∃b1 b2 a1 a2 xs ys,vs=[.ref a1,.ref a2]/\Sq b1 X.K H1 a1 xs/\Sq b2 X.K H1 a2 ys/\R (uG X.K b1 b2 a1 a2) H1):=by
 intro pins s σ H R I h;refine Call_ (Xv I hg hm boot_zip (UR (ZD (ha pos pins s σ H _ I h) λus s1 ⟨vs,H1,I1,r1,q1⟩=>?_) (by rw[hs,hs2]) (by rw[hs2];rfl)));obtain⟨b1,b2,a1,a2,xs,ys,rfl,q1,q2,q⟩:=q1;cases r1 with
 |cons ru rr=>
  cases rr with
  |cons rt rr=>
   cases rr;cases ru;cases rt;obtain⟨its1,v1,p1⟩:=q1.real I1;obtain⟨its2,v2,p2⟩:=q2.real I1;refine D6 p1 p2 λh' hz hTI hTO hi1 hi2 hsz hk=>wpAny_pyIter_zip hz ?_;have I2:Inv X pins σ H1 {s1 with heap:=h'}:=I1.kept (t':=s1.toks) hk;refine⟨s1.heap.objs.size+4,_,_,_,H1,rfl,I2,D7 b1 b2 _ (s1.heap.objs.size+2) (s1.heap.objs.size+3) s1.heap.objs.size (s1.heap.objs.size+1) a1 a2 (PyProof.Rows.zipApart_new p1.lt p2.lt),⟨hz,hTI,⟨_,_,hTO⟩,hi1,hi2⟩,λb hb=>?_,q⟩;have hb':b=s1.heap.objs.size+4\/b=s1.heap.objs.size+2\/b=s1.heap.objs.size+3\/b=s1.heap.objs.size\/b=s1.heap.objs.size+1:=by simpa using hb
   have hle:s1.heap.objs.size<=b:=by rcases hb' with h|h|h|h|h<;>rw[h]<;>first|exact Ug _|exact Tq _ _
   exact I1.fpOk hle (I1.hok.fresh hle)
theorem YG{K:Frag}{μ:List Addr}{H:Hp}{g:G}{v:V}{d:D}{b:Bool}{ds:List D}(r:GRep K ca μ H g)(q:Den K μ H v d)(h:QN g d=some (b,ds)):∃a vs,v=.ref a/\Sq b K H a vs/\Dens K μ H vs ds:=by
 cases q with
 |@tup a vs es ht hs=>cases h;exact⟨a,vs,rfl,ht,hs⟩|@fl a vs es ht hs=>cases h;exact⟨a,vs,rfl,ht.sq,hs⟩|@ref n a hn=>
  unfold QN at h;dsimp only at h;cases hg:g[n]? with
  |none=>rw[hg]at h;cases h|some o=>
   rw[hg]at h;obtain⟨a',ha',ob⟩:=r.addr hg;rw[hn]at ha';cases ha';cases o with
   |lst es=>cases h;obtain⟨vs,hH,q⟩:=ob;exact⟨a,vs,rfl,SqL.of hH,q⟩|_=>cases h
 |_=>cases h
theorem VH{K:Frag}{μ:List Addr}{H:Hp}{g g':G}{μ':List Addr}{H':Hp}{d:D}{v:V}{b b':Bool}{ds ds':List D}(h:QN g d=some (b,ds))(h':QN g' d=some (b',ds')):b=b':=by
 unfold QN at h h';cases d with
 |tup es=>cases h;cases h';rfl|fl es=>cases h;cases h';rfl|ref n=>
  dsimp only at h h';have k1:b=true:=by
   cases hg:g[n]? with
   |none=>rw[hg]at h;cases h|some o=>rw[hg]at h;cases o<;>cases h<;>rfl
  have k2:b'=true:=by
   cases hg:g'[n]? with
   |none=>rw[hg]at h';cases h'|some o=>rw[hg]at h';cases o<;>cases h'<;>rfl
  rw[k1,k2]
 |_=>cases h
theorem fL{K:Frag}{μ:List Addr}{H:Hp}{g:G}{v1 v2:V}{d1 d2:D}{b1 b2:Bool}{xs ys:List D}{t:Nat}(q1:Den K μ H v1 d1)(q2:Den K μ H v2 d2)(h1:QN g d1=some (b1,xs))(h2:QN g d2=some (b2,ys)){a1 a2:Addr}(e1:v1=.ref a1)(e2:v2=.ref a2):
  As K ca μ H ⟨λg i=>(match QN g d1,QN g d2 with
  |some (_,xs),some (_,ys)=>(match xs[i]?,ys[i]? with
   |some x,some y=>some (some (.tup [x,y]))|_,_=>some none)
  |_,_=>none),t⟩ (uG K b1 b2 a1 a2):=by
 intro i H1 μ1 g1 ex r;dsimp only;cases k1:QN g1 d1 with
 |none=>trivial|some p1=>
  obtain⟨c1,xs1⟩:=p1;cases k2:QN g1 d2 with
  |none=>trivial|some p2=>
   obtain⟨c2,ys1⟩:=p2;have f1:=VH (K:=K) (μ:=μ) (H:=H) (μ':=μ) (H':=H) (v:=v1) h1 k1;have f2:=VH (K:=K) (μ:=μ) (H:=H) (μ':=μ) (H':=H) (v:=v1) h2 k2;subst f1 f2;obtain⟨z1,vs,w1,s1,d1s⟩:=YG r (q1.mono ex) k1;obtain⟨z2,ws,w2,s2,d2s⟩:=YG r (q2.mono ex) k2;rw[e1]at w1;cases w1;rw[e2]at w2;cases w2;dsimp only;cases hx:xs1[i]? with
   |none =>refine⟨vs,ws,s1,s2,.inl ?_⟩;rw[d1s.length];exact To.mp hx|some x=>
    cases hy:ys1[i]? with
    |none =>refine⟨vs,ws,s1,s2,.inr ?_⟩;rw[d2s.length];exact To.mp hy|some y =>obtain⟨vx,hvx,qx⟩:=d1s.get hx;obtain⟨vy,hvy,qy⟩:=d2s.get hy;refine⟨⟨vs,ws,vx,vy,s1,s2,hvx,hvy⟩,λv H' yl=>?_⟩;obtain⟨pp,x',y',hp,rfl,rfl,u1,u2⟩:=yl;have:=u1 vs s1;rw[hvx]at this;cases this;have:=u2 ws s2;rw[hvy]at this;cases this;exact⟨Q3 hp,r.new hp,.tup (.of Qy) (.cons (qx.mono (Q3 hp)) (.cons (qy.mono (Q3 hp)) .nil))⟩
theorem qK(hm:X.mg "zip"=none)(h1:QD ca X e1 m1)(h2:QD ca X e2 m2)(hg:Gl X "zip":=by rfl)(hs:starEach [e1,e2] X.env=[(false,eval e1 X.env),(false,eval e2 X.env)]:=by rfl)(hs2:starEach [e2] X.env=[(false,eval e2 X.env)]:=by rfl)(hs3:starEach [e1,e2] X.env=(false,eval e1 X.env)::starEach [e2] X.env:=by rfl):Dj ca X (.Tuple elts kk tp) (.Call (.Name "zip" p) [e1,e2] [] pos) (Lj m1 m2):=
 λpn Φ=>Xj (mD (X:=QI X ca pn Φ) hg hm (ZH h1 (ZH h2 Qm hs2) hs3 pn Φ) hs hs2) λσ H R hQ=>by
  obtain⟨σ3,g,μ,Rp,q⟩:=hQ;refine⟨σ3,g,μ,Rp,?_⟩;unfold Lj at q;unfold Qc Qi;cases hm1:m1 σ3 g with
  |raise _ _=>rw[hm1]at q;exact q|stuck=>rw[hm1]at q;exact q.elim|ok d1 g1=>
   rw[hm1,Res.bind_ok]at q;rw[Res.bind_ok];cases hm2:m2 σ3 g1 with
   |raise _ _=>rw[hm2]at q;exact q|stuck=>rw[hm2]at q;exact q.elim|ok d2 g2=>
    rw[hm2,Res.bind_ok]at q;rw[Res.bind_ok,Res.bind_ok,Res.bind_ok];intro vs H1 μ1 ex r1 q1;cases q1 with
    |@cons v1 _ _ _ n1 q1=>
     cases q1 with
     |@cons v2 _ _ _ n2 q1=>
      cases q1;unfold GC at q;cases k1:QN g2 d1 with
      |none=>rw[k1]at q;exact q.elim|some p1=>
       obtain⟨b1,xs⟩:=p1;cases k2:QN g2 d2 with
       |none=>rw[k1,k2]at q;exact q.elim|some p2 =>obtain⟨b2,ys⟩:=p2;rw[k1,k2]at q;obtain⟨a1,us,rfl,s1,_⟩:=YG r1 n1 k1;obtain⟨a2,ts,rfl,s2,_⟩:=YG r1 n2 k2;exact⟨b1,b2,a1,a2,us,ts,rfl,s1,s2,q _ H1 μ1 ex r1 (fL n1 n2 k1 k2 rfl rfl)⟩
end
theorem X2(K:Frag)(t c:Ty):kitOne K (.type t.name) (.type c.name)=some (Ln t c):=by cases t<;>cases c<;>kernel_rfl
section
variable{X:Cx}{ca:Nat->Addr}{a b c e:Expr}{ma mb mc me:ME}{pos p p2:Pos}{k:Nat}
theorem Av(c:Ty):JL X (.builtin "isinstance") (λxs H Q=>∃x g μ d t,xs=[x,.ty c.name]/\GRep X.K ca μ H g/\Den X.K μ H x d/\FU g d=some t/\Q (.bl (Ln t c)) H):=by
 intro pins s σ H xs us Q I rv h;obtain⟨x,g,μ,d,t,rfl,r,q,ht,qq⟩:=h;obtain⟨u,u2,rfl,ru,ru2⟩:=rv.two;cases ru2;have fin:∀tk,EP X pins σ Q (.bool (Ln t c)) {s with toks:=tk}:=λtk=>⟨.bl _,H,I.tok tk,rfl,qq⟩;cases q with
 |non=>cases ht;exact Ju I ru .non (X2 X.K .non c) fin|bl y=>cases ht;exact Ju I ru (.bl y) (X2 X.K .bool c) fin|int y=>cases ht;exact Ju I ru (.int y) (X2 X.K .int c) fin|str y=>cases ht;exact Ju I ru (.str y) (X2 X.K .str c) fin|@tup a vs ds hq hs =>cases ht;cases ru;obtain⟨its,_,⟨o,h1,h2,_⟩,_⟩:=I.tuple hq;exact UX kitx_tuple I.kIn ⟨o,h1,h2⟩ (X2 X.K .tuple c) (λz=>nomatch z) fin|@fl a vs ds hq hs =>cases ht;cases ru;obtain⟨its,_,p,_⟩:=I.list hq.sq;obtain⟨o,h1,h2,_⟩:=p.isList;exact UX W7 I.kIn ⟨o,h1,h2⟩ (X2 X.K .list c) (λz=>nomatch z) fin|@ref n a hn=>
  unfold FU at ht;dsimp only at ht;cases hg:g[n]? with
  |none=>rw[hg]at ht;cases ht|some o=>
   rw[hg]at ht;obtain⟨a',ha',ob⟩:=r.addr hg;rw[hn]at ha';cases ha';cases o with
   |lst ds=>cases ht;obtain⟨vs,hH,_⟩:=ob;exact Ju I ru (.lst hH) (X2 X.K .list c) fin|dct ks=>cases ht;obtain⟨kv,hH,_⟩:=ob;exact Ju I ru (.dK hH) (X2 X.K .dict c) fin|ins _ _=>cases ht|exc _=>cases ht|unk=>cases ht|dfz _=>cases ht|dcn _ _=>cases ht|dcf _ _=>cases ht
theorem Y2{x:Str}(c:Ty)(hi:X.mg "isinstance"=none)(hm:X.mg x=none)(hv:bootBuiltins x=some (.type c.name))(he:QD ca X e me)(hgi:Gl X "isinstance":=by rfl)(hg:Gl X x:=by rfl)(hnm:x ≠"__name__":=by decide)(hdb:(x==("__debug__" : Str))=false:=by decide)(hs:starEach [e,.Name x p2] X.env=(false,eval e X.env)::starEach [.Name x p2] X.env:=by rfl)(hs2:starEach [.Name x p2] X.env=(false,eval (.Name x p2) X.env)::starEach [] X.env:=by rfl)(hpl:(backTo pos (starEach [.Name x p2] X.env)).any (·.1)=false:=by rfl):
  QD ca X (.Call (.Name "isinstance" p) [e,.Name x p2] [] pos) (Qt (YF c) me):=λpn Φ=>Zb (Vn (X:=QI X ca pn Φ) (Av (ca:=ca) c) hgi hi WJ (YX (X:=QI X ca pn Φ) (he pn Φ) (YX (X:=QI X ca pn Φ) (PQ (X:=QI X ca pn Φ) (v:=.ty c.name) hg hm hv rfl hnm hdb) E1 hs2) hs) (by decide) (by decide) hs hpl) λσ H Q ⟨σ3,g,μ,R,q⟩=>
  Zg (YZ R q) λy H1 hQ=>by
   obtain⟨d,g1,μ1,e1,R1,q1,p1⟩:=hQ;unfold YF at p1;cases ht:FU g1 d with
   |none=>rw[ht]at p1;exact p1.elim|some t=>rw[ht]at p1;exact⟨y,g1,μ1,d,t,rfl,R1.g,q1,ht,p1 _ H1 μ1 .refl R1.g (.bl _)⟩
theorem M3{K:Frag}{μ:List Addr}{H:Hp}:∀{vs:List V}{ds:List D}{us:List Value}{b:Bool},Dens K μ H vs ds->Vals vs us->FV ds=some b->∃bs:List Bool,us=bs.map Value.bool/\bs.all id=b
 |_,_,_,b,.nil,.nil,h=>by cases h;exact⟨[],rfl,rfl⟩
 |_,_,_,b,@Dens.cons _ _ _ _ _ _ ds q qs,.cons r rs,h=>by
  cases q with
  |bl c=>
   unfold FV at h;cases hd:FV ds with
   |none=>rw[hd]at h;cases h|some d =>rw[hd]at h;cases h;obtain⟨bs,h1,h2⟩:=M3 qs rs hd;cases r;exact⟨c::bs,by rw[h1];rfl,by simp[h2]⟩
  |_=>cases h
theorem Aw(bs:List Bool):((List.range bs.length).all λi=>(bs[i]?).getD true)=bs.all id:=by
 rw[Rn,U3,U3];constructor
 ·intro h b hb;obtain⟨i,hi,rfl⟩:=WM hb;have:=h i (Rw.mpr hi);simpa[hi]using this
 ·intro h i hi;have hi':=Rw.mp hi;have:=h bs[i] (Tr hi');simpa[hi']using this
theorem Ax(hc:X.calm=true):JL X (.builtin "all") (λxs H Q=>∃p vs ds μ b,xs=[.ref p]/\SqL X.K H p vs/\Dens X.K μ H vs ds/\FV ds=some b/\Q (.bl b) H):=by
 intro pins s σ H xs us Q I rv h;obtain⟨l,vs,ds,μ,b,rfl,hq,q,hb,qq⟩:=h;obtain⟨u,rfl,ru⟩:=rv.one;cases ru;obtain⟨its,rs,pl,_⟩:=I.list hq;obtain⟨bs,rfl,e2⟩:=M3 q rs hb;have hl:=pl.isList;have hlt:l<s.heap.objs.size:=by obtain⟨_,e,_⟩:=hl;exact Ul e
 refine call_all_walk (Ba hl ⟨s.heap.objs.size,[s.heap.objs.size,l],[s.heap.objs.size],_,_,_,λi=>(bs[i]?).getD true,rfl,Walks.list (A:=X.A.in1) (show X.A.in1.handled=none from I.ok.hd hc) _ l (UH hlt) _,⟨⟨_,Uk _ rfl,rfl,rfl⟩,hl.push _⟩,λi v s' Q' E' hP hQ=>?_,λh' tk hk=>?_⟩)
 ·have hP:(bs.map Value.bool).toArray[i]?=some v:=hP;rw[Wp,Uy]at hP;cases hi:bs[i]? with
  |none=>rw[hi]at hP;cases hP|some c =>rw[hi]at hP;cases hP;simp only[hi,Option.getD_some]at hQ;exact Ta hQ
 ·have kept:∀c o,s.heap.get? c=some o->h'.get? c=some o:=λc o e=>hk c o (λhm=>by rw[Ur.mp hm]at e;exact Tx _ (Ul e)) (Uc _ e);have ea:((List.range (bs.map Value.bool).toArray.size).all λi=>(bs[i]?).getD true)=b:=by rw[Us,Uh,Aw,e2]
  rw[ea];exact⟨.bl b,H,I.kept kept,rfl,qq⟩
theorem D8(hc:X.calm=true)(hm:X.mg "all"=none)(he:QD ca X e me)(hg:Gl X "all":=by rfl)(hs:starEach [e] X.env=[(false,eval e X.env)]:=by rfl)(hpl:(backTo pos (starEach [] X.env)).any (·.1)=false:=by rfl):
  QD ca X (.Call (.Name "all" p) [e] [] pos) (Qt Lo me):=
 IK (r:=λxs H Q=>∃p vs ds μ b,xs=[V.ref p]/\SqL X.K H p vs/\Dens X.K μ H vs ds/\FV ds=some b/\Q (.bl b) H) (λpn Φ=>Ax (X:=QI X ca pn Φ) hc) hm boot_all (λΦ σ H μ g y d Q r q pp=>by
  unfold Lo at pp;cases q with
  |@ref n t hn=>
   dsimp only at pp;cases hgn:g[n]? with
   |none=>rw[hgn]at pp;exact pp.elim|some ob=>
    rw[hgn]at pp;obtain⟨t',ht',orp⟩:=r.addr hgn;rw[hn]at ht';cases ht';cases ob with
    |lst ds=>
     obtain⟨vs,hH,q⟩:=orp;dsimp only at pp;cases hb:FV ds with
     |none=>rw[hb]at pp;exact pp.elim|some b=>rw[hb]at pp;exact⟨t,vs,ds,μ,b,rfl,.of hH,q,hb,pp _ H μ .refl r (.bl _)⟩
    |_=>exact pp.elim
  |_=>exact pp.elim) he hg (by decide) (by decide) hs hpl
theorem D9{K:Frag}{Φ:XS}{r r':R2}{f f':D->D->G->Res D}(h1:Z1 K ca r f)(h2:Z1 K ca r' f')(σ:L2.St)(H:Hp)(Q:VK)(h:up K ca Φ (E5 f f' ma mb mc) σ H Q):Ds r r' (up K ca Φ ma) (up K ca Φ mb) (up K ca Φ mc) σ H Q:=by
 obtain⟨σ3,g,μ,R,p⟩:=h;refine Zg (YZ R p) λx H1 ⟨dx,g1,μ1,e1,R1,q1,p1⟩=>?_;refine Zg (YZ R1 p1) λy H2 ⟨dy,g2,μ2,e2,R2,q2,p2⟩=>?_;refine h1 Φ σ H2 μ2 g2 x y dx dy _ R2.g (q1.mono e2) q2 ?_;cases hf:f dx dy g2 with
 |raise _ _=>rw[hf]at p2;exact p2|stuck=>rw[hf]at p2;exact p2.elim|ok z g3=>
  rw[hf,Res.bind_ok]at p2;intro v H3 μ3 e3 r3 q3;cases q3 with
  |bl t=>
   refine⟨t,rfl,?_⟩;cases t with
   |true =>rw[Ud rfl];dsimp only at p2;refine Zg (YZ (R2.go e3 r3) (p2.go e3)) λw' H4 ⟨dw,g4,μ4,e4,R4,q4,p4⟩=>?_;exact h2 Φ σ H4 μ4 g4 y w' dy dw Q R4.g ((q2.mono e3).mono e4) q4 p4
   |false =>rw[Uf Ue];exact p2 _ H3 μ3 e3 r3 (.bl _)
  |_=>exact p2.elim
theorem mE(ha:QD ca X a ma)(hb:QD ca X b mb)(hc:QD ca X c mc)(hm:lastMarks [.LtE,.Lt] [b,c]=false:=by with_unfolding_all rfl):QD ca X (.Compare a [.LtE,.Lt] [b,c] pos) (E5 Oq HF ma mb mc):=λpn Φ=>Zb (Dt (X:=QI X ca pn Φ) iT iS (ha pn Φ) (hb pn Φ) (hc pn Φ) hm) (D9 (Xz _) (Xz _))
theorem aA{K:Frag}{μ:List Addr}{H:Hp}{v:V}{d:D}(q:Den K μ H v d)(h:B9 d=true):B8 v=true:=by cases q<;>first|rfl|cases h
theorem Sf{K:Frag}{μ:List Addr}{H:Hp}:∀{vs:List V}{ds:List D},Dens K μ H vs ds->ds.all B9=true->vs.all B8=true
 |_,_,.nil,_=>rfl|_,_,.cons q qs,h=>by rw[Rs,UK]at h ⊢;exact⟨aA q h.1,Sf qs h.2⟩
theorem qL{K:Frag}{μ:List Addr}{H:Hp}{v w:V}{d e:D}(q:Den K μ H v d)(q':Den K μ H w e)(h:B9 d=true)(h':B9 e=true):dJ v w=sA d e:=by cases q<;>cases q'<;>first|rfl|cases h|cases h'
theorem jI{K:Frag}{μ:List Addr}{H:Hp}{w:V}{e:D}(q':Den K μ H w e)(h':B9 e=true):∀{vs:List V}{ds:List D},Dens K μ H vs ds->ds.all B9=true->(vs.any λy=>dJ y w)=ds.any λd=>sA d e
 |_,_,.nil,_=>rfl|_,_,.cons q qs,h=>by rw[Rs,UK]at h;rw[T8,T8,qL q q' h.1 h',jI q' h' qs h.2]
theorem fM{K:Frag}(neg:Bool):Z1 K ca (vK K neg) (lP neg):=by
 intro Φ σ H μ g x y dx dy Q r qx qy p;unfold lP at p;cases hs:QN g dy with
 |none=>rw[hs]at p;exact p.elim|some pr=>
  obtain⟨bb,ds⟩:=pr;rw[hs]at p;dsimp only at p;by_cases z:B9 dx=true/\ds.all B9=true
  ·rw[Ud z]at p;obtain⟨a,vs,rfl,sq,qs⟩:=YG r qy hs;refine⟨a,vs,rfl,?_,aA qx z.1,Sf qs z.2,p _ H μ .refl r ?_⟩
   ·cases bb
    ·exact .inr sq
    ·exact .inl sq
   ·unfold inV;rw[jI qx z.1 qs z.2];cases neg<;>exact .bl _
  ·rw[Uf z]at p;exact p.elim
theorem uH(ha:QD ca X a ma)(hb:QD ca X b mb)(hm:behindInMarks .In b=false:=by rfl):QD ca X (.Compare a [.In] [b] pos) (Qd (lP false) ma mb):=IC (λ_ _=>Ag) (fM false) ha hb hm
end
theorem Ei{t sl:Addr}{items:Array Value}{vl vu:Value}{lo hi:Option Int}{Q:VP}(ht:IsTup s.heap t items)(hs:s.heap.IsSliceOf sl vl vu .none)(pl:IsPart vl lo)(pu:IsPart vu hi)(h1:HT.sIx items.size 0 lo=0)(h2:HT.sIx items.size items.size hi=items.size)(h:Q (.ref t) s):wpAny (model prog w) A (getItem (.ref t) (.ref sl)) Q E s:=by
 obtain⟨os,hos,hcs,hds⟩:=id hs;have hTs:s.TypeIs (.ref sl) "slice":=⟨os,hos,hcs⟩;unfold getItem;try with_reducible refine U5 ?_
 first|refine Ua (Ub ?_)|skip
 refine Ua (wpAny_sequenceKey ht.typeIs (by decide) ?_);refine Ua (UG (name:=Str.ofString "__getitem__") ht.typeIs U0 (UE U0 ht.typeIs entry_tuple_getitem ?_ (args_tuple_getitem _ _)));show wpAny _ _ (Builtin.Tuple.tupleItemsOf (.ref t) >>= _) _ _ s;refine Ua (tupleItemsOf_ ht (Ua (RB hTs ?_)));rw[Ud (by decide)];refine Ua (HT.sliceApplied_gen hs pl pu ?_);rw[h1,h2];show wpAny _ _ (if (((0:Nat):Int)==0&&(1:Int)==1&&(items.size-0)==items.size)=true then _ else _) _ _ s;rw[Ud (by simp)];unfold Builtin.Tuple.tupleIsExact;refine Ua (Ua (RB ht.typeIs (Ub ?_)));rw[Ud (by decide)];exact Ua (TL (Ub ⟨_,rfl,Ub h⟩))
theorem Sg(n d:Nat)(o:Option Int):HT.sIx n d o=Lm n d o:=by cases o<;>rfl
theorem Dens.cut{K:Frag}{μ:List Addr}{H:Hp}{vs:List V}{ds:List D}(lo hi:Option Int)(h:Dens K μ H vs ds):Dens K μ H (Mz vs lo hi) (C8 ds lo hi):=by unfold Mz C8;rw[Sg,Sg,h.length];exact(h.drop _).take _
section
variable{X:Cx}{ca:Nat->Addr}{e:Expr}{me:ME}{lo hi:Option Expr}{ml mh:MO}{pos p2:Pos}
theorem Ay:SlR X (λx lo hi H Q=>∃a xs,x=.ref a/\SqT X.K H a xs/\(HT.sIx xs.length 0 lo=0/\HT.sIx xs.length xs.length hi=xs.length)/\Q (.ref a) H):=by
 intro pins s σ H x v vl vu lo hi sl Q I rx hs pl pu h;obtain⟨a,xs,rfl,hx,hw,q⟩:=h;cases rx;obtain⟨its,r,ht,hz⟩:=I.tuple hx;have hlen:its.toArray.size=xs.length:=by rw[Us];exact r.length.symm
 refine⟨"tuple",_,U0.lookup,ht.typeIs,?_⟩;exact Ei ht hs pl pu (by rw[hlen];exact hw.1) (by rw[hlen];exact hw.2) ⟨.ref a,H,I,rfl,q⟩
def wJ(K:Frag)(ca:Nat->Addr)(Φ:XS)(m:MO):TO:=λσ H Q=>∃σ3 g μ,Rep K ca μ σ3 g σ H/\match m σ3 g with
 |.ok o g'=>∀H' μ',Ext K μ H μ' H'->GRep K ca μ' H' g'->Q o H'|.raise x g'=>RaP K ca Φ σ H μ x g'|.stuck=>False
def sH(ca:Nat->Addr)(X:Cx)(e:Option Expr)(m:MO):Prop:=∀pn Φ,PO (QI X ca pn Φ) e (wJ X.K ca Φ m)
theorem KC:sH ca X none JF:=λpn Φ pins s σ H Q I ⟨_,_,μ,R,p⟩=>eM (X:=QI X ca pn Φ) pins s σ H Q I (p H μ .refl R.g)
theorem Cs(he:QD ca X e me):sH ca X (some e) (ZO me):=λpn Φ pins s σ H Q I hQ=>by
 obtain⟨σ3,g,μ,R,p⟩:=hQ;refine eO (X:=QI X ca pn Φ) (he pn Φ) pins s σ H Q I ⟨σ3,g,μ,R,?_⟩;unfold ZO at p;cases hm:me σ3 g with
 |raise _ _=>rw[hm]at p;exact p|stuck=>rw[hm]at p;exact p|ok d g1=>
  rw[hm,Res.bind_ok]at p;intro v H1 μ1 e1 r1 q1;cases q1 with
  |int i=>exact⟨i,rfl,p H1 μ1 e1 r1⟩|_=>exact p.elim
theorem fN(xs:List α)(lo hi:Option Int)(h1:Lm xs.length 0 lo=0)(h2:Lm xs.length xs.length hi=xs.length):C8 xs lo hi=xs:=by unfold C8;rw[h1,h2];simp
theorem Bm(he:QD ca X e me)(hl:sH ca X lo ml)(hh:sH ca X hi mh):QD ca X (.Subscript e (.Slice lo hi none p2) pos) (Z7 me ml mh):=λpn Φ=>
 Zb (Dy (X:=QI X ca pn Φ) ((sl_tup.or Ay).or eR) (he pn Φ) (hl pn Φ) (hh pn Φ)) λσ H Q ⟨σ3,g,μ,R,p⟩=>Zg (YZ R p) λx H1 hQ=>by
  obtain⟨d,g1,μ1,e1,R1,q1,p1⟩:=hQ;refine⟨σ3,g1,μ1,R1,?_⟩;cases hm:ml σ3 g1 with
  |raise _ _=>rw[hm]at p1;exact p1|stuck=>rw[hm]at p1;exact p1|ok l g2=>
   rw[hm,Res.bind_ok]at p1;intro H2 μ2 e2 r2;refine⟨σ3,g2,μ2,R1.go e2 r2,?_⟩;cases hm2:mh σ3 g2 with
   |raise _ _=>rw[hm2]at p1;exact RaP.go e2 p1|stuck=>rw[hm2]at p1;exact p1|ok u g3=>
    rw[hm2,Res.bind_ok]at p1;intro H3 μ3 e3 r3;have p3:=Post.go (e2.trans e3) p1;have q3:=(q1.mono e2).mono e3;unfold Cp at p3;cases q3 with
    |@tup a vs ds ht hs=>
     by_cases hw:HT.sIx vs.length 0 l=0/\HT.sIx vs.length vs.length u=vs.length
     ·refine .inl (.inr ⟨a,vs,rfl,ht,hw,p3 _ H3 μ3 .refl r3 ?_⟩);rw[fN ds l u (by rw[<-Sg,<-hs.length];exact hw.1) (by rw[<-Sg,<-hs.length];exact hw.2)];exact .tup ht hs
     ·exact .inl (.inl ⟨a,vs,rfl,ht,hw,λt ht'=>p3 _ _ μ3 (Q3 ht') (r3.new ht') (.tup (.of Qy) ((hs.cut l u).mono (Q3 ht')))⟩)
    |@ref n a hn=>
     dsimp only at p3;cases hg:g3[n]? with
     |none=>rw[hg]at p3;exact p3.elim|some o=>
      rw[hg]at p3;obtain⟨a',ha',ob⟩:=r3.addr hg;rw[hn]at ha';cases ha';cases o with
      |lst ds =>obtain⟨vs,hH,hs⟩:=ob;refine .inr ⟨a,vs,rfl,.of hH,λt ht'=>p3 _ _ (μ3++[t]) (ZC ht') (r3.push ht' ⟨_,Qy,(hs.cut l u).mono (ZC ht')⟩) (.ref ?_)⟩;rw[<-r3.len];simp|_=>exact p3.elim
    |_=>exact p3.elim
end
abbrev sI:List Value:=[.type "ValueError",.type "Exception",.type "BaseException",.type "object"]
structure ExK(K:Frag)(C:Addr):Prop where
 ga:findIn K (.ref C) "__getattribute__"=some (some (.builtin "BaseException.__getattribute__"))
 gx:findIn K (.ref C) "__getattr__"=some none
 cl:findIn K (.ref C) "__class__"=some (some (.builtin "object.__class__"))
 gt:specialIn K (.builtin "object.__class__") "__get__"=some (some (.builtin "getset_descriptor.__get__"))
 tk:takesIn K (.builtin "object.__class__")=some true
 mr:mroIn K C (.type "object")=some true
 sb:subIn K (.ref C) (.type "BaseException")=some true
 ci:(clsIn K C).isSome=true
section
variable{prog:Program}{w:World}{A:Around}{E:VP}{s:Shared}{K:Frag}{C e:Addr}{oe:Obj}{vs:Array Value}
theorem M4(hx:h.get? e=some oe)(hc:oe.cls=.ref C)(hd:oe.data=.fields vs)(hn:oe.dict=none):PySem.W.InstAt h e oe C none:=⟨hx,hc,by obtain⟨c,d,dt,sl⟩:=oe;obtain rfl:dt=_:=hd;rfl,by rw[hn];trivial⟩
theorem fO(F:ExK K C):findObj K C none "__class__"=some (.bind (.builtin "getset_descriptor.__get__") (.builtin "object.__class__")):=by obtain⟨cd,hc⟩:=TU.mp F.ci;unfold findObj;rw[hc,Option.bind_some,F.cl,Option.bind_some];simp[F.gt,F.tk]
theorem aB(X:K.In s.heap)(F:ExK K C)(I:PySem.W.InstAt s.heap e oe C none)(hq:Q () s):wpAny (model prog w) A (checkBuiltinCall "BaseException.__getattribute__" ⟨[.ref e,nm],[]⟩) Q E s:=by
 obtain⟨h,g,d,t,os⟩:=s;have hk:builtinKind "BaseException.__getattribute__"=some .slot:=by decide +kernel
 have hsplit:splitId "BaseException.__getattribute__"=some ("BaseException","__getattribute__"):=by decide +kernel
 have L0:=I.type (M:=model prog w);have L1:=WN (M:=model prog w) X F.sb;have ha:=PySem.F.args_bexc_ga (.ref e) nm;simp only[checkBuiltinCall,hk,hsplit];unfold isInstance;refine Ua (Ua (L0.at (L1.at ?_)));repeat (first|exact hq|wp_step)
theorem Az(X:K.In s.heap)(F:ExK K C)(I:PySem.W.InstAt s.heap e oe C none)(h:Q (some (.ref C)) {s with toks:=s.toks+1}):wpAny (model prog w) A (getAttr? (.ref e) "__class__") Q E s:=by obtain⟨hh,g,d,t,os⟩:=s;have L0:=I.type (M:=model prog w);have L1:=Wy (M:=model prog w) X F.ga;have L2:=Wy (M:=model prog w) X F.gx;have L3:=looks_find (M:=model prog w) X I (fO F);have hb:=PySem.F.attr_ValueError.ga.bind (.ref e);unfold getAttr? getAttrBy? getAttrBy;refine Ua (wpAny_mkText (Ua (Tz (U5 (Ua (L0.at (Ua (L1.at ?_))))))));show wpAny _ _ (getAttrByItsOwn _ _ _ _ _ _) _ _ _;unfold getAttrByItsOwn hookBefore callGetattribute boundAndCalled;refine Ua (L2.at ?_);refine Ua (Tz (U5 ?_));show wpAny _ _ (bindSpecial (.builtin "BaseException.__getattribute__") (.ref e) >>= _) _ _ _;rw[hb];refine Ua (Ub ?_);refine wpAny_call (codeAny_call_builtin PySem.F.attr_ValueError.ga.plain PySem.F.entry_bexc_ga (aB (s:=⟨hh,g,d,t+1,os⟩) X F I ?_));unfold Builtin.«object.__getattribute__»;refine Ua (TD (a:=(Value.ref e,[Value.str "__class__" t])) rfl ?_);refine Ua (TD (a:=Str.ofString "__class__") rfl ?_);refine Ua (L0.at (Ua (L3.at ?_)));show wpAny _ _ (Builtin.ObjectAttr.bindTo (.builtin "getset_descriptor.__get__") (.builtin "object.__class__") (.ref e) (.ref C)) _ _ _;refine Ua (U5 (wpAny_call (class_get (s:=⟨hh,g,d,t+1,os⟩) (od:=none) X I F.mr ?_)));refine Ub ?_;show wpAny (model prog w) A (handedOut (Value.ref C)) _ _ _;exact Ub (Ub h)
theorem M5(F:ExK K C):KitX K (.ref e) (.ref C) (λh=>∃o vs,h.get? e=some o/\(o.cls=.ref C/\o.dict=none)/\o.data=.fields vs) where
 ty:=λM h _ ⟨o,vs,h1,h2,h3⟩=>(M4 h1 h2.1 h3 h2.2).type
 it:=λ_ _ X _=>by
  obtain⟨cd,hc⟩:=TU.mp F.ci;unfold clsIn at hc;split at hc
  ·rename_i c' d' cd' sl' ho;intro A' Q' E' s' k q;unfold isType loadHead;exact Ua (BO (k _ _ (X _ _ ho)) (Ub q))
  ·cases hc
 ne:=λh tp dd its n sl X htp=>by
  obtain⟨cd,hc⟩:=TU.mp F.ci;refine Bool.eq_false_iff.mpr λq=>?_;have z:C=tp:=Value.ref.inj (Tn.mp q);subst z;unfold clsIn at hc;split at hc
  ·rename_i c' d' cd' sl' ho;cases (X _ _ ho).symm.trans htp
  ·cases hc
 ca:=λX ⟨o,vs,h1,h2,h3⟩ k=>Az X F (M4 h1 h2.1 h3 h2.2) k
end
structure IsX(K:Frag)(ca:Nat->Addr)(T:Value)(all cs:List Nat):Prop where
 ex:∀c∈all,ExK K (ca c)
 an:∀c∈all,kitOne K (.ref (ca c)) T=some (decide (c∈cs))
 no:kitOne K (.type "NoneType") T=some false
theorem GH(hu:∀v,L2.RelV u v->v=T)(h:IsX X.K ca T all cs):JL X (.builtin "isinstance") (λxs H Q=>∃x g μ d b,xs=[x,u]/\GRep X.K ca μ H g/\Den X.K μ H x d/\ZW all cs d g=.ok (.bl b) g/\Q (.bl b) H):=by
 intro pins s σ H xs us Q I rv z;obtain⟨x,g,μ,d,b,rfl,r,q,ht,qq⟩:=z;obtain⟨v,v2,rfl,rx,r2⟩:=rv.two;have e2:v2=T:=hu v2 r2;subst e2;have fin:∀tk,EP X pins σ Q (.bool b) {s with toks:=tk}:=λtk=>⟨.bl _,H,I.tok tk,rfl,qq⟩;cases q with
 |non=>cases ht;exact Ju I rx .non h.no fin|@ref n a hn=>
  unfold ZW at ht;dsimp only at ht;cases hg:g[n]? with
  |none=>rw[hg]at ht;cases ht|some o=>
   rw[hg]at ht;obtain⟨a',ha',ob⟩:=r.addr hg;rw[hn]at ha';cases ha';cases o with
   |exc ex=>
    dsimp only at ht;by_cases hm:ex.1∈all
    ·rw[Ud hm]at ht;cases ht;cases rx;obtain⟨⟨o,vs,h1,h2,h3⟩,_⟩:=I.hok a _ ob;exact UX (M5 (h.ex _ hm)) I.kIn ⟨o,vs,h1,h2,h3⟩ (h.an _ hm) (λz=>nomatch z) fin
    ·rw[Uf hm]at ht;cases ht
   |_=>cases ht
 |_=>cases ht
theorem M6{K:Frag}{Φ:XS}{u:V}(σ:L2.St)(H:Hp)(Q:VK)(h:up K ca Φ (Qt (ZW all cs) me) σ H Q):up K ca Φ me σ H λy H1=>∃x g μ d b,[y,u]=[x,u]/\GRep K ca μ H1 g/\Den K μ H1 x d/\ZW all cs d g=.ok (.bl b) g/\Q (.bl b) H1:=by
 obtain⟨σ3,g,μ,R,q⟩:=h;refine Zg (YZ R q) λy H1 ⟨d,g1,μ1,e1,R1,q1,p1⟩=>?_;have:∃b,ZW all cs d g1=.ok (.bl b) g1:=by
  unfold ZW at p1 ⊢;cases d with
  |non=>exact⟨false,rfl⟩|ref n=>
   dsimp only at p1 ⊢;cases hg:g1[n]? with
   |none=>rw[hg]at p1;exact p1.elim|some o=>
    rw[hg]at p1;cases o with
    |exc ex=>
     dsimp only at p1 ⊢;by_cases hm:ex.1∈all
     ·rw[Ud hm];exact⟨_,rfl⟩
     ·rw[Uf hm]at p1;exact p1.elim
    |_=>exact p1.elim
  |_=>exact p1.elim
 obtain⟨b,hb⟩:=this;rw[hb]at p1;exact⟨y,g1,μ1,d,b,rfl,R1.g,q1,hb,p1 _ H1 μ1 .refl R1.g (.bl _)⟩
theorem fP{x:Str}{C:Addr}(hi:X.mg "isinstance"=none)(hC:X.mg x=some (.ref C)/\IsX X.K ca (.ref C) all cs)(he:QD ca X e me)(hgi:Gl X "isinstance":=by rfl)(hg:Gl X x:=by rfl)(hdb:(x==("__debug__" : Str))=false:=by decide)(hs:starEach [e,.Name x p2] X.env=(false,eval e X.env)::starEach [.Name x p2] X.env:=by rfl)(hs2:starEach [.Name x p2] X.env=(false,eval (.Name x p2) X.env)::starEach [] X.env:=by rfl)(hpl:(backTo pos (starEach [.Name x p2] X.env)).any (·.1)=false:=by rfl):
  QD ca X (.Call (.Name "isinstance" p) [e,.Name x p2] [] pos) (Qt (ZW all cs) me):=λpn Φ=>
 Zb (Vn (X:=QI X ca pn Φ) (GH (ca:=ca) (u:=.ref C) (λ_ h=>h) hC.2) hgi hi WJ (YX (X:=QI X ca pn Φ) (he pn Φ) (YX (X:=QI X ca pn Φ) (CZ (X:=QI X ca pn Φ) (v:=.ref C) hg hC.1 rfl hdb) E1 hs2) hs) (by decide) (by decide) hs hpl) λσ H Q h=>M6 σ H Q h
theorem fQ{x:Str}{T:String}(hi:X.mg "isinstance"=none)(hm:X.mg x=none)(hC:bootBuiltins x=some (.type T)/\IsX X.K ca (.type T) all cs)(he:QD ca X e me)(hgi:Gl X "isinstance":=by rfl)(hg:Gl X x:=by rfl)(hnm:x ≠"__name__":=by decide)(hdb:(x==("__debug__" : Str))=false:=by decide)(hs:starEach [e,.Name x p2] X.env=(false,eval e X.env)::starEach [.Name x p2] X.env:=by rfl)(hs2:starEach [.Name x p2] X.env=(false,eval (.Name x p2) X.env)::starEach [] X.env:=by rfl)(hpl:(backTo pos (starEach [.Name x p2] X.env)).any (·.1)=false:=by rfl):
  QD ca X (.Call (.Name "isinstance" p) [e,.Name x p2] [] pos) (Qt (ZW all cs) me):=λpn Φ=>
 Zb (Vn (X:=QI X ca pn Φ) (GH (ca:=ca) (u:=.ty T) (λ_ h=>h) hC.2) hgi hi WJ (YX (X:=QI X ca pn Φ) (he pn Φ) (YX (X:=QI X ca pn Φ) (PQ (X:=QI X ca pn Φ) (v:=.ty T) hg hm hC.1 rfl hnm hdb) E1 hs2) hs) (by decide) (by decide) hs hpl) λσ H Q h=>M6 σ H Q h
section
variable{K:Frag}{C:Addr}{x:Str}{mg:Vb}{h:Heap}
theorem fR(X:K.In h)(e:mg x=some (.ref C))(q:excIn K C sI "ValueError.__new__"=true):OwnCls x C sI "ValueError.__new__" mg h:=by
 refine⟨e,?_⟩;unfold excIn at q;split at q
 ·rename_i dd cd sl ho;split at q
  ·rename_i C' bm k0 k1 k2 k3 n k5 hm hs;simp only[UK,Tn,Bool.not_eq_true']at q;obtain⟨⟨⟨⟨⟨rfl,rfl⟩,hdel⟩,ht⟩,hok⟩,hni⟩:=q;obtain⟨nm,bs,mro,ns,qn,hd,sn,sub,ab,col,del⟩:=cd;dsimp only at hm hdel hok hni;subst hm hdel;have hsl:sl = #[k0,k1,k2,k3,some (.builtin "ValueError.__new__"),k5]:=by obtain⟨l⟩:=sl;simp only at hs;rw[hs]
   subst hsl;exact⟨bm,ns,nm,qn,bs,hd,sn,sub,ab,col,dd,k0,k1,k2,k3,k5,_,X _ _ ho,.of_isNs (isNs_of_in X hok),nsMap_none_of_in X hok hni,tail_of_in X ht⟩
  ·cases q
 ·cases q
end
theorem Inv.there'(I:Inv X pins σ H s)(h:H a=some o):∃u,s.heap.get? a=some u:=by
 have:=I.hok a o h;cases o with
 |lst xs=>obtain⟨_,_,_,_,e⟩:=this;exact⟨_,e⟩|tup xs=>obtain⟨_,_,_,u,e,_⟩:=this;exact⟨u,e⟩|dK kvs=>obtain⟨_,_,_,_,u,_,_,e,_⟩:=this;exact⟨u,e⟩|dT kvs=>obtain⟨_,_,_,_,u,_,_,e,_⟩:=this;exact⟨u,e⟩|set S n=>obtain⟨u,_,_,_,e,_⟩:=this;exact⟨u,e⟩|ins C dx fs=>obtain⟨_,_,_,e,_⟩:=this;exact⟨_,e⟩|own y=>exact this|xd fs=>obtain⟨_,⟨_,_,_,e,_⟩,_⟩:=this;exact⟨_,e⟩|met f x=>exact⟨_,this⟩|rng lo hi=>obtain⟨_,_,_,e⟩:=this;exact⟨_,e⟩|frz u v=>exact⟨_,this.1⟩|tbl ps=>exact⟨_,this⟩|ext φ=>exact this.2.1
structure RaH(K:Frag)(mg:Vb)(ca:Nat->Addr)(c:Nat)(x:Str):Prop where
 at':mg x=some (.ref (ca c))
 ex:excIn K (ca c) sI "ValueError.__new__"=true
theorem LC(h:RaH X.K X.mg ca c x)(hh:X.A.handled=none)(ha:Aq ca X (e::es) mr)(hg:Gl X x:=by rfl)(hdb:(x==("__debug__" : Str))=false:=by decide)(he:starEach (e::es) X.env=(false,eval e X.env)::starEach es X.env:=by rfl)(hpl:(backTo cpos (starEach es X.env)).any (·.1)=false:=by rfl):HH ca X (.Raise (some (.Call (.Name x np) (e::es) [] cpos)) none pos) (Ko c mr):=by
 intro pn Φ pins s σ H En I ⟨σ3,g,μ,R,p⟩;obtain⟨bm,N,nm,q,bs,hdct,sn,sub,ab,col,dd,k0,k1,k2,k3,k5,mN,hC,hN,hni,T⟩:=(fR (h:=X.base) I.ok.mod.kin h.at' h.ex).obj;refine wpAny_Raise_call_subT (C:=ca c) (nm:=nm) (q:=q) (N:=N) (bs:=bs) (bm:=bm) (hdct:=hdct) (sn:=sn) (sub:=sub) (ab:=ab) (col:=col) (dd:=dd) (k0:=k0) (k1:=k1) (k2:=k2) (k3:=k3) (k5:=k5)
  WW (mN:=mN) (T.hasType WW.hasBase) hh ?_ hni (Tm I hg h.at' ⟨rfl,?_⟩ hdb)
 ·show(backTo cpos (starEach (e::es) X.env)).any (·.1)=false;rw[he];show(false||(backTo cpos (starEach es X.env)).any (·.1))=false;rw[hpl];rfl
 ·have z:DP X.K ca Φ mr σ H λvs H1=>vs.length<=sizeLine/\Φ (c,none) σ H1:=by
   refine⟨σ3,g,μ,R,?_⟩;unfold Ko at p;cases hm:mr σ3 g with
   |raise _ _=>rw[hm]at p;exact RaP.stmt R p|stuck=>rw[hm]at p;exact p|ok ds g1=>
    rw[hm]at p;dsimp only at p;intro vs H1 μ1 e1 r1 q1;by_cases hz:ds.length<=SZ
    ·rw[Ud hz]at p;exact⟨q1.sz hz,p σ H1 μ1 e1 (R.go e1 r1)⟩
    ·rw[Uf hz]at p;exact p.elim
  have az:=ha pn Φ cpos pins s σ H _ I z;have he':starEach (e::es) (QI X ca pn Φ).env=(false,eval e X.env)::starEach es X.env:=he;show wpAny _ _ (evalArgs (.ref (ca c)) true (backTo cpos (starEach (e::es) X.env)) []) _ _ s;rw[he']at az;rw[he];refine Wz (TC az (λus s2 ⟨vs,H1,I1,r1,hz,hΦ⟩=>⟨rfl,by rw[<-r1.length];exact hz,I1.bk _ _ hC,hN.keeps I1.bk,T.keeps I1.bk,λh' ea hm=>?_⟩) λ_ _ y=>y);have I2:Inv (FW X pn) [] σ H1 s2:=(DU I1).pins_of λp hp=>absurd hp (by simp);have I3:Inv (FW X pn) [] σ H1 {s2 with heap:=h'}:=I2.kept (t':=s2.toks) hm.keeps;have hn:H1 ea=none:=by
   cases hq:H1 ea with
   |none=>rfl|some o =>obtain⟨o',ho'⟩:=Inv.there' I2 hq;rw[hm.new]at ho';cases ho'
  obtain⟨t,ht,_⟩:=hm.there;exact⟨ea,(c,none),σ,H1,rfl,I3,⟨Lu I2 hm.new hn,rfl,_,_,ht,⟨rfl,rfl⟩,rfl,by simp,.inl rfl⟩,hΦ⟩
structure CatX(K:Frag)(ca:Nat->Addr)(C:Addr)(cs no:List Nat):Prop where
 ci:(clsIn K C).isSome=true
 ty:typeIn K (.ref C)=some (.type "type")
 sb:subIn K (.ref C) (.type "BaseException")=some true
 yes:∀c∈cs,subIn K (.ref (ca c)) (.ref C)=some true
 no':∀c∈no,subIn K (.ref (ca c)) (.ref C)=some false
section
variable{prog:Program}{w:World}{A:Around}{E:VP}{s:Shared}{K:Frag}{ca:Nat->Addr}{C D e:Addr}{oe:Obj}{cs no:List Nat}{b:Bool}
theorem AA(X:K.In s.heap)(F:CatX K ca C cs no)(hx:s.heap.get? e=some oe)(hc:oe.cls=.ref D)(hs:subIn K (.ref D) (.ref C)=some b)(h:Q b s):wpAny (model prog w) A (excMatches (.ref e) (.ref C)) Q E s:=by
 obtain⟨hh,g,d,t,os⟩:=s;have L0:=looks_typeIn (M:=model prog w) X F.ty;have L1:=WN (M:=model prog w) X F.sb;have L2:=WN (M:=model prog w) X hs;have L3:Looks (model prog w) hh (isType (.ref C)) true:=by
  obtain⟨cd,hc⟩:=TU.mp F.ci;unfold clsIn at hc;split at hc
  ·rename_i c' d' cd' sl' ho;intro A' Q' E' s' k q;unfold isType loadHead;exact Ua (BO (k _ _ (X _ _ ho)) (Ub q))
  ·cases hc
 have f:=tc_notTuple;unfold excMatches isInstance;refine Ua (Ua (L0.at (TD f ?_)));simp only[UD,Ti];refine Ua (Ub ?_);simp only[RQ,Wd];unfold isExcClass;refine Ua (Ua (Ua (Ua (L3.at ?_))));rw[Ud rfl];refine L1.at ?_;simp only[TY,UD,Ti];refine Ub (Ub ?_);have L4:Looks (model prog w) hh (typeOf (.ref e)) (.ref D):=hc ▸ (Looks.ld hx).andThen .now;refine Ua (L4.at (Ua (Ua (Ua (L2.at ?_)))));cases b with
 |true=>rw[Ud rfl];exact Ub (Ub (Ub h))|false=>rw[Uf Ue];exact Ub (Ub (Ub h))
end
abbrev qM(X:Cx)(v:Value):Cx:={X with A:=X.A.mark (some v),calm:=false}
theorem aC(v:Value)(I:Inv X pins σ H s):Inv (qM X v) pins σ H s:=⟨⟨I.ok.mod,I.ok.kind,I.ok.glob,I.ok.blt,I.ok.above,I.ok.inj,I.ok.has,I.ok.cab,(λz=>by cases z),I.ok.frames,I.ok.stk,I.ok.exf,I.ok.bs,I.ok.bsz,I.ok.noex,I.ok.exfs,I.ok.funs,I.ok.frf⟩,I.os,I.bare,I.base,I.loc,I.cell,I.free,I.freeC,I.pin,I.hok,I.len⟩
theorem M7(h:X.calm=true->X.A.handled=none)(I:Inv (qM X v) pins σ H s):Inv X pins σ H s:=⟨⟨I.ok.mod,I.ok.kind,I.ok.glob,I.ok.blt,I.ok.above,I.ok.inj,I.ok.has,I.ok.cab,h,I.ok.frames,I.ok.stk,I.ok.exf,I.ok.bs,I.ok.bsz,I.ok.noex,I.ok.exfs,I.ok.funs,I.ok.frf⟩,I.os,I.bare,I.base,I.loc,I.cell,I.free,I.freeC,I.pin,I.hok,I.len⟩
theorem OQ(I:Inv X pins σ H s)(ha:Ap X pins H a)(new:ObjOk X.prog X.w (Zi H a o) s.heap a o):Inv X pins σ (Zi H a o) s:=by
 have ne:∀b u,H b=some u->b≠a:=λb u e=>Q8 e ha.1;refine ID (h':=s.heap) (H':=Zi H a o) (g':=s.gens) (t':=s.toks) (d':=s.drawn) (ch:=[a]) I (λb hb=>?_) (λb o _ _ _ e _=>e) (λb o _ _ _ e _=>⟨o.slots,e⟩) (λb o hb e n=>?_) (λb o _ e=>⟨o,e⟩)
  (λb xs e=>by rw[Qz (ne b _ e)];exact e) (λb o u e=>by rw[Qz (ne b _ e)];exact e) (λb ps e=>⟨#[],by rw[Qz (ne b _ e),e];simp⟩) (λ_ h=>h) (λb u e=>?_) I.bare
 ·rw[Ur.mp hb];exact⟨ha.2.2.2.1,ha.2.1,ha.2.2.2.2.1,ha.2.2.2.2.2⟩
 ·rw[Qz (λz=>hb (by simp[z]))];exact n
 ·by_cases hb:b=a
  ·subst hb;rw[Qy]at e;cases e;exact new
  ·rw[Qz hb]at e;exact(I.hok b u e).stay (λ_ _ _ q=>q) (λc q=>by rw[Qz (ne c _ q)];exact q) λc xs q=>by rw[Qz (ne c _ q)];exact q
theorem Sh{M:Model}{A:Around}{E:VP}{i:Nat}{n:Str}{pos:Pos}{Q:Unit->Shared->Prop}(I:Inv X pins σ H s)(hN:X.N.Nodup)(hi:X.N[i]?=some n)(hl:X.env.kindOf n=some .local)(h:∀s',Inv X pins (σ.set i none) H s'->Q () s'):wpAny M A (do bindName X.env n .none;unbindBehindTheSuite X.env n pos) Q E s:=by
 obtain⟨m,hn,hlk⟩:=id I.loc;have hcls:(X.env.scope.kind==.class||(X.env.scope.kind==.module&&X.env.locals != X.env.globals))=false:=by rw[I.ok.kind];rfl
 refine wpAny_nameGoes_keeps hl hn hcls λh' v hn' hs=>h _ ?_;have old:∀b o,b≠X.env.locals->s.heap.get? b=some o->h'.get? b=some o:=λb o hb e=>(hs.2 b hb).trans e;have neL:∀b o,X.s₀.heap.get? b=some o->b≠X.env.locals:=λb o e=>UH (Uu (Ul e) I.ok.above);obtain⟨oL,_,_,hoL,_⟩:=id hn;refine⟨I.ok,I.os,I.bare,⟨λb o e n hb hx=>old b o (neL b o e) (I.base.keep b o e n hb hx),λb o e n hb hx=>?_,I.base.free,λb o e hx=>?_,I.base.tups,I.base.frzs,I.base.tbls⟩,⟨_,hn',λj y u e1 e2 e3=>?_⟩,λy c e=>?_,I.free,I.freeC,λp hp=>?_,λb o e=>?_,by simpa using I.len⟩
 ·obtain⟨sl,z⟩:=I.base.slot b o e n hb hx;exact⟨sl,old b _ (neL b o e) z⟩
 ·obtain⟨o',z⟩:=I.base.there b o e hx;exact⟨o',old b _ (neL b o e) z⟩
 ·have hj:j≠i:=λz=>by
   subst z;rw[List.getElem?_set]at e2;split at e2
   ·split at e2<;>simp at e2
   ·rename_i q;exact q rfl
  rw[Ui (Ne.symm hj)]at e2;obtain⟨u',r',q⟩:=hlk j y u e1 e2 e3;refine⟨u',r',?_⟩;rcases q with⟨k,e⟩|⟨k,c,e,z⟩
  ·refine .inl ⟨k,?_⟩;have:y≠n:=λe=>hj (Gq hN e1 (e ▸ hi));simp[this,e]
  ·exact .inr ⟨k,c,e,z.sameBut hs (I.cne y c e)⟩
 ·obtain⟨w',z⟩:=I.cell y c e;exact⟨w',z.sameBut hs (I.cne y c e)⟩
 ·obtain⟨e,n,ne,nf,d⟩:=I.pin p hp;exact⟨old p.1 _ ne e,n,ne,nf,d⟩
 ·refine(I.hok b o e).stay (λc w' hc q=>old c _ ?_ q) (λ_ q=>q) λ_ _ q=>q;rintro rfl;rcases hc with z|z
  ·rw[<-z,I.free]at e;cases e
  ·rw[I.free]at z;cases z
section
variable{X:Cx}{ca:Nat->Addr}{body suite:List Stmt}{b0:Stmt}{mb mc:MS}{np hpos pos:Pos}{C:Addr}{cs no:List Nat}{T n:Str}
theorem mF{Y:Cx}{pn pins:YD}{E E':VP}{σ:L2.St}{H:Hp}{s:Shared}(I:Inv {Y with pn:=pn,xe:=E} pins σ H s):Inv {Y with pn:=pn++pins,xe:=E'} [] σ H s:=⟨⟨I.ok.mod,I.ok.kind,I.ok.glob,I.ok.blt,I.ok.above,I.ok.inj,I.ok.has,I.ok.cab,I.ok.hd,I.ok.frames,I.ok.stk,I.ok.exf,I.ok.bs,I.ok.bsz,I.ok.noex,I.ok.exfs,I.ok.funs,I.ok.frf⟩,I.os,I.bare,I.base,I.loc,I.cell,I.free,I.freeC,λp hp=>I.pin p (by rw[UY]at hp;exact hp),I.hok,I.len⟩
theorem Cu{Y:Cx}{pn pins:YD}{E E':VP}{σ:L2.St}{H:Hp}{s:Shared}(I:Inv {Y with pn:=pn++pins,xe:=E} [] σ H s):Inv {Y with pn:=pn,xe:=E'} pins σ H s:=⟨⟨I.ok.mod,I.ok.kind,I.ok.glob,I.ok.blt,I.ok.above,I.ok.inj,I.ok.has,I.ok.cab,I.ok.hd,I.ok.frames,I.ok.stk,I.ok.exf,I.ok.bs,I.ok.bsz,I.ok.noex,I.ok.exfs,I.ok.funs,I.ok.frf⟩,I.os,I.bare,I.base,I.loc,I.cell,I.free,I.freeC,λp hp=>I.pin p (by rw[UY];exact hp),I.hok,I.len⟩
theorem Si{pn:YD}{σ:L2.St}{H:Hp}{s:Shared}{a:Addr}{x:Xc}{oe:Obj}{R:Result->Shared->Prop}{b:Bool}(I:Inv (FW X pn) [] σ H s)(hT:X.mg T=some (.ref C))(F:CatX X.K ca C cs no)(he:s.heap.get? a=some oe)(ho:XOb ca x oe)(hs:subIn X.K (.ref (ca x.1)) (.ref C)=some b)(hg:Gl X T)(hdb:(T==("__debug__" : Str))=false)(h:R (.ok (if b then .brk else .next)) s):
  codeAny (model X.prog X.w) (X.A.mark (some (.ref a))) (.handlers (.ref a) [.ExceptHandler (some (.Name T np)) none [] hpos] X.env) R s:=codeAny_handlers_test (Tm (X:=qM (FW X pn) (.ref a)) (aC _ I) hg hT (AA I.kIn F he ho.1 hs h) hdb)
theorem fS{pn pins:YD}{Φ:XS}{σ:L2.St}{H:Hp}{s:Shared}{a:Addr}{x:Xc}{Q:Flow->Shared->Prop}(hf:X.env.frame=some X.env.locals)(I:Inv (FW X (pn++pins)) [] σ H s)(fl:sB (FW X (pn++pins)) ca a x H s.heap)(h:Φ x σ H):
  wpAny (model X.prog X.w) X.A (handleBy (.ref a) X.env []) Q (QI X ca pn Φ).xe s:=by
 refine wpAny_handleBy_nil ?_;unfold PySem.passOn;obtain⟨fp,ln,oe,vs,T,oT,ts,he,hc,hd,hv,hTa,fT,hT,hdT,hs3⟩:=id fl;refine Ua (UP he hd hv ?_);rw[Uf (show ¬((Value.ref T==Value.none)=true) from by simp)];refine Ua (Vq (fo:=X.env.frame) I fl λh2 T oT ts oe vs I2 a1 a2 a3 a4 a5 a6 a7 a8 a9 a10=>BS ?_);rw[hf]at a10;have dn:∀{b:Addr},Ap (FW X (pn++pins)) [] H b->Ap (FW X pn) [] H b:=λz=>⟨z.1,z.2.1,z.2.2.1,z.2.2.2.1,z.2.2.2.2.1,λp hp=>z.2.2.2.2.2 p (by rw[UY]at hp ⊢;exact Rl _ hp)⟩;exact⟨a,x,σ,H,rfl,(Cu (Y:=X) I2).pins_of λp hp=>absurd hp (by simp),FlN.fl ⟨dn fp,ln,oe,vs,T,oT,ts,a1,a2,a3,a4,a5,dn a6,a7,a8,a10⟩,h⟩
theorem aD{hs:List MH}{h0:ExceptHandler}{hr:List ExceptHandler}(hb:Cq ca X body mb)(hk:X.stack=X.env::X.outer)(hf:X.env.frame=some X.env.locals)(hh:∀(pn pins:YD) (Φ:XS) (En:Ends) (σ:L2.St) (H:Hp) (s:Shared) (a:Addr) (x:Xc) (σ3:S3) (g:G) (μ:List Addr),(X.calm=true->X.A.handled=none)->Inv (FW X (pn++pins)) [] σ H s->sB (FW X (pn++pins)) ca a x H s.heap->Rep X.K ca μ σ3 g σ H->PostS X.K ca Φ En H μ (DM hs x σ3 g)->wpAny (model X.prog X.w) X.A (handleBy (.ref a) X.env (h0::hr)) (SP (QI X ca pn Φ) pins En) (QI X ca pn Φ).xe s):HH ca X (.Try body (h0::hr) [] [] pos) (DN mb hs):=by
 intro pn Φ pins s σ H En I ⟨σ3,g,μ,R,p⟩;refine wpAny_Try_except ?_;have p1:PostS X.K ca (λx σ' H'=>∃σ4 g4 μ4,Rep X.K ca μ4 σ4 g4 σ' H'/\PostS X.K ca Φ En H' μ4 (DM hs x σ4 g4)) En H μ (mb σ3 g):=by
  unfold DN at p;cases hm:mb σ3 g with
  |nx _ _=>rw[hm]at p;exact p|rt _ _=>rw[hm]at p;exact p|bk _ _=>rw[hm]at p;exact p|ct _ _=>rw[hm]at p;exact p|raise x σ' g'=>rw[hm]at p;exact λσ4 H' μ' e R'=>⟨σ',g',μ',R',PostS.go e p⟩
  |stuck=>rw[hm]at p;exact p
 refine TC (hb (pn++pins) _ [] s σ H En (mF (Y:=X) I) ⟨σ3,g,μ,R,p1⟩) (λf s1 h1=>?_) λv s1 h1=>?_
 ·cases f with
  |next=>obtain⟨σ',H',J,q⟩:=h1;exact PR (X:=QI X ca pn Φ) pins s1 σ' H' En (Cu (Y:=X) J) q|brk=>obtain⟨σ',H',J,q⟩:=h1;exact⟨σ',H',Cu (Y:=X) J,q⟩|cont=>obtain⟨σ',H',J,q⟩:=h1;exact⟨σ',H',Cu (Y:=X) J,q⟩|ret u=>obtain⟨v,σ',H',J,r,q⟩:=h1;exact⟨v,σ',H',Cu (Y:=X) J,r,q⟩
 ·obtain⟨a,x,σ',H',rfl,I1,fl,σ4,g4,μ4,R4,p4⟩:=h1;refine Lv (X:=FW X (pn++pins)) I1 hk hf fl λh2 I2 f2=>?_;refine Vq (X:=FW X (pn++pins)) (fo:=none) I2 f2.t λh3 T oT ts oe vs I3 a1 a2 a3 a4 a5 a6 a7 a8 a9 a10=>?_;exact hh pn pins Φ En σ' H' _ a x σ4 g4 μ4 I.ok.hd I3 ⟨f2.1,f2.2.1,oe,vs,T,oT,ts,a1,a2,a3,a4,a5,a6,a7,a8,a9⟩ R4 p4
theorem fU(i:Nat)(hN:X.N.Nodup)(hT:X.mg T=some (.ref C)/\CatX X.K ca C cs no)(hb:Cq ca X body mb)(hc:∀a,Cq ca (qM X (.ref a)) (b0::suite) mc)(hi:X.N[i]?=some n:=by rfl)(hl:X.env.kindOf n=some .local:=by rfl)(hg:Gl X T:=by rfl)(hdb:(T==("__debug__" : Str))=false:=by decide)(hk:X.stack=X.env::X.outer:=by rfl)(hf:X.env.frame=some X.env.locals:=by rfl):
  HH ca X (.Try body [.ExceptHandler (some (.Name T np)) (some n) (b0::suite) hpos] [] [] pos) (DN mb [⟨cs,no,some i,mc⟩]):=by
 refine aD hb hk hf λpn pins Φ En σ H s a x σ3 g μ hcalm I fl R p=>?_;obtain⟨fp,ln,oe,vs,Tb,oT,ts,he,hox,hd,hv,hTa,fT,hTT,hdT,hs3⟩:=id fl;unfold DM at p;by_cases hx:x.1∈cs
 ·rw[Ud hx]at p;dsimp only at p;refine wpAny_handleBy_cons (Si I hT.1 hT.2 he hox (hT.2.yes _ hx) hg hdb ?_) (by intro q;cases q);refine codeAny_handlers_suite_as ?_;refine Vq (fo:=none) I fl λh2 T2 oT2 ts2 oe2 vs2 I2 b1 b2 b3 b4 b5 b6 b7 b8 b9 b10=>?_;have I3:Inv (FW X (pn++pins)) [] σ (Zi H a (XO ca a x)) {s with heap:=h2}:=OQ I2 fp ⟨⟨oe2,vs2,b1,b2,b3⟩,⟨oe2,b1⟩,λh3 h4 ⟨o,ws,c1,c2,c3⟩ k=>⟨o,ws,k o c1,c2,c3⟩⟩;have ex:Ext X.K μ H (μ++[a]) (Zi H a (XO ca a x)):=ZC fp.1;have G3:GRep X.K ca (μ++[a]) (Zi H a (XO ca a x)) (g++[.exc x]):=R.g.push fp.1 Qy;have ea:(μ++[a])[g.length]?=some a:=by rw[<-R.g.len];simp
  refine Kl (X:=qM (FW X (pn++pins)) (.ref a)) (aC _ I3) hN hi (.inl hl) (v:=.ref a) rfl (λs4 I4=>?_) (.inr hl);have R4:Rep X.K ca (μ++[a]) (σ3.set i (some (.ref g.length))) (g++[.exc x]) (σ.set i (some (.ref a))) (Zi H a (XO ca a x)):=(R.go ex G3).set (.ref ea) i;have hcc:=hc a (pn++pins) F0 [] s4 (σ.set i (some (.ref a))) (Zi H a (XO ca a x)) {nx:=λσ' H'=>En.nx (σ'.set i none) H',rt:=En.rt} (Inv.wish I4 _) ⟨_,_,_,R4,by
   cases hm:mc (σ3.set i (some (.ref g.length))) (g++[.exc x]) with
   |nx σ5 g5=>
    rw[hm]at p;intro σ' H' μ' e' R';refine p (σ'.set i none) H' μ' (ex.trans e') ⟨R'.g,by rw[UZ,UZ,R'.len],λj d hj=>?_⟩;have hji:j≠i:=λz=>by
     subst z;rw[List.getElem?_set]at hj;split at hj
     ·split at hj<;>simp at hj
     ·rename_i q;exact q rfl
    rw[Ui (Ne.symm hji)]at hj ⊢;exact R'.st j d hj
   |rt d g5=>rw[hm]at p;exact λv H' μ' e'=>p v H' μ' (ex.trans e')
   |bk _ _=>rw[hm]at p;exact p.elim|ct _ _=>rw[hm]at p;exact p.elim|raise _ _ _=>rw[hm]at p;exact p.elim|stuck=>rw[hm]at p;exact p.elim⟩
  refine TC (oP hcc) (λf s5 h5=>?_) λ_ _ z=>z.elim;cases f with
  |next =>obtain⟨σ',H',J,q⟩:=h5;have J':Inv (FW X (pn++pins)) [] σ' H' s5:=M7 (v:=.ref a) hcalm (Inv.wish J _);exact Sh (X:=FW X (pn++pins)) J' hN hi hl λs6 J6=>⟨_,H',Cu (Y:=X) J6,q⟩
  |ret u =>obtain⟨v,σ',H',J,r,q⟩:=h5;have J':Inv (FW X (pn++pins)) [] σ' H' s5:=M7 (v:=.ref a) hcalm (Inv.wish J _);exact Sh (X:=FW X (pn++pins)) J' hN hi hl λs6 J6=>⟨v,_,H',Cu (Y:=X) J6,r,q⟩
  |brk=>obtain⟨_,_,_,q⟩:=h5;exact q.elim|cont=>obtain⟨_,_,_,q⟩:=h5;exact q.elim
 ·rw[Uf hx]at p;by_cases hn:x.1∈no
  ·rw[Ud hn]at p;refine wpAny_handleBy_cons (Si I hT.1 hT.2 he hox (hT.2.no' _ hn) hg hdb ?_) (by intro q;cases q);exact fS hf I fl (p σ H μ .refl R)
  ·rw[Uf hn]at p;exact p.elim
end
def qN(sc scope:Scope)(N Nb:List Str)(no:Nat)(cap:List Nat):Bool:=decide (scope.kind=.function)&&scope.names.all (λy=>decide (y.2≠.cell))&&scope.names.all (λy=>decide (y.2≠.local)||decide (scope.names.lookup y.1=some .local)) &&
 scope.names.all (λy=>decide (y.2≠.free)||decide (sc.names.lookup y.1=some .cell)||decide (sc.names.lookup y.1=some .free))&&decide (Nb.length=no+cap.length) &&
 (List.range cap.length).all λj=>match cap[j]?,Nb[no+j]? with
  |some i,some x=>decide (N[i]?=some x)&&decide (scope.names.lookup x=some .free)&&(decide (sc.names.lookup x=some .cell)||decide (sc.names.lookup x=some .free))|_,_=>false
theorem ZT(hsc:X.env.scope=sc)(hN:X.N=N)(h:qN sc scope N Nb no cap=true):BScope X scope Nb no cap:=by
 subst hsc hN;unfold qN at h;simp only[UK,TF]at h;obtain⟨⟨⟨⟨⟨h1,h2⟩,h3⟩,h4⟩,h5⟩,h6⟩:=h;rw[U3]at h2 h3 h4 h6;refine⟨h1,λy hy=>UC (h2 y hy),λy hy e=>?_,λy hy e=>?_,h5,λj i hj=>?_⟩
 ·rcases WO.mp (h3 y hy) with z|z
  ·exact absurd e (UC z)
  ·exact UC z
 ·rcases WO.mp (h4 y hy) with z|z
  ·rcases WO.mp z with z|z
   ·exact absurd e (UC z)
   ·exact .inl (UC z)
  ·exact .inr (UC z)
 ·have hl:j<cap.length:=(Uq.mp hj).1;have z:=h6 j (Rw.mpr hl);rw[hj]at z;cases hx:Nb[no+j]? with
  |none=>rw[hx]at z;cases z|some x=>
   rw[hx]at z;simp only[UK,WK,TF]at z;obtain⟨⟨z1,z2⟩,z3⟩:=z;refine⟨x,rfl,z1,z2,.inr z3,λq=>?_⟩;have q:X.env.scope.names.lookup x=some .local:=q;rcases z3 with z|z
   ·rw[z]at q;cases q
   ·rw[z]at q;cases q
def mG(K:Frag)(C:Addr):Bool:=(findIn K (.ref C) "__getattribute__"==some (some (.builtin "BaseException.__getattribute__")))&&(findIn K (.ref C) "__getattr__"==some none)&&(findIn K (.ref C) "__class__"==some (some (.builtin "object.__class__"))) &&
 (specialIn K (.builtin "object.__class__") "__get__"==some (some (.builtin "getset_descriptor.__get__")))&&(takesIn K (.builtin "object.__class__")==some true)&&(mroIn K C (.type "object")==some true) &&
 (subIn K (.ref C) (.type "BaseException")==some true)&&(clsIn K C).isSome
theorem mH{K:Frag}{C:Addr}(h:mG K C=true):ExK K C:=by unfold mG at h;simp only[UK,Tn]at h;obtain⟨⟨⟨⟨⟨⟨⟨h1,h2⟩,h3⟩,h4⟩,h5⟩,h6⟩,h7⟩,h8⟩:=h;exact⟨h1,h2,h3,h4,h5,h6,h7,h8⟩
def GI(K:Frag)(ca:Nat->Addr)(T:Value)(all cs:List Nat):Bool:=all.all (λc=>mG K (ca c)&&(kitOne K (.ref (ca c)) T==some (decide (c∈cs))))&&(kitOne K (.type "NoneType") T==some false)
theorem VI{K:Frag}{ca:Nat->Addr}{T:Value}{all cs:List Nat}(h:GI K ca T all cs=true):IsX K ca T all cs:=by unfold GI at h;rw[UK,U3]at h;exact⟨λc hc=>mH (RH.mp (h.1 c hc)).1,λc hc=>Tn.mp (RH.mp (h.1 c hc)).2,Tn.mp h.2⟩
def mJ(K:Frag)(ca:Nat->Addr)(C:Addr)(cs no:List Nat):Bool:=(clsIn K C).isSome&&(typeIn K (.ref C)==some (.type "type"))&&(subIn K (.ref C) (.type "BaseException")==some true) &&
 cs.all (λc=>subIn K (.ref (ca c)) (.ref C)==some true)&&no.all λc=>subIn K (.ref (ca c)) (.ref C)==some false
theorem mK{K:Frag}{ca:Nat->Addr}{C:Addr}{cs no:List Nat}(h:mJ K ca C cs no=true):CatX K ca C cs no:=by unfold mJ at h;simp only[UK,Tn,U3]at h;obtain⟨⟨⟨⟨h1,h2⟩,h3⟩,h4⟩,h5⟩:=h;exact⟨h1,h2,h3,h4,h5⟩
def OR(K:Frag)(C:Addr):Bool:=plainGet K C Str.empty&&hasDictIn K C&&plainOver K C&&(findIn K (.ref C) "__setattr__"==some (some (.builtin "object.__setattr__")))
theorem aE{K:Frag}{C:Addr}(h:OR K C=true):Cls K C:=by unfold OR at h;simp only[UK,Tn]at h;obtain⟨⟨⟨h1,h2⟩,h3⟩,h4⟩:=h;exact⟨h1,h2,h3,h4⟩
def Fa(K:Frag)(ca:Nat->Addr)(cs:List Nat)(f:Str):Bool:=cs.all λc=>OR K (ca c)&&(findIn K (.ref (ca c)) f==some none)
theorem XB{K:Frag}{ca:Nat->Addr}{cs:List Nat}{f:Str}(h:Fa K ca cs f=true):FldOk K ca cs f:=by unfold Fa at h;rw[U3]at h;exact⟨λc hc=>aE (RH.mp (h c hc)).1,λc hc=>Tn.mp (RH.mp (h c hc)).2⟩
theorem Zd(h:∃k,X.mg x=some (.str t k))(hg:Gl X x:=by rfl)(hd:(x==("__debug__" : Str))=false:=by decide):QD ca X (.Name x pos) (Qu (.str t)):=by obtain⟨k,h⟩:=h;exact DS h (v:=.str t) ⟨k,rfl⟩ (λ_ _ _=>.str t) hg hd
theorem GJ(h:∃k,X.mg x=some (.int i k))(hg:Gl X x:=by rfl)(hd:(x==("__debug__" : Str))=false:=by decide):QD ca X (.Name x pos) (Qu (.int i)):=by obtain⟨k,h⟩:=h;exact DS h (v:=.int i) ⟨k,rfl⟩ (λ_ _ _=>.int i) hg hd
theorem aF:bootBuiltins "int"=some (.type Ty.int.name):=boot_int
theorem Sj:bootBuiltins "bool"=some (.type Ty.bool.name):=by decide +kernel
theorem aG:bootBuiltins "str"=some (.type Ty.str.name):=by decide +kernel
theorem Ej:bootBuiltins "tuple"=some (.type Ty.tuple.name):=boot_tuple
theorem LD:bootBuiltins "list"=some (.type Ty.list.name):=boot_list
theorem fV:bootBuiltins "dict"=some (.type Ty.dict.name):=by decide +kernel
theorem HL:bootBuiltins "ValueError"=some (.type "ValueError"):=by decide +kernel
section
variable{P:Program}{w:World}{K:Frag}{mg:Vb}{base:Heap}{ca:Nat->Addr}
theorem fW(hn:ps.length=n):FnOk P w K mg base (Ms P w ca) k f fd ps (OK K ca n λ_ _=>.stuck):=by subst hn;exact⟨λvs H Q E q=>q.1,λA outer s H args us vs Q E _ _ _ _ h=>by obtain⟨_,_,_,_,_,_,z⟩:=h;exact z.elim⟩
theorem mL{F:MF}{H:Hp}{a:Addr}{ns:List Int}(hO:eV H)(hS:SqL K H a (ns.map V.int))(h:∃g',F [.fl (ns.map D.int)] []=.ok (.bl true) g'):OK K ca 1 F [.ref a] H (λv _=>v=.bl true) λ_ _ _=>False:=by
 obtain⟨g',h⟩:=h;have hF:SqF K H a (ns.map V.int):=by
  rcases hS with(h|⟨o,h⟩)|h
  ·rcases hO a with z|⟨o,xs,z⟩
   ·rw[h]at z;cases z
   ·rw[h]at z;cases z
  ·exact .inl ⟨o,h⟩
  ·exact .inr (.inr h)
 refine⟨rfl,[.fl (ns.map D.int)],[],[],⟨rfl,.nil,λn a o h=>by simp at h⟩,.cons (.fl hF (Dens.ints ns)) .nil,?_⟩;rw[h];intro v H' μ' e r q;cases q;rfl
end
end L3
namespace L3
open PySem PySem.Spec
theorem uI(h:us.length=0):us=[]:=List.eq_nil_of_length_eq_zero h
theorem len1(h:us.length=1):∃a0,us=[a0]:=by
 cases us with
 |nil=>cases h|cons a r =>have e:=uI (Nat.succ.inj h);subst e;exact⟨a,rfl⟩
theorem len2(h:us.length=2):∃a0 a1,us=[a0,a1]:=by
 cases us with
 |nil=>cases h|cons a r =>obtain⟨b0,rfl⟩:=len1 (Nat.succ.inj h);exact⟨a,b0,rfl⟩
theorem len3(h:us.length=3):∃a0 a1 a2,us=[a0,a1,a2]:=by
 cases us with
 |nil=>cases h|cons a r =>obtain⟨b0,b1,rfl⟩:=len2 (Nat.succ.inj h);exact⟨a,b0,b1,rfl⟩
theorem len4(h:us.length=4):∃a0 a1 a2 a3,us=[a0,a1,a2,a3]:=by
 cases us with
 |nil=>cases h|cons a r =>obtain⟨b0,b1,b2,rfl⟩:=len3 (Nat.succ.inj h);exact⟨a,b0,b1,b2,rfl⟩
theorem uJ(h:us.length=5):∃a0 a1 a2 a3 a4,us=[a0,a1,a2,a3,a4]:=by
 cases us with
 |nil=>cases h|cons a r =>obtain⟨b0,b1,b2,b3,rfl⟩:=len4 (Nat.succ.inj h);exact⟨a,b0,b1,b2,b3,rfl⟩
theorem len6(h:us.length=6):∃a0 a1 a2 a3 a4 a5,us=[a0,a1,a2,a3,a4,a5]:=by
 cases us with
 |nil=>cases h|cons a r =>obtain⟨b0,b1,b2,b3,b4,rfl⟩:=uJ (Nat.succ.inj h);exact⟨a,b0,b1,b2,b3,b4,rfl⟩
theorem len7(h:us.length=7):∃a0 a1 a2 a3 a4 a5 a6,us=[a0,a1,a2,a3,a4,a5,a6]:=by
 cases us with
 |nil=>cases h|cons a r =>obtain⟨b0,b1,b2,b3,b4,b5,rfl⟩:=len6 (Nat.succ.inj h);exact⟨a,b0,b1,b2,b3,b4,b5,rfl⟩
def aH:Expr->Bool
 |.Starred ..=>false|_=>true
theorem AB(h:aH e=true):starEach (e::es) env=(false,eval e env)::starEach es env:=by cases e<;>first|rfl|exact absurd h Ue
theorem Qe(ha:QD ca X e me)(hr:Aq ca X es mr)(hs:aH e=true:=by rfl):Aq ca X (e::es) (Qc me mr):=ZH ha hr (AB hs)
def aI:Expr->Bool
 |.ListComp ..=>false|.SetComp ..=>false|.DictComp ..=>false|_=>true
theorem fX(h:aI e=true):swapsWith e t l env=pure false:=by cases e<;>first|rfl|exact absurd h Ue
theorem QG(i:Nat){x:Str}{pos pos':Pos}{e:Expr}{me:ME}(hN:X.N.Nodup)(he:QD ca X e me)(hi:X.N[i]?=some x:=by rfl)(hx:L2.Loc X.env.scope x:=by first|exact Or.inl rfl|exact Or.inr rfl)(hs:aI e=true:=by rfl)(hf:X.fn x=true\/X.env.scope.names.lookup x=some .local:=by first|exact .inl rfl|exact .inr rfl):
  HH ca X (.Assign [.Name x pos'] e pos) (QK (Qn i) me):=qE i hN he hi hx (fX hs) hf
end L3
namespace PySem
namespace F
theorem IM:Manifest.owners.lookup (String.ofList ['d','e','s','r','e','v','e','r'].reverse)=some Manifest.sig_reversed:=by kernel_rfl
theorem slot_rev_next:Slot "reversed" "__next__" "reversed.__next__" :=.of (owner:="reversed") (n:="__next__") (by rw[Ro,Tv];kernel_rfl) (by decide +kernel) (by decide +kernel) (by decide +kernel)
  (by first|exact .inl (by decide +kernel)|exact .inr (by decide +kernel)) (by rw[We];kernel_rfl)
theorem entry_rev_next:entryFor table "reversed.__next__"=some Builtin.«reversed.__next__»:=entryFor_of_tree (by kernel_rfl)
theorem args_rev_next_1(a:Value):argsOk "reversed.__next__" ⟨[a],[]⟩:=by unfold argsOk;rw[signature?_of (id:="reversed.__next__") (n:=['_','_','t','x','e','n','_','_']) (o:=['d','e','s','r','e','v','e','r']) (by kernel_rfl) IM];kernel_rfl
theorem slot_rev_iter:Slot "reversed" "__iter__" "reversed.__iter__" :=.of (owner:="reversed") (n:="__iter__") (by rw[Ro,Tv];kernel_rfl) (by decide +kernel) (by decide +kernel) (by decide +kernel)
  (by first|exact .inl (by decide +kernel)|exact .inr (by decide +kernel)) (by rw[We];kernel_rfl)
theorem args_rev_iter_1(a:Value):argsOk "reversed.__iter__" ⟨[a],[]⟩:=by unfold argsOk;rw[signature?_of (id:="reversed.__iter__") (n:=['_','_','r','e','t','i','_','_']) (o:=['d','e','s','r','e','v','e','r']) (by kernel_rfl) IM];kernel_rfl
theorem entry_rev_iter:entryFor table "reversed.__iter__"=some Builtin.«dict_keyiterator.__iter__»:=entryFor_alias (id':="dict_keyiterator.__iter__") (by kernel_rfl) (by first|rfl|decide +kernel|(unfold String.splitOn;simp +decide [String.splitOnAux])) (by decide +kernel) (by kernel_rfl)
theorem HM:Slot "reversed" "__init__" "object.__init__" :=.of (owner:="object") (n:="__init__") (by rw[Ro,Tv];kernel_rfl) (by decide +kernel) (by decide +kernel) (by decide +kernel)
  (by first|exact .inl (by decide +kernel)|exact .inr (by decide +kernel)) (by rw[We];kernel_rfl)
theorem called_rev:TypeCalled "reversed" "reversed.__new__" "object.__init__" :=⟨by decide +kernel,by decide +kernel,⟨_,_,mro_reversed⟩,made_reversed,by decide +kernel,sub_reversed_self,HM⟩
theorem no_tuple_reversed:typeLookup (.type "tuple") "__reversed__"=pure none:=by rw[Ro,Tv];kernel_rfl
theorem tuple_getitem:typeLookup (.type "tuple") "__getitem__"=pure (some (.builtin "tuple.__getitem__")):=by rw[Ro,Tv];kernel_rfl
theorem tuple_dict:isSubtype (.type "tuple") (.type "dict")=pure false:=by rw[We];kernel_rfl
end F
end PySem
namespace L3
open PySem PySem.Spec PyProof.Rows PySem.Calls
section
variable{prog:Program}{w:World}{A:Around}{E:VP}{s:Shared}
def OS(l:Addr)(i:Int):Obj:={cls:=.type "reversed",data:=.fields #[.ref l,rawInt i]}
def IsRevT(h:Heap)(a l:Addr)(i:Int):Prop:=∃o,h.get? a=some o/\o.cls=.type "reversed"/\o.data=.fields #[.ref l,rawInt i]
theorem IsRevT.typeIs{a l:Addr}{i:Int}(x:IsRevT s.heap a l i):s.TypeIs (.ref a) "reversed":=let ⟨o,ho,hc,_⟩:=x;⟨o,ho,hc⟩
theorem IsRevT.at(x:IsRevT h a l i)(e:∀o,h.get? a=some o->h'.get? a=some o):IsRevT h' a l i:=let ⟨o,ho,r⟩:=x;⟨o,e _ ho,r⟩
theorem OT(l:Addr)(items:Array Value):MeetsIn prog w (Builtin.«reversed.__new__» ⟨[.type "reversed",.ref l],[]⟩) (λA R s=>IsTup s.heap l items/\(items.size:Int)<2^63/\∀tk,R (.ok (.ret (.ref s.heap.objs.size))) {s with heap:=s.heap.push (OS l ((items.size:Int) - 1)),toks:=tk}):=by
 intro A R s ⟨hl,hz,h⟩;unfold Builtin.«reversed.__new__»;refine Ua (TD (newClass_reversed _) ?_);try dsimp only
 refine Ua (TD (a:=()) (by first|rfl|kernel_rfl) ?_);refine Ua (TD (a:=()) (by first|rfl|kernel_rfl) ?_);try dsimp only
 refine Ua (T4 hl.typeIs F.no_tuple_reversed ?_);try dsimp only
 refine Ua (show wpAny _ _ (isInstance (.ref l) (.type "dict") >>= _) _ _ _ from Ua (TQ hl.typeIs F.tuple_dict ?_));try dsimp only
 rw[Uf Ue];refine Ua (T4 hl.typeIs F.tuple_getitem ?_);try dsimp only
 rw[Ud (by decide)];refine Ub ?_;rw[Uf (by decide)];refine Ua (len_tuple hl hz ?_);refine Ua (TD (a:=some (items.size:Int)) (by rfl) ?_);try dsimp only
 refine Ua (show wpAny _ _ (newObj (.type "reversed") (.fields #[Value.ref l,rawInt ((items.size:Int) - 1)])) _ _ _ from UB ?_ (by size_fits));exact Ub (h _)
theorem B1{l:Addr}{items:Array Value}{Q:VP}(hl:IsTup s.heap l items)(hz:(items.size:Int)<2^63)(h:∀tk,Q (.ref s.heap.objs.size) {s with heap:=s.heap.push (OS l ((items.size:Int) - 1)),toks:=tk}):wpAny (model prog w) A (call (.type "reversed") [.ref l]) Q E s:=callType_newIn F.called_rev (by decide) (F.typeCall_reversed_1 _) (F.newCall_reversed_1 _) (λobj=>F.args_object_init_2 obj _) F.entry_reversed_new (OT l items) ⟨hl,hz,λtk=>⟨⟨_,Uk _ rfl,rfl⟩,h tk⟩⟩
theorem FG{it l:Addr}{i:Int}{Q:VP}(hit:IsRevT s.heap it l i)(h:Q (.ref it) s):wpAny (model prog w) A (pyIter (.ref it)) Q E s:=by refine W8 hit.typeIs F.slot_rev_iter (UE F.slot_rev_iter hit.typeIs F.entry_rev_iter ?_ (F.args_rev_iter_1 _));show wpAny _ _ (ret (.ref it)) _ _ s;exact Ub ⟨_,rfl, "reversed",_,hit.typeIs,F.slot_rev_next.lookup,h⟩
theorem Fb{it l:Addr}{i:Nat}{items:Array Value}{x:Value}{Q:Option Value->Shared->Prop}(hit:IsRevT s.heap it l (i:Int))(hl:IsTup s.heap l items)(hx:items[i]?=some x)(hz:(items.size:Int)<2^63)(hQ:∀h' tk,IsRevT h' it l ((i:Int) - 1)->Heap.SameBut it s.heap h'->Q (some x) {s with heap:=h',toks:=tk}):wpAny (model prog w) A (pyNext (.ref it)) Q E s:=by
 obtain⟨o,ho,hc,hd⟩:=id hit;have hi:i<items.size:=(Tf.mp hx).1;unfold pyNext;refine Ua (Tz (UG (name:=Str.ofString "__next__") hit.typeIs F.slot_rev_next
  (UE F.slot_rev_next hit.typeIs F.entry_rev_next ?_ (F.args_rev_next_1 _))))
 unfold Builtin.«reversed.__next__»;refine Ua (TD (a:=(Value.ref it,[])) rfl ?_);try dsimp only
 refine Ua (UP ho hd (x:=.ref l) rfl ?_);refine Ua (UP ho hd (x:=rawInt (i:Int)) rfl ?_);show wpAny _ _ (if (i:Int)<0 then _ else _) _ _ s;rw[Uf (by omega)];refine Ua (T4 hl.typeIs F.tuple_getitem ?_);try dsimp only
 rw[Uf (by decide)];refine Ua (wpAny_mkInt ?_);refine Ua (Tz (getItem_tuple (k:=(i:Int)) (j:=i) (x:=x) (items:=items) hl (by omega) (by omega) ?_ hx ?_))
 ·unfold seqIndex?;have e0:¬((i:Int)<0):=by omega
  simp only[e0,Ti];simp;exact hi
 try dsimp only
 refine Ua (UP ho hd (x:=rawInt (i:Int)) rfl ?_);try dsimp only
 refine Ua (TH ho hd (by simp) ?_);first
 |refine Ub ⟨x,rfl,Ub (hQ _ _ ?_ (UV ..))⟩
 |refine Ua (Ub (Ub ⟨x,rfl,Ub (hQ _ _ ?_ (UV ..))⟩))
 exact⟨_,Tu _ ho (Rj (Th hd _)),(Wb ..).trans hc,by rw[Th hd];simp⟩
theorem FX{it l:Addr}{Q:Option Value->Shared->Prop}(hh:A.handled=none)(hit:IsRevT s.heap it l (-1))(hQ:∀h' tk,Heap.ExtBut it s.heap h'->Q none {s with heap:=h',toks:=tk}):wpAny (model prog w) A (pyNext (.ref it)) Q E s:=by
 obtain⟨o,ho,hc,hd⟩:=id hit;unfold pyNext;refine Ua (Tz (UG (name:=Str.ofString "__next__") hit.typeIs F.slot_rev_next
  (UE F.slot_rev_next hit.typeIs F.entry_rev_next ?_ (F.args_rev_next_1 _))))
 unfold Builtin.«reversed.__next__»;refine Ua (TD (a:=(Value.ref it,[])) rfl ?_);try dsimp only
 refine Ua (UP ho hd (x:=.ref l) rfl ?_);refine Ua (UP ho hd (x:=rawInt (-1)) rfl ?_);show wpAny _ _ (if (-1:Int)<0 then _ else _) _ _ s;rw[Ud (by decide)];refine Ua (TL ?_);refine Ua (show wpAny _ _ (setField (.ref it) 1 (rawInt (-1)) >>= λ_=>setField (.ref it) 0 .none) _ _ _ from Ua (TH ho hd (by simp) ?_));have hd1:=Th hd (·.setIfInBounds 1 (rawInt (-1)));have ho1:=Tu _ ho (Rj hd1);have sb1:Heap.SameBut it s.heap (s.heap.update it (Obj.mapFields (·.setIfInBounds 1 (rawInt (-1))))):=UV ..;generalize s.heap.update it (Obj.mapFields (·.setIfInBounds 1 (rawInt (-1))))=h1 at ho1 sb1 ⊢;refine TH (s:={s with heap:=h1}) ho1 hd1 (by simp) ?_;have sb2:Heap.SameBut it h1 (h1.update it (Obj.mapFields (·.setIfInBounds 0 Value.none))):=UV ..;generalize h1.update it (Obj.mapFields (·.setIfInBounds 0 Value.none))=h2 at sb2 ⊢;first
 |show wpAny _ _ (newExc (.type "StopIteration") [] >>= _) _ _ _
 | (refine Ua ?_;show wpAny _ _ (newExc (.type "StopIteration") [] >>= _) _ _ _)
 refine Ua ?_;simp only[newExc,newTuple];refine Ua (UB ?_ (by size_fits));refine Ua (m:=firstArgMember _ _) (TD (a:=Value.none) (by first|rfl|(simp only[firstArgMember];rfl)) ?_);refine UB ?_ (by size_fits);simp only[raiseNew];refine Ua (wpAny_handled ?_);first|rw[show A.in1.handled=none from hh]|rw[hh]
 refine Ua (Ub (BS ?_));refine Ua (TQ (T:="StopIteration") (b:=true) ⟨_,Uk _ rfl,rfl⟩ BP ?_);exact Ub (hQ _ _ λb o hb e=>(((Heap.ExtBut.refl _ _).push _).push _) b o hb (sb2.extBut b o hb (sb1.extBut b o hb e)))
end
end L3
namespace L3
open PySem PySem.Spec PyProof.Rows L2
def aJ(d:D)(g:G):Res Src:=match QN g d with
 |some (false,ds)=>.ok ⟨λg i=>if i=ds.length then some none else if i<ds.length then (match QN g d with
  |some (_,es)=>if es.length=ds.length then some es[ds.length-1-i]? else none
  |none=>none) else none,ds.length⟩ g
 |_=>.stuck
def OU(a:ME):MI:=λσ g=>(a σ g).bind aJ
def uK(b:Bool)(K:Frag)(a:Addr)(n:Nat):It:=⟨λi H=>∃xs x,Sq b K H a xs/\xs.length=n/\i<n/\xs[n-1-i]?=some x,λi H x H'=>H'=H/\∀xs,Sq b K H a xs->xs[n-1-i]?=some x,λi _=>i=n⟩
theorem AC{P:Program}{w:World}{K:Frag}{tg:Expr}(a it:Addr)(n:Nat):Turn P w K tg (uK false K a n) [it] it (λi h=>IsRevT h it a ((n:Int) - 1 - (i:Int))) where
 mem:=by simp
 obj:=λi h st b hb=>by
  have e:b=it:=by simpa using hb
  subst e;obtain⟨o,e,c,d⟩:=st;exact⟨o,e,λv z=>by rw[d]at z;cases z⟩
 keep:=λi h h' st k=>st.at λo e=>k it (by simp) o e
 item:=by
  intro X hP hw hK hc i pins s σ H E I hf st hg;subst hP hw hK;obtain⟨xs,x,hq,hn,hi,hx⟩:=hg;obtain⟨its,rv,p,hz⟩:=I.tuple (show SqT X.K H a xs from hq);obtain⟨u,hu,ru⟩:=rv.get hx;have hl:=rv.length;have h63:=Km;obtain⟨f0,f1,f2,f3,f4,f5⟩:=hf it (by simp);have e:(n:Int) - 1 - (i:Int)=((n-1-i:Nat):Int):=by omega
  rw[e]at st;refine Fb st p (x:=u) (by simpa using hu) (by simp only[Us]<;>omega) λh' tk st' sb=>?_;have I1:Inv X pins σ H {s with heap:=h',toks:=tk}:=I.turned (t':=tk) (λb o hb e=>(sb.2 b hb).trans e) f0 f1 f3 f4 f5;obtain⟨o,eo,c,d⟩:=id st';have e2:((n-1-i:Nat):Int) - 1=(n:Int) - 1 - ((i+1:Nat):Int):=by omega
  rw[e2]at st';exact⟨u,rfl,Gs (s:={s with heap:=h',toks:=tk}) eo c d (by decide) ⟨x,H,I1,ru,⟨rfl,λys hy=>by rw[I.tuple_inj hy hq];exact hx⟩,st',λb hb=>(hf b hb).1⟩⟩
 done:=by
  intro X hP hw hK hc i pins s σ H E I hf st hg;subst hP hw hK;have hg:i=n:=hg;subst hg;have e:(i:Int) - 1 - (i:Int) = -1:=by omega
  rw[e]at st;obtain⟨f0,f1,f2,f3,f4,f5⟩:=hf it (by simp);exact FX (I.ok.hd hc) st λh' tk eb=>⟨rfl,I.turned (t':=tk) (λb o hb e=>eb b o hb e) f0 f1 f3 f4 f5⟩
 self:=λ_ _ _ _ _ st h=>FG st h
theorem mM{ta:TA}(hg:Gl X "reversed")(hm:X.mg "reversed"=none)(ha:PA X [e] ta)(hs:starEach [e] X.env=[(false,eval e X.env)]):
  PI X tg (.Call (.Name "reversed" p) [e] [] pos) (λσ H R=>ta σ H λvs H1=>∃a xs,vs=[.ref a]/\SqT X.K H1 a xs/\R (uK false X.K a xs.length) H1):=by
 intro pins s σ H R I h;refine Call_ (Xv I hg hm boot_reversed (UR (ZD (ha pos pins s σ H _ I h) λus s1 ⟨vs,H1,I1,r1,q1⟩=>?_) hs rfl));obtain⟨a,xs,rfl,hq,q⟩:=q1;cases r1 with
 |cons r rr=>
  cases rr;cases r;have h63:=Km;have fp:∀c∈[s1.heap.objs.size],FpOk X pins H1 c:=λc hc=>by
   have e:c=s1.heap.objs.size:=by simpa using hc
   subst e;exact I1.fpOk (Ug _) (I1.hok.fresh (Ug _))
  obtain⟨its,rv,pl,hz⟩:=I1.tuple hq;have hl:=rv.length;refine B1 pl (by simp only[Us]<;>omega) λtk=>?_;have ho:({s1 with heap:=s1.heap.push (OS a ((its.toArray.size:Int) - 1)),toks:=tk}:Shared).heap.get? s1.heap.objs.size=some (OS a ((its.toArray.size:Int) - 1)):=Uk _ rfl;have st:IsRevT (s1.heap.push (OS a ((its.toArray.size:Int) - 1))) s1.heap.objs.size a ((xs.length:Int) - 1 - ((0:Nat):Int)):=⟨_,Uk _ rfl,rfl,by simp[OS,hl]⟩;refine FG (s:={s1 with heap:=s1.heap.push (OS a ((its.toArray.size:Int) - 1)),toks:=tk}) st ?_;exact⟨s1.heap.objs.size,[s1.heap.objs.size],_,_,H1,rfl,I1.kept (t':=tk) λb o e=>Uc _ e,AC a _ xs.length,st,fp,q⟩
theorem fY{K:Frag}{μ:List Addr}{H:Hp}{g:G}{a:Addr}{d:D}{b:Bool}{ds:List D}{n:Nat}(q:Den K μ H (.ref a) d)(h:QN g d=some (b,ds))(hn:n=ds.length):
  As K ca μ H ⟨λg i=>if i=ds.length then some none else if i<ds.length then (match QN g d with
  |some (_,es)=>if es.length=ds.length then some es[ds.length-1-i]? else none
  |none=>none) else none,ds.length⟩ (uK b K a n):=by
 subst hn;intro i H1 μ1 g1 ex r;dsimp only;by_cases h1:i=ds.length
 ·rw[Ud h1];exact h1
 ·rw[Uf h1];by_cases h2:i<ds.length
  ·rw[Ud h2];cases k1:QN g1 d with
   |none=>trivial|some p1=>
    obtain⟨c1,es⟩:=p1;dsimp only;by_cases h3:es.length=ds.length
    ·rw[Ud h3];have f1:=VH (K:=K) (μ:=μ) (H:=H) (μ':=μ) (H':=H) (v:=.ref a) h k1;subst f1;obtain⟨z1,vs,w1,s1,d1s⟩:=YG r (q.mono ex) k1;cases w1;have hx:es[ds.length-1-i]?=some (es[ds.length-1-i]'(by omega)):=by simp[show ds.length-1-i<es.length by omega]
     rw[hx];obtain⟨vx,hvx,qx⟩:=d1s.get hx;have hvl:=d1s.length;refine⟨⟨vs,vx,s1,by omega,h2,hvx⟩,λx H' yl=>?_⟩;obtain⟨rfl,u1⟩:=yl;have:=u1 vs s1;rw[hvx]at this;cases this;exact⟨.refl,r,qx⟩
    ·rw[Uf h3];trivial
  ·rw[Uf h2];trivial
theorem fZ(hm:X.mg "reversed"=none)(he:QD ca X e me)(hg:Gl X "reversed":=by rfl)(hs:starEach [e] X.env=[(false,eval e X.env)]:=by rfl):Dj ca X tg (.Call (.Name "reversed" p) [e] [] pos) (OU me):=
 λpn Φ=>Xj (mM (X:=QI X ca pn Φ) hg hm (ZH he Qm hs pn Φ) hs) λσ H R hQ=>by
  obtain⟨σ3,g,μ,Rp,q⟩:=hQ;refine⟨σ3,g,μ,Rp,?_⟩;unfold OU at q;unfold Qc Qi;cases hm1:me σ3 g with
  |raise _ _=>rw[hm1]at q;exact q|stuck=>rw[hm1]at q;exact q.elim|ok d g1=>
   rw[hm1,Res.bind_ok]at q;rw[Res.bind_ok,Res.bind_ok];intro vs H1 μ1 ex r1 q1;unfold aJ at q;cases hs1:QN g1 d with
   |none=>rw[hs1]at q;exact q.elim|some p1=>
    obtain⟨b,ds⟩:=p1;rw[hs1]at q;cases b with
    |true=>exact q.elim|false=>
     cases q1 with
     |@cons v _ _ _ n1 q1 =>cases q1;obtain⟨a,ws,rfl,sq,dn⟩:=YG r1 n1 hs1;exact⟨a,ws,rfl,sq,q _ H1 μ1 ex r1 (fY n1 hs1 dn.length)⟩
end L3
namespace L3
open PySem
def LE(d:D)(g:G):Res Src:=match QN g d with
 |some (true,ds)=>.ok ⟨λg i=>(match QN g d with
  |some (_,es)=>(match es[i]? with
   |some x=>some (some (.tup [.int i,x]))|none=>some none)
  |none=>none),ds.length⟩ g
 |_=>.stuck
def Bn(a:ME):MI:=λσ g=>(a σ g).bind LE
open PySem.Spec PyProof.Rows L2
def uL(K:Frag)(a:Addr):It:=⟨λi H=>∃xs x,SqL K H a xs/\xs[i]?=some x,λi H v H'=>∃p x,H p=none/\v=.ref p/\H'=Zi H p (.tup [.int (i:Int),x])/\∀xs,SqL K H a xs->xs[i]?=some x,λi H=>∃xs,SqL K H a xs/\xs.length<=i⟩
def uM(e it l:Addr)(i:Nat)(h:Heap):Prop:=(∃old,IsEnum h e it (i:Int) old)/\h.IsListIter it l i
theorem AD{P:Program}{w:World}{K:Frag}{elts:List Expr}{kk:Nat}{tp:Pos}(e it l:Addr)(hei:e≠it):
  Turn P w K (.Tuple elts kk tp) (uL K l) [e,it] e (uM e it l) where
 mem:=by simp
 obj:=λi h st b hb=>by
  obtain⟨⟨old,hE⟩,hI⟩:=st;have hb':b=e\/b=it:=by simpa using hb
  rcases hb' with rfl|rfl
  ·exact⟨_,hE,λv q=>by cases q⟩
  ·obtain⟨o,eo,c,d⟩:=hI;exact⟨o,eo,λv z=>by rw[d]at z;cases z⟩
 keep:=λi h h' st k=>by obtain⟨⟨old,hE⟩,hI⟩:=st;exact⟨⟨old,k e (by simp) _ hE⟩,hI.at λo x=>k it (by simp) o x⟩
 item:=by
  intro X hP hw hK hc i pins s σ H E I hf st hg;subst hP hw hK;obtain⟨xs,x,q1,hx⟩:=hg;obtain⟨its,r1,p1,hz1⟩:=I.list q1;obtain⟨u,hu,ru⟩:=r1.get hx;obtain⟨⟨old,hE⟩,hI⟩:=st;have fe:=hf e (by simp);have fi:=hf it (by simp);refine wpAny_pyNext_enum_item hE hI p1.isList (x:=u) (by simpa using hu) hei λh' ho hit' hT hsz hk=>?_;have hp:H s.heap.objs.size=none:=I.hok.fresh (Ug _);have inC:∀b,b∈[e,it]->FpOk X pins H b:=λb hb=>hf b hb;have hk':∀b o,b∉[e,it]->s.heap.get? b=some o->h'.get? b=some o:=λb o hb ee=>hk b o (λq=>hb (by simp[q])) (λq=>hb (by simp[q])) ee;have nC:∀b v,H b=some v->b∉[e,it]:=λb v ee hb=>by rw[(inC b hb).1]at ee;cases ee
  have nP:∀b v,H b=some v->b≠s.heap.objs.size:=λb v ee=>Q8 ee hp;have I1:Inv X pins σ (Zi H s.heap.objs.size (.tup [.int (i:Int),x])) {s with heap:=h',toks:=s.toks+1}:=by
   refine I.step (g':=s.gens) (t':=s.toks+1) (d':=s.drawn) (ch:=[e,it]) (λb hb=>⟨(inC b hb).2.2.2.1,(inC b hb).2.1,(inC b hb).2.2.2.2.1,(inC b hb).2.2.2.2.2⟩) (λb o _ _ hb ee _=>hk' b o hb ee) (λb o _ _ hb ee _=>⟨o.slots,hk' b o hb ee⟩)
    (λb o hb ee n=>by rw[Qz (UH (Ul ee))];exact n) (λb o hb ee=>⟨o,hk' b o hb ee⟩) (λb v ee=>by rw[Qz (nP b _ ee)];exact ee) (λb o v ee=>by rw[Qz (nP b _ ee)];exact ee) (λb ps ee=>⟨#[],by rw[Qz (nP b _ ee),ee];simp⟩)
    (λm hm=>?_) (λb v ee=>?_) I.bare
   ·obtain⟨o,es,ep,hoo,rr⟩:=hm;exact⟨o,es,ep,hk' _ o (λhb=>(inC _ hb).2.1 rfl) hoo,rr⟩
   ·by_cases hb:b=s.heap.objs.size
    ·subst hb;rw[Qy]at ee;cases ee;exact⟨by rw[Td];show 2<=16777216;decide,[.int (i:Int) s.toks,u],.cons ⟨_,rfl⟩ (.cons ru .nil),⟨_,hT,rfl,_,rfl⟩⟩
    ·rw[Qz hb]at ee;refine(I.hok b v ee).stay (λc' v' hc' q=>?_) (λc' q=>by rw[Qz (nP c' _ q)];exact q) λc' xs' q=>by rw[Qz (nP c' _ q)];exact q
     rcases hc' with rfl|hc'
     ·exact hk' _ _ (nC _ _ ee) q
     ·exact hk' _ _ (nC _ _ hc') q
  refine⟨_,rfl,wpAny_letOwnedTupleGo_enum (s:={s with heap:=h',toks:=s.toks+1}) ho λh'' hE'' hs''=>?_⟩;have hpe:s.heap.objs.size≠e:=Wf (Ul hE);have I2:Inv X pins σ (Zi H s.heap.objs.size (.tup [.int (i:Int),x])) {s with heap:=h'',toks:=s.toks+1}:=Inv.turned (s:={s with heap:=h',toks:=s.toks+1}) (t':=s.toks+1) I1 (λb o hb ee=>hs''.extBut b o hb ee) (by rw[Qz (Ne.symm hpe)];exact fe.1) fe.2.1 fe.2.2.2.1 fe.2.2.2.2.1 fe.2.2.2.2.2;have e2:(i:Int)+1=((i+1:Nat):Int):=by omega
  rw[e2]at hE'';refine⟨.ref s.heap.objs.size,_,I2,rfl,⟨_,x,hp,rfl,rfl,λxs' q=>by rw[I.list_inj q q1];exact hx⟩,⟨⟨_,hE''⟩,hit'.at λo ee=>hs''.extBut _ o (Ne.symm hei) ee⟩,λb hb=>?_⟩;have lt:b<s.heap.objs.size:=by
   have hb':b=e\/b=it:=by simpa using hb
   rcases hb' with rfl|rfl
   ·exact Ul hE
   ·obtain⟨o,eo,_⟩:=hI;exact Ul eo
  rw[Qz (UH lt)];exact(hf b hb).1
 done:=by intro X hP hw hK hc i pins s σ H E I hf st hg;subst hP hw hK;obtain⟨xs,q1,hl⟩:=hg;obtain⟨its,r1,p1,hz1⟩:=I.list q1;have hlen:=r1.length;obtain⟨⟨old,hE⟩,hI⟩:=st;obtain⟨f0,f1,f2,f3,f4,f5⟩:=hf it (by simp);exact wpAny_pyNext_enum_end (I.ok.hd hc) hE hI p1.isList (R0 (by simp;omega)) λh' eb=>⟨rfl,I.turned (t':=s.toks) (λb o hb ee=>eb b o hb ee) f0 f1 f3 f4 f5⟩
 self:=λ_ _ _ _ _ st h=>by obtain⟨⟨old,hE⟩,_⟩:=st;exact wpAny_pyIter_enum hE h
theorem gA{ta:TA}(hg:Gl X "enumerate")(hm:X.mg "enumerate"=none)(ha:PA X [e1] ta)(hs:starEach [e1] X.env=[(false,eval e1 X.env)]):
  PI X (.Tuple elts kk tp) (.Call (.Name "enumerate" p) [e1] [] pos) (λσ H R=>ta σ H λvs H1=>∃a xs,vs=[.ref a]/\SqL X.K H1 a xs/\R (uL X.K a) H1):=by
 intro pins s σ H R I h;refine Call_ (Xv I hg hm boot_enumerate (UR (ZD (ha pos pins s σ H _ I h) λus s1 ⟨vs,H1,I1,r1,q1⟩=>?_) hs rfl));obtain⟨a,xs,rfl,hq,q⟩:=q1;cases r1 with
 |cons ru rr=>
  cases rr;cases ru;obtain⟨its,v1,p1,hz⟩:=I1.list hq;refine call_enumerate_list p1.isList λh' hE hI hsz hk=>wpAny_pyIter_enum hE ?_;have I2:Inv X pins σ H1 {s1 with heap:=h'}:=I1.kept (t':=s1.toks) hk;refine⟨s1.heap.objs.size+1,_,_,_,H1,rfl,I2,AD _ s1.heap.objs.size a (Nat.succ_ne_self _),⟨⟨_,hE⟩,hI⟩,λb hb=>?_,q⟩;have hb':b=s1.heap.objs.size+1\/b=s1.heap.objs.size:=by simpa using hb
  have hle:s1.heap.objs.size<=b:=by rcases hb' with h|h<;>rw[h]<;>first|exact Ug _|exact Tq _ _
  exact I1.fpOk hle (I1.hok.fresh hle)
theorem aK{K:Frag}{μ:List Addr}{H:Hp}{g:G}{v1:V}{d1:D}{xs:List D}{t:Nat}(q1:Den K μ H v1 d1)(h1:QN g d1=some (true,xs)){a1:Addr}(e1:v1=.ref a1):
  As K ca μ H ⟨λg i=>(match QN g d1 with
  |some (_,es)=>(match es[i]? with
   |some x=>some (some (.tup [.int i,x]))|none=>some none)
  |none=>none),t⟩ (uL K a1):=by
 intro i H1 μ1 g1 ex r;dsimp only;cases k1:QN g1 d1 with
 |none=>trivial|some p1=>
  obtain⟨c1,xs1⟩:=p1;have f1:=VH (K:=K) (μ:=μ) (H:=H) (μ':=μ) (H':=H) (v:=v1) h1 k1;subst f1;obtain⟨z1,vs,w1,s1,d1s⟩:=YG r (q1.mono ex) k1;rw[e1]at w1;cases w1;dsimp only;cases hx:xs1[i]? with
  |none =>refine⟨vs,s1,?_⟩;rw[d1s.length];exact To.mp hx|some x =>obtain⟨vx,hvx,qx⟩:=d1s.get hx;refine⟨⟨vs,vx,s1,hvx⟩,λv H' yl=>?_⟩;obtain⟨pp,x',hp,rfl,rfl,u1⟩:=yl;have:=u1 vs s1;rw[hvx]at this;cases this;exact⟨Q3 hp,r.new hp,.tup (.of Qy) (.cons (.int _) (.cons (qx.mono (Q3 hp)) .nil))⟩
theorem aL(hm:X.mg "enumerate"=none)(h1:QD ca X e1 m1)(hg:Gl X "enumerate":=by rfl)(hs:starEach [e1] X.env=[(false,eval e1 X.env)]:=by rfl):Dj ca X (.Tuple elts kk tp) (.Call (.Name "enumerate" p) [e1] [] pos) (Bn m1):=
 λpn Φ=>Xj (gA (X:=QI X ca pn Φ) hg hm (ZH h1 Qm hs pn Φ) hs) λσ H R hQ=>by
  obtain⟨σ3,g,μ,Rp,q⟩:=hQ;refine⟨σ3,g,μ,Rp,?_⟩;unfold Bn at q;unfold Qc Qi;cases hm1:m1 σ3 g with
  |raise _ _=>rw[hm1]at q;exact q|stuck=>rw[hm1]at q;exact q.elim|ok d1 g1=>
   rw[hm1,Res.bind_ok]at q;rw[Res.bind_ok,Res.bind_ok];intro vs H1 μ1 ex r1 q1;unfold LE at q;cases hs1:QN g1 d1 with
   |none=>rw[hs1]at q;exact q.elim|some p1=>
    obtain⟨b,ds⟩:=p1;rw[hs1]at q;cases b with
    |false=>exact q.elim|true=>
     cases q1 with
     |@cons v _ _ _ n1 q1 =>cases q1;obtain⟨a,ws,rfl,sq,dn⟩:=YG r1 n1 hs1;exact⟨a,ws,rfl,sq,q _ H1 μ1 ex r1 (aK n1 hs1 rfl)⟩
end L3
namespace PySem
open Sem (wp)
namespace F
theorem nolen_lri:typeLookup (.type "list_reverseiterator") "__len__"=pure none:=by rw[Ro,Tv];kernel_rfl
theorem hint_lri:typeLookup (.type "list_reverseiterator") "__length_hint__"=pure (some (.builtin "list_reverseiterator.__length_hint__")):=by rw[Ro,Tv];kernel_rfl
end F
theorem Ek{Q:List Value->Shared->Prop}(W:WalksS prog w A.in1 I fp wr G n P St)(hT:∀i s,St i s->s.TypeIs (.ref I) "list_reverseiterator")(hst:St 0 s)(hfp:∀b∈fp,b<s.heap.objs.size)(hI:I∈fp)(hQ:∀s' acc,Moved wr G s s'->ItemsOf P acc n->Q acc.toList s')(hn:n<=sizeLine):wpAny (model prog w) A (collect (.ref I)) Q E s:=by
 have hSf:s.heap.objs.size∉fp:=λhm=>Tx _ (hfp _ hm);have hSI:s.heap.objs.size≠I:=λe=>hSf (e ▸ hI);unfold collect;refine Ua (wpAny_runValue (BC F.entry_proto_collect ?_));rw[WD F.plain_proto_collect _];show wpAny _ A.in1 (newList [] >>= λl=>again (.builtin "list.__iadd__" ⟨[l,.ref I],[]⟩)) _ _ s;refine Ua (UB ?_);refine Ub ⟨plainId_quiet F.plain_list_iadd _,BC F.entry_list_iadd ?_⟩;rw[WD F.plain_list_iadd _];have hst₁:=W.frame 0 s (s.heap.push {cls:=.type "list",data:=.seq ([]:List Value).toArray}) s.toks hst (Ug _) λb _ o e=>Uc _ e;have hS₁:(s.heap.push {cls:=.type "list",data:=.seq ([]:List Value).toArray}).get? s.heap.objs.size=some {cls:=.type "list",data:=.seq ([]:List Value).toArray}:=Uk _ rfl;have h1:Builtin.List.listSameRef (.ref s.heap.objs.size) (.ref I)=false:=by simp[Builtin.List.listSameRef,hSI]
 show wpAny _ A.in1 (Builtin.List.listExtendWith (.ref s.heap.objs.size) (.ref I) (.ref s.heap.objs.size)) _ _ _;unfold Builtin.List.listExtendWith;refine Ua (RB (hT 0 _ hst₁) ?_);rw[Uf (by rw[h1];decide)];refine Ua (W.self 0 _ _ _ hst₁ ?_);refine Ua (U5 ?_);unfold Builtin.List.listLengthHint;refine Ua (T4 (hT 0 _ hst₁) F.nolen_lri ?_);show wpAny _ A.in1 (specialOf (Value.ref I) (Str.ofString "__length_hint__") >>= _) _ _ _;refine Ua (T4 (hT 0 _ hst₁) F.hint_lri ?_)
 (generalize hid:("list_reverseiterator.__length_hint__" : String)=id0;(fail_if_success (clear hid id0));wp_delta;rw[show splitId id0=some ("list_reverseiterator","__length_hint__") from by subst hid;decide +kernel];subst hid)
 refine Ua (TQ (b:=true) (hT 0 _ hst₁) (by rw[We];kernel_rfl) ?_);refine Ub ?_;rw[Uf (by decide)];refine Ub ⟨plainId_quiet F.plain_extend_loop _,codeAny_extend_loopS W hn _ hSf _ n 0 _ _ _ rfl (T3 _) hst₁ hS₁ (ItemsOf.nil P) λs' acc' c' hm hS' hacc=>?_⟩;show wpAny _ A (load s.heap.objs.size >>= _) _ _ s';refine Ua (wpAny_load hS' ?_);exact Ub (hQ s' acc' (Moved.drop_new (o:={cls:=.type "list",data:=.seq ([]:List Value).toArray}) (tk:=s.toks) hm (Ug _)) hacc)
theorem Cv{Q₁:VP}(W:WalksS prog w A.in1.in1 I fp wr G n P St)(hT:∀i s,St i s->s.TypeIs (.ref I) "list_reverseiterator")(hst:St 0 s)(hfp:∀b∈fp,b<s.heap.objs.size)(hI:I∈fp)(h:∀s' acc,Moved wr G s s'->ItemsOf P acc n->Q₁ (.ref s'.heap.objs.size) {s' with heap:=s'.heap.push {cls:=.type "tuple",data:=.seq acc} })(hsz:n<=sizeLine):
  codeAny (model prog w) A (.call (.builtin "tuple.__new__") ⟨[.type "tuple",.ref I],[]⟩) (wants Q₁ E) s:=by
 refine codeAny_of_tree ?_;show wpAny _ A.in1 (do checkBuiltinCall "tuple.__new__" ⟨[.type "tuple",.ref I],[]⟩;again (.builtin "tuple.__new__" ⟨[.type "tuple",.ref I],[]⟩)) _ _ s;refine Ua (TD (F.newCall_tuple_1 _) (Ub ⟨plainId_quiet F.plain_tuple_new _,BC F.entry_tuple_new ?_⟩));rw[WD F.plain_tuple_new _];have hsub:=sub_tuple_self;have hinit:=init_tuple_lookup;have hmh:=madeHere_tuple;have hTI:=hT 0 s hst
 wp_walk using RB hTI,Ek (hn:=hsz) W hT hst hfp hI
 intro s' acc hm hacc;show wpAny _ _ (Builtin.Tuple.tupleExact acc.toList.toArray >>= λv=>ret v) _ _ _;unfold Builtin.Tuple.tupleExact;refine Ua (UB ?_ (by show acc.toList.toArray.size<=sizeLine;simp only[Array.toArray_toList];rw[hacc.1];exact hsz));refine Ub ?_;have e:acc.toList.toArray=acc:=by simp
 rw[e];exact h s' acc hm hacc
theorem GL{Q:VP}(W:WalksS prog w A.in1.in1.in1 I fp wr G n P St)(hT:∀i s,St i s->s.TypeIs (.ref I) "list_reverseiterator")(hst:St 0 s)(hfp:∀b∈fp,b<s.heap.objs.size)(hI:I∈fp)(hQ:∀s' acc,Moved wr G s s'->ItemsOf P acc n->Q (.ref s'.heap.objs.size) {s' with heap:=s'.heap.push {cls:=.type "tuple",data:=.seq acc} })(hsz:n<=sizeLine):
  wpAny (model prog w) A (call (.type "tuple") [.ref I]) Q E s:=by
 refine callType_codes (Q₁:=λobj s₁=>s₁.TypeIs obj "tuple"/\Q obj s₁) F.called_tuple (F.typeCall_tuple_1 _) F.entry_object_init
  (Cv (hsz:=hsz) W hT hst hfp hI λs' acc hm hacc=>⟨⟨_,Uk _ rfl,rfl⟩,hQ s' acc hm hacc⟩) λobj s₁ h₁=>?_
 exact⟨h₁.1,F.args_object_init_2 obj _,object_init_meets F.called_tuple.init.lookup F.called_tuple.made (by decide) prog w A.in1 _ s₁ ⟨h₁.1,rfl,h₁.2⟩⟩
theorem GM{l:Addr}{its:List Value}{Q:VP}(hh:A.handled=none)(hne:l≠I)(hit:s.heap.IsRevIter I l ((its.toArray.size:Int) - 1))(hl:s.heap.IsList l its.toArray)(hsz:its.toArray.size<=sizeLine)(hQ:∀(h':Heap) (tk:Nat),(∀b o,b≠I->s.heap.get? b=some o->h'.get? b=some o)->Q (.ref h'.objs.size) {s with heap:=h'.push {cls:=.type "tuple",data:=.seq its.reverse.toArray},toks:=tk}):
  wpAny (model prog w) A (call (.type "tuple") [.ref I]) Q E s:=by
 refine GL (Walks.listRev (A:=A.in1.in1.in1) hh I l hne its.toArray).toS (λ_ _ st=>st.2.1.typeIs) ⟨T3 _,by simpa using hit,hl⟩ (λb hb=>?_) (by simp) (λs' acc hm ha=>?_) hsz
 ·obtain⟨o,ho,_⟩:=hit;obtain⟨o',ho',_⟩:=hl;rcases Uz.mp hb with rfl|hb
  ·exact Ul ho
  ·rw[Ur.mp hb];exact Ul ho'
 ·have e:acc=its.reverse.toArray:=by
   apply Array.ext_getElem?;intro i;by_cases hi:i<its.length
   ·have h1:acc[i]?=some (acc[i]'(by rw[ha.1];simpa using hi)):=W4 _;have h2:=ha.2 i _ h1;rw[h1,<-h2];simp only[Us,Wp,List.getElem?_reverse hi]
   ·have hs:acc.size=its.length:=by rw[ha.1];simp
    rw[R0 (by omega),Wp,TM (by simp;omega)]
  subst e;have e2:s' = {s with heap:=s'.heap,toks:=s'.toks}:=by have a1:=hm.gens;have a2:=hm.drawn;have a3:=hm.os;cases s';cases s;simp only at a1 a2 a3 ⊢;subst a1 a2 a3;rfl
  have:=hQ s'.heap s'.toks λb o hb e=>hm.heap b o (by simpa using hb) e;rw[e2];exact this
end PySem
namespace L3
open PySem
def Xt(x:D)(g:G):Res D:=match QN g x with
 |some (true,ds)=>.ok (.tup ds.reverse) g|_=>.stuck
open PySem.Spec PyProof.Rows L2
theorem M8:∀{xs:List V}{us:List Value},Vals xs us->Vals xs.reverse us.reverse
 |_,_,.nil=>.nil|_,_,.cons h t=>by rw[Wc,Wc];exact(M8 t).append (.cons h .nil)
theorem Dens.rev{K:Frag}{μ:List Addr}{H:Hp}:∀{vs:List V}{ds:List D},Dens K μ H vs ds->Dens K μ H vs.reverse ds.reverse
 |_,_,.nil=>.nil|_,_,.cons h t=>by rw[Wc,Wc];exact(Dens.rev t).append (.cons h .nil)
theorem AE{ta:TA}(hs0:starEach [.Call (.Name "reversed" p2) [e] [] pos2] X.env=[(false,eval (.Call (.Name "reversed" p2) [e] [] pos2) X.env)])(hg:Gl X "tuple")(hm:X.mg "tuple"=none)(hg2:Gl X "reversed")(hm2:X.mg "reversed"=none)(ha:PA X [e] ta)(hs:starEach [e] X.env=[(false,eval e X.env)])(hc:X.calm=true):
  PE X (.Call (.Name "tuple" p) [.Call (.Name "reversed" p2) [e] [] pos2] [] pos) (λσ H Q=>ta σ H λvs H1=>∃a xs,vs=[.ref a]/\SqL X.K H1 a xs/\∀l,H1 l=none->Q (.ref l) (Zi H1 l (.tup xs.reverse))):=by
 intro pins s σ H Q I h;refine Call_ (Xv I hg hm boot_tuple (UR ?_ hs0 rfl));rw[hs0];show wpAny _ _ (spliced ((false,eval (.Call (.Name "reversed" p2) [e] [] pos2) X.env)::[])) _ _ s;refine Calls.spliced_cons (Call_ (Xv I hg2 hm2 boot_reversed (UR (ZD (ha pos2 pins s σ H _ I h) λus s1 hv=>?_) hs rfl)));obtain⟨vs,H1,I1,r1,a,xs,rfl,hq,q⟩:=hv;cases r1 with
 |cons r rr=>
  cases rr;cases r;have h63:=Km;obtain⟨its,rv,pl,hz⟩:=I1.list hq;have hl:=rv.length;obtain⟨f0,f1,f2,f3,f4,f5⟩:=I1.fpOk (Ug _) (I1.hok.fresh (Ug _));refine call_reversed_list pl.isList (Calls.spliced_nil ?_);have I2:Inv X pins σ H1 {s1 with heap:=s1.heap.push (revObj a ((its.toArray.size:Int) - 1))}:=I1.kept (t':=s1.toks) λb o e=>Uc _ e;have ll:a≠s1.heap.objs.size:=λz=>by obtain⟨o,ho,_⟩:=pl.isList;exact absurd (Ul ho) (by rw[z];exact Tx _)
  refine GM (I:=s1.heap.objs.size) (l:=a) (its:=its) (s:={s1 with heap:=s1.heap.push (revObj a ((its.toArray.size:Int) - 1))}) (I1.ok.hd hc) ll ⟨_,Uk _ rfl,rfl,rfl⟩ (pl.isList.at λo e=>Uc _ e) (by simp only[Us];omega) λh' tk kp=>?_;have I3:Inv X pins σ H1 {s1 with heap:=h',toks:=tk}:=I2.turned (t':=tk) (λb o hb e=>kp b o hb e) f0 f1 f3 f4 f5;refine⟨.ref h'.objs.size,_,I3.laid (t':=tk) (λb o e=>Uc _ e) (Ug _) (show ObjOk X.prog X.w _ _ _ (.tup xs.reverse) from ⟨by rw[Rt];exact hz,its.reverse,M8 rv,IsTup.new _ _⟩),rfl,q _ (I3.hok.fresh (Ug _))⟩
theorem OW(hc:X.calm=true)(hm:X.mg "tuple"=none)(hm2:X.mg "reversed"=none)(he:QD ca X e me)(hs0:starEach [.Call (.Name "reversed" p2) [e] [] pos2] X.env=[(false,eval (.Call (.Name "reversed" p2) [e] [] pos2) X.env)]:=by rfl)(hg:Gl X "tuple":=by rfl)(hg2:Gl X "reversed":=by rfl)(hs:starEach [e] X.env=[(false,eval e X.env)]:=by rfl):
  QD ca X (.Call (.Name "tuple" p) [.Call (.Name "reversed" p2) [e] [] pos2] [] pos) (Qt Xt me):=
 λpn Φ=>Zb (AE (X:=QI X ca pn Φ) hs0 hg hm hg2 hm2 (ZH he Qm hs pn Φ) hs hc) λσ H Q hQ=>by
  obtain⟨σ3,g,μ,R,q⟩:=hQ;refine⟨σ3,g,μ,R,?_⟩;unfold Qt at q;unfold Qc Qi;cases hm:me σ3 g with
  |raise _ _=>rw[hm]at q;exact q|stuck=>rw[hm]at q;exact q.elim|ok d g1=>
   rw[hm,Res.bind_ok]at q;rw[Res.bind_ok,Res.bind_ok];intro vs H1 μ1 e1 r1 q1;cases q1 with
   |@cons v _ _ _ h1 h2=>
    cases h2;unfold Xt at q;cases hs1:QN g1 d with
    |none=>rw[hs1]at q;exact q.elim|some p1=>
     obtain⟨b,ds⟩:=p1;rw[hs1]at q;cases b with
     |false=>exact q.elim|true =>obtain⟨a,ws,rfl,sq,dn⟩:=YG r1 h1 hs1;exact⟨a,ws,rfl,sq,λl hl=>q _ _ μ1 (e1.trans (Q3 hl)) (r1.new hl) (.tup (.of Qy) (dn.rev.mono (Q3 hl)))⟩
def gB(K:Frag):Nat->Value->D->Bool
 |0,_,_=>false|f+1,u,d=>match u,d with
  |.none,.non=>true|.int i _,.int j=>i==j|.ref a,.tup ds=>(match K.lookup a with
   |some ⟨.type t,_,.seq its _,_⟩=>t =="tuple"&&decide (its.size<=63)&&decide (its.toList.length=ds.length)&&(its.toList.zip ds).all λp=>gB K f p.1 p.2
   |_=>false)
  |_,_=>false
theorem Sk{K:Frag}:∀{us:List Value}{ds:List D},us.length=ds.length->(∀p∈us.zip ds,∃v,RelV v p.1/\∀μ H,Den K μ H v p.2)->∃vs,Vals vs us/\∀μ H,Dens K μ H vs ds
 |[],[],_,_=>⟨[],.nil,λ_ _=>.nil⟩|[],_::_,h,_=>nomatch h
 |_::_,[],h,_=>nomatch h
 |u::us,d::ds,h,k=>by obtain⟨v,r,q⟩:=k (u,d) (by simp);obtain⟨vs,rs,qs⟩:=Sk (us:=us) (ds:=ds) (by simpa using h) λp hp=>k p (by simp[hp]);exact⟨v::vs,.cons r rs,λμ H=>.cons (q μ H) (qs μ H)⟩
theorem aM{K:Frag}:∀(f:Nat)(u:Value)(d:D),gB K f u d=true->∃v,RelV v u/\∀μ H,Den K μ H v d
 |0,_,_,h=>nomatch h
 |f+1,u,d,h=>by
  unfold gB at h;split at h
  ·exact⟨.non,rfl,λ_ _=>.non⟩
  ·rename_i i t j;have e:i=j:=Tn.mp h;subst e;exact⟨.int i,⟨t,rfl⟩,λ_ _=>.int i⟩
  ·rename_i a ds;split at h
   ·rename_i t dd its n sl hk;simp only[UK,Tn,TF,U3]at h;obtain⟨⟨⟨h1,h2⟩,h3⟩,h4⟩:=h;subst h1;obtain⟨vs,rs,qs⟩:=Sk h3 λp hp=>aM f p.1 p.2 (h4 p hp);exact⟨.ref a,rfl,λμ H=>.tup (.inr ⟨_,its,n,hk,rfl,rfl,Uo h2 (by rw[Td];decide),rs⟩) (qs μ H)⟩
   ·cases h
  ·cases h
theorem Sl(h:∃u v,X.mg x=some u/\RelV v u/\∀μ H,Den X.K μ H v d)(hg:Gl X x:=by rfl)(hd:(x==("__debug__" : Str))=false:=by decide):QD ca X (.Name x pos) (Qu d):=by obtain⟨u,v,hm,r,q⟩:=h;exact λpn Φ=>Zb (CZ (X:=QI X ca pn Φ) hg hm r hd) λ_ H _ z=>by obtain⟨_,_,μ,R,p⟩:=z;exact p v H μ .refl R.g (q _ _)
end L3
namespace L2
open PySem PySem.Spec PyProof.Rows
section
variable{κ:Type}[DecidableEq κ]
def B2(kvs:List (κ×V))(k:κ):Option V:=(kvs.find? λkv=>decide (kv.1=k)).map (·.2)
def GN(kvs:List (κ×V))(k:κ)(v:V):List (κ×V):=if (kvs.any λkv=>decide (kv.1=k))=true then kvs.map (λkv=>if kv.1=k then (kv.1,v) else kv) else kvs++[(k,v)]
def vS(kvs:List (κ×V))(k:κ):List (κ×V):=kvs.filter λkv=>decide (kv.1≠k)
theorem M9{p:κ×V}{r:List (κ×V)}{k:κ}(e:p.1=k):B2 (p::r) k=some p.2:=by simp[B2,Tk,e]
theorem Na{p:κ×V}{r:List (κ×V)}{k:κ}(e:¬p.1=k):B2 (p::r) k=B2 r k:=by simp[B2,Tk,e]
theorem FH(kvs:List (κ×V))(k:κ)(v:V):(GN kvs k v).length<=kvs.length+1:=by
 unfold GN;split
 ·rw[Uh];omega
 ·rw[Um,UA,List.length_nil];omega
theorem KV.val{kvs:List (κ×V)}{vs:List (κ×Value)}(r:KV kvs vs)(k:κ):RelO (B2 kvs k) (valueAt vs k):=by
 unfold KV at r;induction r with
 |nil=>exact True.intro|@cons p q ps qs h t ih=>
  obtain⟨h1,h2⟩:=h;by_cases e:p.1=k
  ·have e':q.1=k:=h1.symm.trans e;have b:valueAt (q::qs) k=some q.2:=by simp[valueAt,Tk,e']
   rw[M9 e,b];exact h2
  ·have e':¬q.1=k:=λz=>e (h1.trans z);have b:valueAt (q::qs) k=valueAt qs k:=by simp[valueAt,Tk,e']
   rw[Na e,b];exact ih
theorem KV.any(r:KV kvs vs)(k:κ):(kvs.any λkv=>decide (kv.1=k))=vs.any λkv=>decide (kv.1=k):=by
 unfold KV at r;induction r with
 |nil=>rfl|cons h t ih=>rw[T8,T8,ih,h.1]
theorem KV.repl(r:KV kvs vs)(k:κ)(ry:RelV y u):
  KV (kvs.map λkv=>if kv.1=k then (kv.1,y) else kv) (vs.map λkv=>if kv.1=k then (kv.1,u) else kv):=by
 unfold KV at r ⊢;induction r with
 |nil=>exact .nil|@cons p q ps qs h t ih=>
  rw[UL,UL];refine .cons ?_ ih;obtain⟨h1,h2⟩:=h;by_cases e:p.1=k
  ·rw[Ud e,Ud (h1.symm.trans e)];exact⟨h1,ry⟩
  ·rw[Uf e,Uf (λz=>e (h1.trans z))];exact⟨h1,h2⟩
theorem KV.put(r:KV kvs vs)(k:κ)(ry:RelV y u):KV (GN kvs k y) (stored vs k u):=by
 unfold GN stored;rw[r.any k];by_cases e:(vs.any λkv=>decide (kv.1=k))=true
 ·rw[Ud e,Ud e];exact r.repl k ry
 ·rw[Uf e,Uf e];exact BU r ⟨rfl,ry⟩
theorem KV.length(r:KV kvs vs):kvs.length=vs.length:=Paired.length r
end
theorem Nc(r:RelV (kV k) u):(JE P w).is k u=true:=by
 cases k with
 |inl i=>obtain⟨t,e⟩:=(show ∃t,u=Value.int i t from r);subst e;exact Mv P w i t|inr x=>obtain⟨t,e⟩:=(show ∃t,u=Value.str x t from r);subst e;exact Mw P w x t
theorem qO(ok:HOk P w H h)(e:Rd H a u):ObjOk P w H h a u:=e.ok ok
theorem jJ(ok:HOk P w H h)(e:Rd H a (.dK kvs)):kvs.length<=sizeLine/\(a==sysModules)=false/\∃vs,KV kvs vs/\h.DictOf (JE P w) a vs:=
 show ObjOk P w H h a (.dK kvs) from qO ok e
theorem GP(ok:HOk P w H h)(e:H a=some (.dK kvs)):kvs.length<=sizeLine/\(a==sysModules)=false/\∃vs,KV kvs vs/\h.DictOf (JE P w) a vs:=jJ ok (.inl e)
theorem Inv.big(I:Inv X pins σ H s):sysModules<s.heap.objs.size:=by have h:mainGlobals<s.heap.objs.size:=(I.mod.glob.keeps I.bk).lt;exact Nat.lt_trans (by decide) h
theorem Gi(I:Inv X pins σ H s)(mu:oU (H a))(hs:Heap.SameBut a s.heap h')(he:∃q,h'.get? a=some q)(new:ObjOk X.prog X.w (Zi H a ob) h' a ob):
  Inv X pins σ (Zi H a ob) {s with heap:=h',toks:=t'}:=I.write (x:=a) (e:=a) mu (.inl rfl) (λb q hb z=>(hs.2 b hb).trans z) he new
theorem aN(z:kvs.length<=sizeLine)(hd:(a==sysModules)=false)(rel:KV kvs vs)(dd:h'.DictOf (JE P w) a vs):
  ObjOk P w H' h' a (.dK kvs):=⟨z,hd,vs,rel,dd⟩
theorem GQ(h:Heap)(hb:sysModules<h.objs.size):ObjOk P w H (h.push {cls:=.type "dict",data:=.dict #[]}) h.objs.size (.dK []):=⟨T3 _,U2.mpr (Ne.symm (UH hb)),[],.nil,Heap.DictOf.new h⟩
def mO:TE:=λ_ H Q=>∀p,H p=none->Q (.ref p) (Zi H p (.dK []))
theorem aO:PE X (.Dict [] [] pos) mO:=λpins s σ H Q I h=>
 wpAny_Dict_empty ⟨.ref s.heap.objs.size,_,I.laid (a:=s.heap.objs.size) (o:=.dK []) (t':=s.toks) (λ_ _ q=>Uc _ q) (Ug _) (GQ s.heap I.big),rfl,h _ (I.hok.fresh (Ug _))⟩
end L2
namespace L3
open PySem
abbrev DK:=Sum Int Str
def GR(ks:List (DK×D))(k:DK):Option D:=(ks.find? λp=>decide (p.1=k)).map (·.2)
def Cw(ks:List (DK×D))(k:DK)(v:D):List (DK×D):=if (ks.any λp=>decide (p.1=k))=true then ks.map λp=>if p.1=k then (p.1,v) else p else ks++[(k,v)]
def vT(ks:List (DK×D))(k:DK):List (DK×D):=ks.filter λp=>decide (p.1≠k)
def jK:ME:=λ_ g=>.ok (.ref g.length) (g++[.dct []])
def GS(o k v:ME):MS:=λσ g=>match v σ g with
 |.ok y g1=>(match o σ g1 with
  |.ok (.ref n) g2=>(match k σ g2 with
   |.ok (.str i) g3=>(match g3[n]? with
    |some (.dct ks)=>if ks.length<SZ then .nx σ (g3.set n (.dct (Cw ks (.inr i) y))) else .stuck
    |_=>.stuck)
   |.raise e g'=>.raise e σ g'|_=>.stuck)
  |.raise e g'=>.raise e σ g'|_=>.stuck)
 |.raise e g'=>.raise e σ g'|.stuck=>.stuck
open PySem.Spec PyProof.Rows L2
section
variable{K:Frag}{μ:List Addr}{H:Hp}
theorem KRel.get(r:KRel K μ H kv ks)(k:B6):(B2 kv k=none/\GR ks k=none)\/∃v d,B2 kv k=some v/\GR ks k=some d/\Den K μ H v d:=by
 unfold KRel at r;induction r with
 |nil=>exact .inl ⟨rfl,rfl⟩|@cons p q ps qs h t ih=>
  obtain⟨h1,h2⟩:=h;by_cases e:p.1=k
  ·refine .inr ⟨p.2,q.2,M9 e,?_,h2⟩;unfold GR;rw[Tk,Uv (h1.symm.trans e)];rfl
  ·have e':GR (q::qs) k=GR qs k:=by unfold GR;rw[Tk,Ut (λz=>e (h1.trans z))]
   rw[Na e,e'];exact ih
theorem KRel.put(r:KRel K μ H kv ks)(k:B6)(h:Den K μ H v d):KRel K μ H (GN kv k v) (Cw ks k d):=by
 have ha:(kv.any λp=>decide (p.1=k))=ks.any λp=>decide (p.1=k):=by
  unfold KRel at r;induction r with
  |nil=>rfl|cons h t ih=>rw[T8,T8,ih,h.1]
 unfold GN Cw;rw[ha];by_cases e:(ks.any λp=>decide (p.1=k))=true
 ·rw[Ud e,Ud e];clear ha e;unfold KRel at r ⊢;induction r with
  |nil=>exact .nil|@cons p q ps qs hp t ih=>
   rw[UL,UL];refine .cons ?_ ih;obtain⟨h1,h2⟩:=hp;by_cases e:p.1=k
   ·rw[Ud e,Ud (h1.symm.trans e)];exact⟨h1,h⟩
   ·rw[Uf e,Uf (λz=>e (h1.trans z))];exact⟨h1,h2⟩
 ·rw[Uf e,Uf e];exact BU r ⟨rfl,h⟩
end
theorem aP:dU X (λo i v H Q=>∃a kvs k,o=.ref a/\i=kV k/\H a=some (.dK kvs)/\kvs.length<sizeLine/\Q (Zi H a (.dK (GN kvs k v)))):=by
 intro pins s σ H o i v ov iv u Q I ro ri rv h;obtain⟨a,kvs,k,rfl,rfl,e,l,q⟩:=h;cases ro;obtain⟨z,hd,vs,rel,dd⟩:=GP I.hok e;have hz:vs.length<=sizeLine:=by rw[<-rel.length];exact z
 have hl:(GN kvs k v).length<=sizeLine:=by have:=FH kvs k v;omega
 refine wpAny_setItem_pairs (hsz:=hz) (Nc ri) dd λh' dd' hs=>?_;have he:∃q,h'.get? a=some q:=let ⟨q,_,_,hq,_⟩:=dd';⟨q,hq⟩;exact⟨_,Gi I (by rw[e];exact True.intro) hs he (aN hl hd (rel.put k rv) dd'),q⟩
section
variable{X:Cx}{ca:Nat->Addr}{o e f:Expr}{mo me mf:ME}{p pos apos:Pos}
theorem mP:QD ca X (.Dict [] [] pos) jK:=λpn Φ=>Zb (aO (X:=QI X ca pn Φ)) λσ H Q ⟨σ3,g,μ,R,q⟩=>λt ht=>q _ _ (μ++[t]) (ZC ht) (R.g.push ht ⟨[],Qy,.nil⟩) (.ref (by rw[<-R.g.len];simp))
theorem OX{i:Expr}{mi:ME}{pos':Pos}(ho:QD ca X o mo)(hi:QD ca X i mi)(he:QD ca X e me)(hs:swapsWithSole [.Subscript o i pos'] e pos.line X.env=pure false:=by rfl)(hw:swappedStores [.Subscript o i pos'] e X.env=pure none:=by rfl)(h1:(assignEach [.Subscript o i pos'] X.env).map (·.2)=[assign (.Subscript o i pos') X.env]:=by rfl)(ha:∀v,assign (.Subscript o i pos') X.env v=(do
   let ov <-holding [v] (eval o X.env)
   let iv <-holding [v,ov] (eval i X.env)
   standAt pos'
   holding [v,ov,iv] (setItem ov iv v)
   release [v,ov,iv] []):=by intro _;rfl):HH ca X (.Assign [.Subscript o i pos'] e pos) (GS mo mi me):=
 λpn Φ=>Z0 (Ld (X:=QI X ca pn Φ) (he pn Φ) (Ot (X:=QI X ca pn Φ) (ho pn Φ) (hi pn Φ) aP ha) hs hw h1) λE σ H ⟨σ3,g,μ,R,p⟩=>⟨σ3,g,μ,R,by
  unfold GS at p;cases hm:me σ3 g with
  |ok y g1=>
   rw[hm]at p;dsimp only at p;intro vy H1 μ1 e1 r1 q1;refine⟨σ3,g1,μ1,R.go e1 r1,?_⟩;cases hm2:mo σ3 g1 with
   |ok d g2=>
    rw[hm2]at p;intro vx H2 μ2 e2 r2 q2;cases q2 with
    |@ref n a hn=>
     dsimp only at p;refine⟨σ3,g2,μ2,R.go (e1.trans e2) r2,?_⟩;cases hm3:mi σ3 g2 with
     |ok di g3=>
      rw[hm3]at p;intro vi H3 μ3 e3 r3 q3;cases q3 with
      |str k=>
       dsimp only at p;cases hg:g3[n]? with
       |none=>rw[hg]at p;exact p.elim|some ob=>
        rw[hg]at p;obtain⟨a',ha',orp⟩:=r3.addr hg;rw[e3.at hn]at ha';cases ha';cases ob with
        |dct ks=>
         dsimp only at p;obtain⟨kv,hH,q⟩:=orp;by_cases z:ks.length<SZ
         ·rw[Ud z]at p;have ex:Ext X.K μ3 H3 μ3 (Zi H3 a (.dK (GN kv (.inr k) vy))):=ZZ hH (by intro _ z;cases z) (by intro _ _ z;cases z);refine⟨a,kv,.inr k,rfl,rfl,hH,by rw[Paired.length q];exact Uu z Y0,?_⟩;refine p σ _ μ3 (((e1.trans e2).trans e3).trans ex) ((R.go ((e1.trans e2).trans e3) r3).go ex ?_);exact r3.set (e3.at hn) hH (by intro _ z;cases z) (by intro _ _ z;cases z) ⟨_,Qy,(q.mono ex).put _ (((q1.mono e2).mono e3).mono ex)⟩
         ·rw[Uf z]at p;exact p.elim
        |_=>exact p.elim
      |_=>exact p.elim
     |raise _ _=>rw[hm3]at p;exact(RaP.stmt R p).go (e1.trans e2)|stuck=>rw[hm3]at p;exact p
    |_=>exact p.elim
   |raise _ _=>rw[hm2]at p;exact(RaP.stmt R p).go e1|stuck=>rw[hm2]at p;exact p
  |raise _ _=>rw[hm]at p;exact RaP.stmt R p|stuck=>rw[hm]at p;exact p⟩
end
end L3
namespace L3
open PySem
def FI(x y:D)(g:G):Res D:=match x,y with
 |.int i,.int j=>.ok (.int (if j<i then j else i)) g|_,_=>.stuck
def aQ(x y:D)(g:G):Res D:=match x,y with
 |.int i,.int j=>.ok (.int (if i<j then j else i)) g|_,_=>.stuck
def Gj(o e:ME):ME:=λσ g=>(o σ g).bind λx g1=>match x with
 |.ref n=>(match g1[n]? with
  |some (.lst _)=>(e σ g1).bind λy g2=>(match y with
   |.ref m=>(match g2[n]?,g2[m]? with
    |some (.lst ds),some (.lst es)=>if n≠m/\ds.length+es.length<=SZ then .ok .non (g2.set n (.lst (ds++es))) else .stuck
    |_,_=>.stuck)
   |_=>.stuck)
  |_=>.stuck)
 |_=>.stuck
open PySem.Spec PyProof.Rows L2
section
variable{X:Cx}
theorem Sm{kvs:List (B6×V)}{vs:List (B6×Value)}(rel:KV kvs vs):kvs.map (·.1)=vs.map (·.1):=by
 unfold KV at rel;induction rel with
 |nil=>rfl|cons h t ih=>rw[UL,UL,ih,h.1]
theorem aR:IxR X (λx y H Q=>∃a kvs k v,x=.ref a/\y=kV k/\H a=some (.dK kvs)/\B2 kvs k=some v/\Q v H):=by intro value slice pins s σ H x y v u Q I rx ry h hs;obtain⟨a,kvs,k,w,rfl,rfl,e,l,q⟩:=h;cases rx;obtain⟨z,hd,vs,rel,dd⟩:=GP I.hok e;obtain⟨w',hw,rw'⟩:=RelO.some_of (v:=w) (o:=valueAt vs k) (by rw[<-l];exact rel.val k);exact tail_any dd.typeIs RM.lookup (wpAny_getItem_of (Nc ry) dd.mapOf hw ⟨_,H,I.tok _,rw',q⟩) hs
end
section
variable{X:Cx}{ca:Nat->Addr}{a b e f o:Expr}{ma mb me mf mo:ME}{p pos apos:Pos}
theorem KRel.keys{K:Frag}{μ:List Addr}{H:Hp}{kv:List (B6×V)}{ks:List (B6×D)}(r:KRel K μ H kv ks):kv.map (·.1)=ks.map (·.1):=by
 unfold KRel at r;induction r with
 |nil=>rfl|cons h t ih=>rw[UL,UL,ih,h.1]
theorem aS{x:Str}{id:String}{r:List V->Hp->VK->Prop}{h:D->D->G->Res D}(hc:∀pn Φ,JL (QI X ca pn Φ) (.builtin id) r)(hm:X.mg x=none)(hv:bootBuiltins x=some (.builtin id))(hp:∀(Φ:XS) (σ:L2.St) (H:Hp) (μ:List Addr) (g:G) (y z:V) (d c:D) (Q:VK),GRep X.K ca μ H g->Den X.K μ H y d->Den X.K μ H z c->Post X.K ca Φ σ Q H μ (h d c g)->r [y,z] H Q)(he:QD ca X e me)(hf:QD ca X f mf)(hg:Gl X x)(hn:x ≠"__name__")(hdb:(x==("__debug__" : Str))=false)(hs:starEach [e,f] X.env=(false,eval e X.env)::starEach [f] X.env)(hs2:starEach [f] X.env=(false,eval f X.env)::starEach [] X.env)(hpl:(backTo pos (starEach [f] X.env)).any (·.1)=false):QD ca X (.Call (.Name x p) [e,f] [] pos) (Qd h me mf):=
 λpn Φ=>Zb (Vn (X:=QI X ca pn Φ) (hc pn Φ) hg hm hv (ZH he (ZH hf Qm hs2) hs pn Φ) hn hdb hs hpl) λσ H Q hQ=>by
  obtain⟨σ3,g,μ,R,q⟩:=hQ;refine⟨σ3,g,μ,R,?_⟩;unfold Qd at q;unfold Qc Qi;cases hm:me σ3 g with
  |raise _ _=>rw[hm]at q;exact q|stuck=>rw[hm]at q;exact q.elim|ok d g1=>
   rw[hm,Res.bind_ok]at q;rw[Res.bind_ok];cases hm2:mf σ3 g1 with
   |raise _ _=>rw[hm2]at q;exact q|stuck=>rw[hm2]at q;exact q.elim|ok c g2=>
    rw[hm2,Res.bind_ok]at q;rw[Res.bind_ok,Res.bind_ok,Res.bind_ok];intro vs H1 μ1 e1 r1 q1;cases q1 with
    |cons h1 h2=>cases h2 with
     |cons h2 h3 =>cases h3;exact hp Φ σ H1 μ1 g2 _ _ d c Q r1 h1 h2 (q.go e1)
theorem LF(hc:X.calm=true)(hm:X.mg "min"=none)(he:QD ca X e me)(hf:QD ca X f mf)(hg:Gl X "min":=by rfl)(hs:starEach [e,f] X.env=(false,eval e X.env)::starEach [f] X.env:=by rfl)(hs2:starEach [f] X.env=(false,eval f X.env)::starEach [] X.env:=by rfl)(hpl:(backTo pos (starEach [f] X.env)).any (·.1)=false:=by rfl):
  QD ca X (.Call (.Name "min" p) [e,f] [] pos) (Qd FI me mf):=
 aS (λpn Φ=>Ab (X:=QI X ca pn Φ) hc) hm boot_min (λΦ σ H μ g y z d c Q r q1 q2 pp=>by
  unfold FI at pp;cases q1 with
  |int i=>
   cases q2 with
   |int j=>exact⟨i,j,rfl,pp _ H μ .refl r (.int _)⟩|_=>exact pp.elim
  |_=>cases q2<;>exact pp.elim) he hf hg (by decide) (by decide) hs hs2 hpl
theorem mQ(hc:X.calm=true)(hm:X.mg "max"=none)(he:QD ca X e me)(hf:QD ca X f mf)(hg:Gl X "max":=by rfl)(hs:starEach [e,f] X.env=(false,eval e X.env)::starEach [f] X.env:=by rfl)(hs2:starEach [f] X.env=(false,eval f X.env)::starEach [] X.env:=by rfl)(hpl:(backTo pos (starEach [f] X.env)).any (·.1)=false:=by rfl):
  QD ca X (.Call (.Name "max" p) [e,f] [] pos) (Qd aQ me mf):=
 aS (λpn Φ=>Aa (X:=QI X ca pn Φ) hc) hm boot_max (λΦ σ H μ g y z d c Q r q1 q2 pp=>by
  unfold aQ at pp;cases q1 with
  |int i=>
   cases q2 with
   |int j=>exact⟨i,j,rfl,pp _ H μ .refl r (.int _)⟩|_=>exact pp.elim
  |_=>cases q2<;>exact pp.elim) he hf hg (by decide) (by decide) hs hs2 hpl
theorem aT(ho:QD ca X o mo)(he:QD ca X e me)(hbase:attributeBase o "extend" X.env (eval o X.env)=eval o X.env:=by rfl)(hfew:((backTo pos (starEach [e] X.env)).all (λx=>!x.1)&&(backToKw pos (keywordEach [] X.env)).all (λx=>x.1.isSome)&&decide ([e].length+([]:List Keyword).length+(if ([]:List Keyword).isEmpty then 0 else 1)<30))=true:=by rfl)(hline:(apos.endLine==pos.line)=true:=by rfl)(hs:starEach [e] X.env=(false,eval e X.env)::starEach [] X.env:=by rfl)(hplain:(backTo pos (starEach [] X.env)).any (·.1)=false:=by rfl):
  QD ca X (.Call (.Attribute o "extend" apos) [e] [] pos) (Gj mo me):=
 λpn Φ=>Zb (iZ (X:=QI X ca pn Φ) RU PySem.F.slot_list_extend PySem.F.type_list_extend Ai (ho pn Φ) (ZH he Qm hs pn Φ) hbase hfew hline hs hplain) λσ H Q ⟨σ3,g,μ,R,q⟩=>Zg (YZ R q) λx H1 hQ=>by
  obtain⟨d,g1,μ1,e1,R1,q1,p1⟩:=hQ;cases q1 with
  |@ref n t hn=>
   dsimp only at p1;cases hgn:g1[n]? with
   |none=>rw[hgn]at p1;exact p1.elim|some ob=>
    rw[hgn]at p1;obtain⟨t',ht',orp⟩:=R1.g.addr hgn;rw[hn]at ht';cases ht';cases ob with
    |lst ds0=>
     obtain⟨vs0,hH0,_⟩:=orp;dsimp only at p1;refine⟨.inl ⟨rfl,_,.of hH0⟩,σ3,g1,μ1,R1,?_⟩;unfold Qc Qi;cases hm:me σ3 g1 with
     |raise _ _=>rw[hm]at p1;exact p1|stuck=>rw[hm]at p1;exact p1.elim|ok y g2=>
      rw[hm,Res.bind_ok]at p1;rw[Res.bind_ok,Res.bind_ok];intro vs H2 μ2 e2 r2 q2;cases q2 with
      |cons h1 h2=>
       cases h2;cases h1 with
       |@ref m c hmm=>
        dsimp only at p1;cases hg2:g2[n]? with
        |none=>rw[hg2]at p1;exact p1.elim|some ob2=>
         cases hg3:g2[m]? with
         |none=>rw[hg2,hg3]at p1;cases ob2<;>exact p1.elim|some ob3=>
          rw[hg2,hg3]at p1;obtain⟨t',ht',orp⟩:=r2.addr hg2;rw[e2.at hn]at ht';cases ht';obtain⟨c',hc',orp3⟩:=r2.addr hg3;rw[hmm]at hc';cases hc';cases ob2 with
          |lst ds=>
           cases ob3 with
           |lst es=>
            obtain⟨ws,hH,qs⟩:=orp;obtain⟨zs,hH3,qz⟩:=orp3;dsimp only at p1;by_cases z:n≠m/\ds.length+es.length<=SZ
            ·rw[Ud z]at p1;have ex:Ext X.K μ2 H2 μ2 (Zi H2 t (.lst (ws++zs))):=ZZ hH (by intro _ z;cases z) (by intro _ _ z;cases z);refine⟨t,c,ws,zs,rfl,rfl,hH,hH3,by rw[qs.length,qz.length];exact Uo z.2 Y0,p1 _ _ μ2 (e2.trans ex) ?_ .non⟩;exact r2.set (e2.at hn) hH (by intro _ z;cases z) (by intro _ _ z;cases z) ⟨_,Qy,(qs.mono ex).append (qz.mono ex)⟩
            ·rw[Uf z]at p1;exact p1.elim
           |_=>exact p1.elim
          |_=>cases ob3<;>exact p1.elim
       |_=>exact p1.elim
    |_=>exact p1.elim
  |_=>exact p1.elim
end
end L3
namespace L3
open PySem
def Jo(ks:List (SKd×D))(k:SKd):Option D:=(ks.find? λp=>decide (p.1=k)).map (·.2)
def OY(ks:List (SKd×D))(k:SKd)(v:D):List (SKd×D):=if (Jo ks k).isSome then ks.map λp=>if p.1=k then (p.1,v) else p else ks++[(k,v)]
def JX(τ:Nat):ME:=λ_ g=>.ok (.ref g.length) (g++[.dcn τ []])
def jL(x y:D)(g:G)(f:List (SKd×D)->SKd->Res D):Res D:=match y with
 |.ref n=>(match g[n]? with
  |some (.dcn τ ks)=>(match Ki τ x with
   |some k=>f ks k|none=>.stuck)
  |_=>.stuck)
 |_=>.stuck
def aU(x y:D)(g:G):Res D:=jL x y g λks k=>.ok (.bl (Jo ks k).isSome) g
def El(x y:D)(g:G):Res D:=jL x y g λks k=>.ok (.bl (!(Jo ks k).isSome)) g
def gC(x y:D)(g:G):Res D:=jL y x g λks k=>(match Jo ks k with
 |some v=>.ok v g|none=>.stuck)
def Cy(o k v:ME):MS:=λσ g=>match v σ g with
 |.ok y g1=>(match o σ g1 with
  |.ok (.ref n) g2=>(match k σ g2 with
   |.ok d g3=>(match g3[n]? with
    |some (.dcn τ ks)=>(match Ki τ d with
     |some k=>if ks.length<SZ then .nx σ (g3.set n (.dcn τ (OY ks k y))) else .stuck
     |none=>.stuck)
    |_=>.stuck)
   |.raise e g'=>.raise e σ g'|_=>.stuck)
  |.raise e g'=>.raise e σ g'|_=>.stuck)
 |.raise e g'=>.raise e σ g'|.stuck=>.stuck
open PySem.Spec PyProof.Rows L2
section
variable{X:Cx}{pins:YD}{σ:L2.St}{H:Hp}{s:Shared}{μ:List Addr}
theorem Em(I:Inv X pins σ H s):∀{ds:List D}{vs:List V}{its:List Value}{ks:List (List Int)},Dens X.K μ H vs ds->Vals vs its->YY ds=some ks->NK.Al ((NK.lstV (NK.intV X.prog X.w)).is s.heap) ks its
 |[],_,_,_,.nil,.nil,h=>by cases h;exact .nil
 |.tup es::r,_,_,ks,.cons q qs,.cons rv rvs,h=>by
  unfold YY at h;cases h1:Xx es with
  |none=>rw[h1]at h;cases h|some x=>
   cases h2:YY r with
   |none=>rw[h1,h2]at h;cases h|some y =>rw[h1,h2]at h;cases h;exact .cons (Bf I q rv h1) (Em I qs rvs h2)
theorem VJ{v:V}{vs:List V}{us:List Value}(h:Vals (v::vs) us):∃u ts,us=u::ts/\RelV v u/\Vals vs ts:=by
 cases h with
 |cons a b=>exact⟨_,_,rfl,a,b⟩
theorem Eo(q:Den X.K μ H v d)(rv:RelV v u)(h:DO d=some i):(NK.intV X.prog X.w).is s.heap i u:=by
 cases q with
 |int j=>cases h;obtain⟨t,rfl⟩:=rv;show Value.isInt i (.int i t)=true;simp[Value.isInt]|_=>cases h
theorem aV(I:Inv X pins σ H s)(q:Den X.K μ H v d)(rv:RelV v u)(h:lQ d=some ks):(NK.grV X.prog X.w).is s.heap ks u:=by
 cases q with
 |tup a b=>exact Bf I (.tup a b) rv h|_=>cases h
theorem gD(I:Inv X pins σ H s)(q:Den X.K μ H v d)(rv:RelV v u)(h:jD d=some ks):(NK.lstV (NK.grV X.prog X.w)).is s.heap ks u:=by
 cases q with
 |tup ht hs =>cases rv;obtain⟨its,r1,r2⟩:=M0 I ht;exact⟨_,its,rfl,r2,Em I hs r1 h⟩|_=>cases h
theorem mR(I:Inv X pins σ H s)(ht:SqT X.K H a vs)(hs:Dens X.K μ H vs ds)(h:ctO ds=some k):(NK.tagV X.prog X.w 1).is s.heap k (.ref a):=by
 obtain⟨its,r1,r2⟩:=M0 I ht;cases hs with
 |nil=>cases h|cons q1 hs=>cases hs with
  |nil=>cases h|cons q2 hs=>cases hs with
   |nil=>cases h|cons q3 hs=>cases hs with
    |nil=>cases h|cons q4 hs=>cases hs with
     |cons _ _=>cases h|nil =>obtain⟨x,h1,h⟩:=Te.mp h;obtain⟨i,h2,h⟩:=Te.mp h;obtain⟨j,h3,h⟩:=Te.mp h;obtain⟨y,h4,h⟩:=Te.mp h;cases h;obtain⟨u1,_,rfl,v1,r1⟩:=VJ r1;obtain⟨u2,_,rfl,v2,r1⟩:=VJ r1;obtain⟨u3,_,rfl,v3,r1⟩:=VJ r1;obtain⟨u4,_,rfl,v4,r1⟩:=VJ r1;cases r1;exact⟨rfl,_,_,_,_,_,rfl,r2,aV I q1 v1 h1,Eo q2 v2 h2,Eo q3 v3 h3,aV I q4 v4 h4⟩
theorem mS(I:Inv X pins σ H s)(ht:SqT X.K H a vs)(hs:Dens X.K μ H vs ds)(h:vO ds=some k):(NK.tagV X.prog X.w 2).is s.heap k (.ref a):=by
 obtain⟨its,r1,r2⟩:=M0 I ht;cases hs with
 |nil=>cases h|cons q1 hs=>cases hs with
  |nil=>cases h|cons q2 hs=>cases hs with
   |nil=>cases h|cons q3 hs=>cases hs with
    |cons _ _=>cases h|nil =>obtain⟨x,h1,h⟩:=Te.mp h;obtain⟨i,h2,h⟩:=Te.mp h;obtain⟨j,h3,h⟩:=Te.mp h;cases h;obtain⟨u1,_,rfl,v1,r1⟩:=VJ r1;obtain⟨u2,_,rfl,v2,r1⟩:=VJ r1;obtain⟨u3,_,rfl,v3,r1⟩:=VJ r1;cases r1;exact⟨rfl,_,_,_,_,rfl,r2,Eo q1 v1 h1,Eo q2 v2 h2,gD I q3 v3 h3⟩
theorem Xk(I:Inv X pins σ H s)(q:Den X.K μ H v d)(rv:RelV v u)(h:Ki τ d=some k):(NK.tagV X.prog X.w τ).is s.heap k u:=by
 cases q with
 |tup ht hs=>
  cases rv;unfold Ki at h;dsimp only at h;by_cases z:τ=0
  ·subst z;obtain⟨g,h1,rfl⟩:=US.mp h;exact⟨rfl,Bf I (.tup ht hs) rfl h1⟩
  ·rw[Uf z]at h;by_cases z:τ=1
   ·subst z;exact mR I ht hs h
   ·rw[Uf z]at h;by_cases z:τ=2
    ·subst z;exact mS I ht hs h
    ·rw[Uf z]at h;cases h
 |_=>cases h
theorem NRel.mem{K:Frag}{τ:Nat}{xs:List (NK.SK×Addr×Value)}{ks:List (NK.SK×D)}(h:NRel K τ μ H xs ks):∀x∈xs,∃d,Ki τ d=some x.1/\Den K μ H (.ref x.2.1) d:=by
 unfold NRel at h;induction h with
 |nil=>intro x hx;cases hx|cons a _ ih=>intro x hx;rcases Uz.mp hx with rfl|z;exact a.2.1;exact ih x z
theorem NRel.get{K:Frag}{τ:Nat}{xs:List (NK.SK×Addr×Value)}{ks:List (NK.SK×D)}(h:NRel K τ μ H xs ks)(k:NK.SK):(atKey xs k=none/\Jo ks k=none)\/∃p d v,atKey xs k=some p/\Jo ks k=some d/\RelV v p.2/\Den K μ H v d:=by
 unfold NRel at h;induction h with
 |nil=>exact .inl ⟨rfl,rfl⟩|@cons x q l1 l2 a _ ih=>
  unfold atKey Jo at ih ⊢;rw[Tk,Tk];obtain⟨e,_,v,r1,r2⟩:=a;by_cases hk:x.1=k
  ·rw[Uv hk,Uv (e ▸ hk)];exact .inr ⟨_,_,v,rfl,rfl,r1,r2⟩
  ·rw[Ut hk,Ut (λz=>hk (e.trans z))];exact ih
theorem NRel.isSome{K:Frag}{τ:Nat}{xs:List (NK.SK×Addr×Value)}{ks:List (NK.SK×D)}(h:NRel K τ μ H xs ks)(k:NK.SK):(atKey xs k).isSome=(Jo ks k).isSome:=by rcases h.get k with⟨a,b⟩|⟨p,d,v,a,b,_⟩<;>rw[a,b]<;>rfl
theorem NRel.put{K:Frag}{τ:Nat}{xs:List (NK.SK×Addr×Value)}{ks:List (NK.SK×D)}{k:NK.SK}{a:Addr}{u:Value}{v:V}{dk dv:D}(h:NRel K τ μ H xs ks)(hk:Ki τ dk=some k)(hd:Den K μ H (.ref a) dk)(rv:RelV v u)(hv:Den K μ H v dv):NRel K τ μ H (storedH xs k a u) (OY ks k dv):=by
 have mp:NRel K τ μ H (xs.map (putAt k u)) (ks.map λp=>if p.1=k then (p.1,dv) else p):=by
  unfold NRel at h ⊢;induction h with
  |nil=>exact .nil|@cons x q l1 l2 b _ ih=>
   refine .cons ?_ ih;obtain⟨e,b2,b3⟩:=b;unfold putAt;dsimp only;by_cases z:x.1=k
   ·rw[Ud z,Ud (e ▸ z)];exact⟨e,b2,v,rv,hv⟩
   ·rw[Uf z,Uf (λw=>z (e.trans w))];exact⟨e,b2,b3⟩
 unfold storedH OY;rw[h.isSome k];split
 ·exact mp
 ·exact BU h ⟨rfl,⟨dk,hk,hd⟩,v,rv,hv⟩
theorem Bq{τ:Nat}{t:Addr}{xs:List (NK.SK×Addr×Value)}{ks:List (NK.SK×D)}(I:Inv X pins σ H s)(e:H t=some (ND t xs))(r:NRel X.K τ μ H xs ks)(hn:(xs.map (·.1)).Nodup):s.heap.DictOfH (NK.tagK X.prog X.w τ) t xs:=by obtain⟨⟨o,es,ep,ho,hc,hd,he⟩,_⟩:=(show ObjOk X.prog X.w H s.heap t (.ext (NK.DObj t xs)) from I.hok t _ e);refine⟨o,es,ep,ho,hc,hd,by rw[he];exact NK.ents_eq _ _ _ _,λx hx=>?_,hn⟩;obtain⟨d,h1,h2⟩:=r.mem x hx;exact Xk I h2 rfl h1
theorem XC{A:Around}{τ:Nat}(hu:A.units+16<cLine):(NK.tagK X.prog X.w τ).room A.in1:=show A.units+1+3<cLine by omega
def rN(K:Frag)(ca:Nat->Addr)(x y:V)(H:Hp)(Q:Nat->G->List Addr->Addr->List (NK.SK×D)->NK.SK->Prop):Prop:=∃(g:G)(μ:List Addr)(dx:D)(n:Nat)(t:Addr)(τ:Nat)(ks:List (NK.SK×D))(k:NK.SK),GRep K ca μ H g/\Den K μ H x dx/\Ki τ dx=some k/\y=.ref t/\μ[n]?=some t/\g[n]?=some (.dcn τ ks)/\Q τ g μ t ks k
theorem Br{K:Frag}{τ:Nat}{x:V}{d:D}{k:NK.SK}(q:Den K μ H x d)(h:Ki τ d=some k):∃a,x=.ref a:=by
 cases q with
 |tup _ _=>exact⟨_,rfl⟩|_=>cases h
end
section
variable{X:Cx}{ca:Nat->Addr}
theorem mT(hu:X.A.units+16<cLine):OpR X (compareOp .In) (λx y H Q=>rN X.K ca x y H λ_ _ _ _ ks k=>Q (.bl (Jo ks k).isSome) H):=by intro pins s σ H x y v u Q I rx ry h;obtain⟨g,μ,dx,n,t,τ,ks,k,r,q,hk,rfl,hn,hg,hQ⟩:=h;obtain⟨a,rfl⟩:=Br q hk;cases rx;cases ry;obtain⟨t',ht',xs,hH,nr,nd,hs⟩:=r.addr hg;rw[hn]at ht';cases ht';refine wpAny_in_heap (knd:=NK.tagK X.prog X.w τ) (XC hu) (Xk I q rfl hk) hs (Bq I hH nr nd) ?_;rw[nr.isSome k];exact⟨.bl _,H,I.tok _,rfl,hQ⟩
theorem AF(hu:X.A.units+16<cLine):OpR X (compareOp .NotIn) (λx y H Q=>rN X.K ca x y H λ_ _ _ _ ks k=>Q (.bl (!(Jo ks k).isSome)) H):=by intro pins s σ H x y v u Q I rx ry h;obtain⟨g,μ,dx,n,t,τ,ks,k,r,q,hk,rfl,hn,hg,hQ⟩:=h;obtain⟨a,rfl⟩:=Br q hk;cases rx;cases ry;obtain⟨t',ht',xs,hH,nr,nd,hs⟩:=r.addr hg;rw[hn]at ht';cases ht';refine wpAny_notIn_heap (knd:=NK.tagK X.prog X.w τ) (XC hu) (Xk I q rfl hk) hs (Bq I hH nr nd) ?_;rw[nr.isSome k];exact⟨.bl _,H,I.tok _,rfl,hQ⟩
theorem qP(hu:X.A.units+16<cLine):IxR X (λx y H Q=>rN X.K ca y x H λ_ _ μ _ ks k=>∃d,Jo ks k=some d/\∀v,Den X.K μ H v d->Q v H):=by
 intro value slice pins s σ H x y v u Q I rx ry h hs';obtain⟨g,μ,dx,n,t,τ,ks,k,r,q,hk,rfl,hn,hg,d,hd,hQ⟩:=h;obtain⟨a,rfl⟩:=Br q hk;cases rx;cases ry;obtain⟨t',ht',xs,hH,nr,nd,hs⟩:=r.addr hg;rw[hn]at ht';cases ht';rcases nr.get k with⟨a1,b1⟩|⟨p,d',v,a1,b1,rv,dv⟩
 ·rw[b1]at hd;cases hd
 ·rw[b1]at hd;cases hd;have dd:=Bq I hH nr nd;exact tail_any dd.typeIs RM.lookup (wpAny_getItem_heap (knd:=NK.tagK X.prog X.w τ) (XC hu) (Xk I q rfl hk) dd a1 ⟨v,H,I.tok _,rv,hQ v dv⟩) hs'
theorem Sn(x:NK.DObj a xs h):ObjOk P w H' h a (ND a xs):=by refine show NK.DObj a xs h/\_ from ⟨x,let ⟨o,_,_,ho,_⟩:=x;⟨o,ho⟩,λh1 h2 y k=>?_⟩;obtain⟨o,es,ep,ho,r⟩:=y;exact⟨o,es,ep,k o ho,r⟩
theorem qQ(hu:X.A.units+16<cLine):dU X (λo i v H Q=>rN X.K ca i o H λτ _ μ t ks k=>∃dv,Den X.K μ H v dv/\ks.length<SZ/\∀xs',NRel X.K τ μ (Zi H t (ND t xs')) xs' (OY ks k dv)->(xs'.map (·.1)).Nodup->(t==sysModules)=false->Q (Zi H t (ND t xs'))):=by intro pins s σ H o i v ov iv u Q I ro ri rv h;obtain⟨g,μ,dx,n,t,τ,ks,k,r,q,hk,rfl,hn,hg,dv,hv,hz,hQ⟩:=h;obtain⟨a,rfl⟩:=Br q hk;cases ro;cases ri;obtain⟨t',ht',xs,hH,nr,nd,hs⟩:=r.addr hg;rw[hn]at ht';cases ht';have dd:=Bq I hH nr nd;have hl:xs.length=ks.length:=Paired.length nr;refine wpAny_setItem_heap (hsz:=by rw[hl];exact TJ (Uu hz Y0)) (knd:=NK.tagK X.prog X.w τ) (XC hu) (Xk I q rfl hk) dd λh' dd' hs'=>?_;obtain⟨o,es,ep,ho,hc,hd,he,_,nd'⟩:=dd';have ex:Ext X.K μ H μ (Zi H t (ND t (storedH xs k a u))):=ZZ hH (λ_ z=>by unfold ND at z;cases z) (λ_ _ z=>by unfold ND at z;cases z);refine⟨_,Gi I (by rw[hH];exact True.intro) hs' ⟨o,ho⟩ (Sn ⟨o,es,ep,ho,hc,hd,by rw[he];exact(NK.ents_eq _ _ _ _).symm⟩),hQ _ ?_ nd' hs⟩;exact(nr.mono ex).put hk (q.mono ex) rv (hv.mono ex)
theorem aW:PE X (.Dict [] [] pos) (λ_ H Q=>∀p,H p=none->(p==sysModules)=false->Q (.ref p) (Zi H p (ND p []))):=λpins s σ H Q I h=>by obtain⟨_,hd,vs,rel,o,es,ep,ho,hc,hdat,_,hp,_⟩:=(show ObjOk X.prog X.w H _ _ (.dK []) from GQ s.heap I.big);cases rel;have he:es.toList=[]:=Bg.mp hp.length;exact wpAny_Dict_empty ⟨.ref s.heap.objs.size,_,I.laid (a:=s.heap.objs.size) (o:=ND s.heap.objs.size []) (t':=s.toks) (λ_ _ q=>Uc _ q) (Ug _) (Sn ⟨o,es,ep,ho,hc,hdat,he⟩),rfl,h _ (I.hok.fresh (Ug _)) hd⟩
end
section
variable{X:Cx}{ca:Nat->Addr}{a b o e:Expr}{ma mb mo me:ME}{pos:Pos}{k:Nat}
theorem Ep(τ:Nat):QD ca X (.Dict [] [] pos) (JX τ):=λpn Φ=>Zb (aW (X:=QI X ca pn Φ)) λσ H Q ⟨σ3,g,μ,R,q⟩=>λt ht hs=>q _ _ (μ++[t]) (ZC ht) (R.g.push ht ⟨[],Qy,.nil,.nil,hs⟩) (.ref (by rw[<-R.g.len];simp))
theorem OZ{K:Frag}{Φ:XS}{σ:L2.St}{H:Hp}{μ:List Addr}{g:G}{x y:V}{dx dy:D}{Q:VK}{f:List (NK.SK×D)->NK.SK->Res D}(r:GRep K ca μ H g)(qx:Den K μ H x dx)(qy:Den K μ H y dy)(p:Post K ca Φ σ Q H μ (jL dx dy g f)):rN K ca x y H λ_ g' μ' _ ks k=>g'=g/\μ'=μ/\Post K ca Φ σ Q H μ (f ks k):=by
 unfold jL at p;cases qy with
 |@ref n t hn=>
  dsimp only at p;cases hg:g[n]? with
  |none=>rw[hg]at p;exact p.elim|some ob=>
   rw[hg]at p;cases ob with
   |dcn τ ks=>
    dsimp only at p;cases hk:Ki τ dx with
    |none=>rw[hk]at p;exact p.elim|some k=>rw[hk]at p;exact⟨g,μ,dx,n,t,τ,ks,k,r,qx,hk,rfl,hn,hg,rfl,rfl,p⟩
   |_=>exact p.elim
 |_=>exact p.elim
theorem rN.imp{K:Frag}{x y:V}{H:Hp}{P Q:Nat->G->List Addr->Addr->List (NK.SK×D)->NK.SK->Prop}(h:rN K ca x y H P)(i:∀τ g μ t ks k,GRep K ca μ H g->P τ g μ t ks k->Q τ g μ t ks k):rN K ca x y H Q:=by obtain⟨g,μ,dx,n,t,τ,ks,k,r,q1,q2,q3,q4,q5,q6⟩:=h;exact⟨g,μ,dx,n,t,τ,ks,k,r,q1,q2,q3,q4,q5,i _ _ _ _ _ _ r q6⟩
theorem aX{K:Frag}:Z1 K ca (λx y H Q=>rN K ca x y H λ_ _ _ _ ks k=>Q (.bl (Jo ks k).isSome) H) aU:=by intro Φ σ H μ g x y dx dy Q r qx qy p;exact(OZ r qx qy p).imp λτ g' μ' t ks k r' ⟨e1,e2,p⟩=>by subst e1 e2;exact p _ H μ' .refl r' (.bl _)
theorem Nd{K:Frag}:Z1 K ca (λx y H Q=>rN K ca x y H λ_ _ _ _ ks k=>Q (.bl (!(Jo ks k).isSome)) H) El:=by intro Φ σ H μ g x y dx dy Q r qx qy p;exact(OZ r qx qy p).imp λτ g' μ' t ks k r' ⟨e1,e2,p⟩=>by subst e1 e2;exact p _ H μ' .refl r' (.bl _)
theorem aY{K:Frag}:Z1 K ca (λx y H Q=>rN K ca y x H λ_ _ μ _ ks k=>∃d,Jo ks k=some d/\∀v,Den K μ H v d->Q v H) gC:=by
 intro Φ σ H μ g x y dx dy Q r qx qy p;exact(OZ r qy qx p).imp λτ g' μ' t ks k r' ⟨e1,e2,p⟩=>by
  subst e1 e2;cases hd:Jo ks k with
  |none=>rw[hd]at p;exact p.elim|some d=>rw[hd]at p;exact⟨d,rfl,λv hv=>p v H μ' .refl r' hv⟩
theorem mU(hr:Room k X.A)(ha:QD ca X a ma)(hb:QD ca X b mb)(hm:behindInMarks .In b=false:=by rfl):Gg ca X (.Compare a [.In] [b] pos) (Ql (Qd aU ma mb)):=JG (λpn Φ=>mT (X:=QI X ca pn Φ) (by have:=hr.units;show X.A.units+16<cLine;omega)) aX ha hb hm
theorem AG(hr:Room k X.A)(ha:QD ca X a ma)(hb:QD ca X b mb)(hm:behindInMarks .NotIn b=false:=by rfl):Gg ca X (.Compare a [.NotIn] [b] pos) (Ql (Qd El ma mb)):=JG (λpn Φ=>AF (X:=QI X ca pn Φ) (by have:=hr.units;show X.A.units+16<cLine;omega)) Nd ha hb hm
theorem qR(hr:Room k X.A)(ha:QD ca X a ma)(hb:QD ca X b mb)(hs:Be b:=by exact λ_ _=>rfl):QD ca X (.Subscript a b pos) (Qd gC ma mb):=eY (λpn Φ=>qP (X:=QI X ca pn Φ) (by have:=hr.units;show X.A.units+16<cLine;omega)) aY ha hb hs
theorem So{i:Expr}{mi:ME}{pos':Pos}(hr:Room k X.A)(ho:QD ca X o mo)(hi:QD ca X i mi)(he:QD ca X e me)(hs:swapsWithSole [.Subscript o i pos'] e pos.line X.env=pure false:=by rfl)(hw:swappedStores [.Subscript o i pos'] e X.env=pure none:=by rfl)(h1:(assignEach [.Subscript o i pos'] X.env).map (·.2)=[assign (.Subscript o i pos') X.env]:=by rfl)(ha:∀v,assign (.Subscript o i pos') X.env v=(do
   let ov <-holding [v] (eval o X.env)
   let iv <-holding [v,ov] (eval i X.env)
   standAt pos'
   holding [v,ov,iv] (setItem ov iv v)
   release [v,ov,iv] []):=by intro _;rfl):HH ca X (.Assign [.Subscript o i pos'] e pos) (Cy mo mi me):=
 λpn Φ=>Z0 (Ld (X:=QI X ca pn Φ) (he pn Φ) (Ot (X:=QI X ca pn Φ) (ho pn Φ) (hi pn Φ) (qQ (ca:=ca) (by have:=hr.units;show X.A.units+16<cLine;omega)) ha) hs hw h1) λE σ H ⟨σ3,g,μ,R,p⟩=>⟨σ3,g,μ,R,by
  unfold Cy at p;cases hm:me σ3 g with
  |ok y g1=>
   rw[hm]at p;dsimp only at p;intro vy H1 μ1 e1 r1 q1;refine⟨σ3,g1,μ1,R.go e1 r1,?_⟩;cases hm2:mo σ3 g1 with
   |ok d g2=>
    rw[hm2]at p;intro vx H2 μ2 e2 r2 q2;cases q2 with
    |@ref n a hn=>
     dsimp only at p;refine⟨σ3,g2,μ2,R.go (e1.trans e2) r2,?_⟩;cases hm3:mi σ3 g2 with
     |ok di g3=>
      rw[hm3]at p;intro vi H3 μ3 e3 r3 q3;dsimp only at p;cases hg:g3[n]? with
      |none=>rw[hg]at p;exact p.elim|some ob=>
       rw[hg]at p;cases ob with
       |dcn τ ks=>
        dsimp only at p;cases hk:Ki τ di with
        |none=>rw[hk]at p;exact p.elim|some k=>
         rw[hk]at p;dsimp only at p;by_cases z:ks.length<SZ
         ·rw[Ud z]at p;refine⟨g3,μ3,di,n,a,τ,ks,k,r3,q3,hk,rfl,e3.at hn,hg,y,(q1.mono e2).mono e3,z,λxs' nr nd hsm=>?_⟩;obtain⟨a',ha',xs,hH,_⟩:=r3.addr hg;rw[e3.at hn]at ha';cases ha';have ex:Ext X.K μ3 H3 μ3 (Zi H3 a (ND a xs')):=ZZ hH (λ_ z=>by unfold ND at z;cases z) (λ_ _ z=>by unfold ND at z;cases z);refine p σ _ μ3 (((e1.trans e2).trans e3).trans ex) ((R.go ((e1.trans e2).trans e3) r3).go ex ?_);exact r3.set (e3.at hn) hH (λ_ z=>by unfold ND at z;cases z) (λ_ _ z=>by unfold ND at z;cases z) ⟨xs',Qy,nr,nd,hsm⟩
         ·rw[Uf z]at p;exact p.elim
       |_=>exact p.elim
     |raise _ _=>rw[hm3]at p;exact(RaP.stmt R p).go (e1.trans e2)|stuck=>rw[hm3]at p;exact p
    |_=>exact p.elim
   |raise _ _=>rw[hm2]at p;exact(RaP.stmt R p).go e1|stuck=>rw[hm2]at p;exact p
  |raise _ _=>rw[hm]at p;exact RaP.stmt R p|stuck=>rw[hm]at p;exact p⟩
end
end L3
namespace L3
open PySem
def Nf(o k x:ME)(f:Nat->Nat->List (SKd×D)->SKd->D->G->Res D):ME:=λσ g=>(o σ g).bind λa g1=>match a with
 |.ref n=>(match g1[n]? with
  |some (.dcn _ _)=>(k σ g1).bind λy g2=>(x σ g2).bind λz g3=>(match g3[n]? with
   |some (.dcn τ ks)=>(match Ki τ y with
    |some k=>f n τ ks k z g3|none=>.stuck)
   |_=>.stuck)
  |_=>.stuck)
 |_=>.stuck
def LG(o k x:ME):ME:=Nf o k x λ_ _ ks k z g=>.ok ((Jo ks k).getD z) g
def Vr(o k x:ME):ME:=Nf o k x λn τ ks k z g=>if ks.length<SZ then (match Jo ks k with
 |some v=>.ok v g|none=>.ok z (g.set n (.dcn τ (ks++[(k,z)])))) else .stuck
open PySem.Spec PyProof.Rows L2
section
variable{X:Cx}{ca:Nat->Addr}{o e:Expr}{es:List Expr}{to:TE}{t:TA}{name:Str}{apos cpos:Pos}{id:String}{r:V->List V->Hp->VK->Prop}
theorem mV(slot:Slot "dict" name id)(hty:typeOf (.builtin id)=pure (.type "method_descriptor"))(hm:oN X id r)(ho:PE X o to)(ha:PA X (e::es) t)(hbase:attributeBase o name X.env (eval o X.env)=eval o X.env)(hfew:((backTo cpos (starEach (e::es) X.env)).all (λx=>!x.1)&&(backToKw cpos (keywordEach [] X.env)).all (λx=>x.1.isSome)
   && decide ((e::es).length+([]:List Keyword).length+(if ([]:List Keyword).isEmpty then 0 else 1)<30))=true)(hline:(apos.endLine==cpos.line)=true)(hs:starEach (e::es) X.env=(false,eval e X.env)::starEach es X.env)(hplain:(backTo cpos (starEach es X.env)).any (·.1)=false):
  PE X (.Call (.Attribute o name apos) (e::es) [] cpos) (λσ H Q=>to σ H λx H1=>(∃p xs,x=.ref p/\H1 p=some (ND p xs))/\t σ H1 λvs H2=>r x vs H2 Q):=by
 intro pins s σ H Q I h;refine wpAny_Call_method_late hbase hfew hline rfl (ZD (ho pins s σ H _ I h) λv s1 ⟨x,H1,I1,r1,ty,q1⟩=>?_);obtain⟨p,xs,rfl,hp⟩:=ty;have r1':=r1;cases r1;obtain⟨⟨ob,ens,ep,hob,hc,hd,he⟩,_⟩:=(show ObjOk X.prog X.w H1 s1.heap p (.ext (NK.DObj p xs)) from I1.hok p _ hp);refine⟨"dict",id,Bh,slot,hty,⟨ob,hob,hc.1⟩,λa e=>by cases e;exact⟨ob,hob,hc.2.1⟩,?_⟩;have hA:=ha cpos pins s1 σ H1 _ I1 q1;rw[hs]at hA ⊢;refine Rx (by show(false||(backTo cpos (starEach es X.env)).any (·.1))=false;rw[hplain]<;>rfl) (Wz ?_);exact ZD hA λus s2 ⟨vs,H2,I2,r2,q2⟩=>hm pins s2 σ H2 _ vs _ us Q I2 r1' r2 q2
abbrev jM(K:Frag)(ca:Nat->Addr):V->List V->Hp->VK->Prop:=λx vs H Q=>∃kv dv,vs=[kv,dv]/\rN K ca kv x H λ_ _ μ _ ks k=>(∀d v,Jo ks k=some d->Den K μ H v d->Q v H)/\(Jo ks k=none->Q dv H)
abbrev jN(K:Frag)(ca:Nat->Addr):V->List V->Hp->VK->Prop:=λx vs H Q=>∃kv dv,vs=[kv,dv]/\rN K ca kv x H λτ _ μ t ks k=>ks.length<SZ/\(∀d v,Jo ks k=some d->Den K μ H v d->Q v H)/\(Jo ks k=none->∃dd,Den K μ H dv dd/\∀xs',NRel K τ μ (Zi H t (ND t xs')) xs' (ks++[(k,dd)])->(xs'.map (·.1)).Nodup->(t==sysModules)=false->Q dv (Zi H t (ND t xs')))
theorem gE(hu:X.A.units+16<cLine):oN X "dict.get" (jM X.K ca):=by
 intro pins s σ H x vs v us Q I rx rv h;obtain⟨kv,dv,rfl,g,μ,dx,n,t,τ,ks,k,r,q,hk,rfl,hn,hg,hQ,hQ2⟩:=h;obtain⟨a,rfl⟩:=Br q hk;cases rx;obtain⟨u1,u2,rfl,ru1,ru2⟩:=rv.two;cases ru1;obtain⟨t',ht',xs,hH,nr,nd,hs⟩:=r.addr hg;rw[hn]at ht';cases ht';have dd:=Bq I hH nr nd;refine WT BG dd.typeIs PySem.F.entry_dict_get (PySem.F.args_dict_get_3 _ _ _) (meetsH_dict_get_default (NK.tagK X.prog X.w τ) t a hs u2) ⟨XC hu,k,xs,Xk I q rfl hk,dd,?_⟩;rcases nr.get k with⟨a1,b1⟩|⟨p,d',v,a1,b1,rv',dv'⟩
 ·rw[a1];exact⟨dv,H,I.tok _,ru2,hQ2 b1⟩
 ·rw[a1];exact⟨v,H,I.tok _,rv',hQ d' v b1 dv'⟩
theorem AH(hu:X.A.units+16<cLine):oN X "dict.setdefault" (jN X.K ca):=by
 intro pins s σ H x vs v us Q I rx rv h;obtain⟨kv,dv,rfl,g,μ,dx,n,t,τ,ks,k,r,q,hk,rfl,hn,hg,hz0,hQ,hQ2⟩:=h;obtain⟨a,rfl⟩:=Br q hk;cases rx;obtain⟨u1,u2,rfl,ru1,ru2⟩:=rv.two;cases ru1;obtain⟨t',ht',xs,hH,nr,nd,hs⟩:=r.addr hg;rw[hn]at ht';cases ht';have dd:=Bq I hH nr nd;have hl:xs.length=ks.length:=Paired.length nr;have hz:xs.length<=sizeLine:=by rw[hl];exact TJ (Uu hz0 Y0)
 rcases nr.get k with⟨a1,b1⟩|⟨p,d',v,a1,b1,rv',dv'⟩
 ·obtain⟨de,hde,hQ2⟩:=hQ2 b1;refine WT RA dd.typeIs Wx (Wr _ _ _) (NK.meetsSetDef (knd:=NK.tagK X.prog X.w τ) (d:=t) (a:=a) hs u2) ⟨XC hu,k,xs,Xk I q rfl hk,dd,hz,(λp hp=>by rw[a1]at hp;cases hp),λ_ h' dd' hs'=>?_⟩;obtain⟨ob,ens,ep,ho,hc,hd,he,_,nd'⟩:=dd';have ex:Ext X.K μ H μ (Zi H t (ND t (xs++[(k,a,u2)]))):=ZZ hH (λ_ z=>by unfold ND at z;cases z) (λ_ _ z=>by unfold ND at z;cases z);refine⟨dv,_,Gi I (by rw[hH];exact True.intro) hs' ⟨ob,ho⟩ (Sn ⟨ob,ens,ep,ho,hc,hd,by rw[he];exact(NK.ents_eq _ _ _ _).symm⟩),ru2,hQ2 _ ?_ nd' hs⟩;exact BU (nr.mono ex) ⟨rfl,⟨dx,hk,q.mono ex⟩,dv,ru2,hde.mono ex⟩
 ·refine WT RA dd.typeIs Wx (Wr _ _ _) (NK.meetsSetDef (knd:=NK.tagK X.prog X.w τ) (d:=t) (a:=a) hs u2) ⟨XC hu,k,xs,Xk I q rfl hk,dd,hz,(λp' hp=>?_),(λhp=>by rw[a1]at hp;cases hp)⟩;rw[a1]at hp;cases hp;exact⟨v,H,I.tok _,rv',hQ d' v b1 dv'⟩
end
theorem Ng{id:String}{name:Str}{r:V->List V->Hp->VK->Prop}{F:Nat->Nat->List (NK.SK×D)->NK.SK->D->G->Res D}(slot:Slot "dict" name id)(hty:typeOf (.builtin id)=pure (.type "method_descriptor"))(hm:∀pn Φ,oN (QI X ca pn Φ) id r)(hF:∀(Φ:XS) (σ:L2.St) (H:Hp) (μ:List Addr) (g:G) (kv dv:V) (y z:D) (n:Nat) (t:Addr) (τ:Nat) (ks:List (NK.SK×D)) (k:NK.SK) (Q:VK),GRep X.K ca μ H g->Den X.K μ H kv y->Den X.K μ H dv z->Ki τ y=some k->μ[n]?=some t->g[n]?=some (.dcn τ ks)->Post X.K ca Φ σ Q H μ (F n τ ks k z g)->r (.ref t) [kv,dv] H Q)(ho:QD ca X o mo)(he:QD ca X e me)(hf:QD ca X f mf)(hbase:attributeBase o name X.env (eval o X.env)=eval o X.env)(hfew:((backTo pos (starEach [e,f] X.env)).all (λx=>!x.1)&&(backToKw pos (keywordEach [] X.env)).all (λx=>x.1.isSome)&&decide ([e,f].length+([]:List Keyword).length+(if ([]:List Keyword).isEmpty then 0 else 1)<30))=true)(hline:(apos.endLine==pos.line)=true)(hs:starEach [e,f] X.env=(false,eval e X.env)::starEach [f] X.env)(hs2:starEach [f] X.env=(false,eval f X.env)::starEach [] X.env)(hplain:(backTo pos (starEach [f] X.env)).any (·.1)=false):
  QD ca X (.Call (.Attribute o name apos) [e,f] [] pos) (Nf mo me mf F):=
 λpn Φ=>Zb (mV (X:=QI X ca pn Φ) slot hty (hm pn Φ) (ho pn Φ) (ZH he (ZH hf Qm hs2) hs pn Φ) hbase hfew hline hs hplain) λσ H Q ⟨σ3,g,μ,R,q⟩=>Zg (YZ R q) λx H1 hQ=>by
  obtain⟨d,g1,μ1,e1,R1,q1,p1⟩:=hQ;cases q1 with
  |@ref n t hn=>
   dsimp only at p1;cases hgn:g1[n]? with
   |none=>rw[hgn]at p1;exact p1.elim|some ob=>
    rw[hgn]at p1;obtain⟨t',ht',orp⟩:=R1.g.addr hgn;rw[hn]at ht';cases ht';cases ob with
    |dcn τ0 ks0=>
     obtain⟨xs0,hH0,_⟩:=orp;dsimp only at p1;refine⟨⟨t,xs0,rfl,hH0⟩,σ3,g1,μ1,R1,?_⟩;unfold Qc Qi;cases hm:me σ3 g1 with
     |raise _ _=>rw[hm]at p1;exact p1|stuck=>rw[hm]at p1;exact p1.elim|ok y g2=>
      rw[hm,Res.bind_ok]at p1;rw[Res.bind_ok];cases hm2:mf σ3 g2 with
      |raise _ _=>rw[hm2]at p1;exact p1|stuck=>rw[hm2]at p1;exact p1.elim|ok z g3=>
       rw[hm2,Res.bind_ok]at p1;rw[Res.bind_ok,Res.bind_ok,Res.bind_ok];intro vs H2 μ2 e2 r2 q2;cases q2 with
       |cons h1 h2=>cases h2 with
        |cons h2 h3=>
         cases h3;cases hg2:g3[n]? with
         |none=>rw[hg2]at p1;exact p1.elim|some ob2=>
          rw[hg2]at p1;cases ob2 with
          |dcn τ ks=>
           dsimp only at p1;cases hk:Ki τ y with
           |none=>rw[hk]at p1;exact p1.elim|some k =>rw[hk]at p1;exact hF Φ σ H2 μ2 g3 _ _ y z n t τ ks k Q r2 h1 h2 hk (e2.at hn) hg2 (p1.go e2)
          |_=>exact p1.elim
    |_=>exact p1.elim
  |_=>exact p1.elim
theorem Sr(hr:Room k X.A)(ho:QD ca X o mo)(he:QD ca X e me)(hf:QD ca X f mf)(hbase:attributeBase o "get" X.env (eval o X.env)=eval o X.env:=by rfl)(hfew:((backTo pos (starEach [e,f] X.env)).all (λx=>!x.1)&&(backToKw pos (keywordEach [] X.env)).all (λx=>x.1.isSome)&&decide ([e,f].length+([]:List Keyword).length+(if ([]:List Keyword).isEmpty then 0 else 1)<30))=true:=by rfl)(hline:(apos.endLine==pos.line)=true:=by rfl)(hs:starEach [e,f] X.env=(false,eval e X.env)::starEach [f] X.env:=by rfl)(hs2:starEach [f] X.env=(false,eval f X.env)::starEach [] X.env:=by rfl)(hplain:(backTo pos (starEach [f] X.env)).any (·.1)=false:=by rfl):
  QD ca X (.Call (.Attribute o "get" apos) [e,f] [] pos) (LG mo me mf):=
 Ng (r:=jM X.K ca) BG PySem.F.type_dict_get (λpn Φ=>gE (ca:=ca) (X:=QI X ca pn Φ) (by have:=hr.units;show X.A.units+16<cLine;omega)) (λΦ σ H μ g kv dv y z n t τ ks k Q r q1 q2 hk hn hg p=>by
  refine⟨kv,dv,rfl,g,μ,y,n,t,τ,ks,k,r,q1,hk,rfl,hn,hg,λd v h1 h2=>?_,λh1=>?_⟩
  ·rw[h1]at p;exact p v H μ .refl r h2
  ·rw[h1]at p;exact p dv H μ .refl r q2) ho he hf hbase hfew hline hs hs2 hplain
theorem Nh(hr:Room k X.A)(ho:QD ca X o mo)(he:QD ca X e me)(hf:QD ca X f mf)(hbase:attributeBase o "setdefault" X.env (eval o X.env)=eval o X.env:=by rfl)(hfew:((backTo pos (starEach [e,f] X.env)).all (λx=>!x.1)&&(backToKw pos (keywordEach [] X.env)).all (λx=>x.1.isSome)&&decide ([e,f].length+([]:List Keyword).length+(if ([]:List Keyword).isEmpty then 0 else 1)<30))=true:=by rfl)(hline:(apos.endLine==pos.line)=true:=by rfl)(hs:starEach [e,f] X.env=(false,eval e X.env)::starEach [f] X.env:=by rfl)(hs2:starEach [f] X.env=(false,eval f X.env)::starEach [] X.env:=by rfl)(hplain:(backTo pos (starEach [f] X.env)).any (·.1)=false:=by rfl):
  QD ca X (.Call (.Attribute o "setdefault" apos) [e,f] [] pos) (Vr mo me mf):=
 Ng (r:=jN X.K ca) RA PySem.F.type_dict_setdefault (λpn Φ=>AH (ca:=ca) (X:=QI X ca pn Φ) (by have:=hr.units;show X.A.units+16<cLine;omega)) (λΦ σ H μ g kv dv y z n t τ ks k Q r q1 q2 hk hn hg p=>by
  by_cases hz:ks.length<SZ
  ·rw[Ud hz]at p;refine⟨kv,dv,rfl,g,μ,y,n,t,τ,ks,k,r,q1,hk,rfl,hn,hg,hz,λd v h1 h2=>?_,λh1=>⟨z,q2,λxs' nr nd hsm=>?_⟩⟩
   ·rw[h1]at p;exact p v H μ .refl r h2
   ·rw[h1]at p;obtain⟨t',ht',xs,hH,_⟩:=r.addr hg;rw[hn]at ht';cases ht';have ex:Ext X.K μ H μ (Zi H t (ND t xs')):=ZZ hH (λ_ z=>by unfold ND at z;cases z) (λ_ _ z=>by unfold ND at z;cases z);exact p dv _ μ ex (r.set hn hH (λ_ z=>by unfold ND at z;cases z) (λ_ _ z=>by unfold ND at z;cases z) ⟨xs',Qy,nr,nd,hsm⟩) (q2.mono ex)
  ·rw[Uf hz]at p;exact p.elim) ho he hf hbase hfew hline hs hs2 hplain
end L3
namespace L3
open PySem
def oQ(x:D)(g:G)(F:List (SKd×D)->Res D):Res D:=match x with
 |.ref n=>(match g[n]? with
  |some (.dcn _ ks)=>if ks.length<=SZ then F ks else .stuck
  |_=>.stuck)
 |_=>.stuck
def Er(x:D)(g:G):Res D:=oQ x g λks=>.ok (.int ks.length) g
end L3
namespace NK
open PySem PyProof.Rows
theorem lenD{prog:Program}{w:World}{A:Around}{E:VP}{s:Shared}{d:Addr}{es:Array DictEntry}{ep:Nat}{Q:VP}(hs:(d==sysModules)=false)(hm:DE s.heap d es ep)(hfit:(es.size:Int)<2^63)(h:Q (.int es.size (s.toks+1)) {s with toks:=s.toks+1+1}):wpAny (model prog w) A (call (.builtin "len") [.ref d]) Q E s:=by
 have hT:=hm.typeIs;obtain⟨o,ho,_,hd⟩:=hm;have me:MeetsIn prog w (Builtin.«dict.__len__» ⟨[.ref d],[]⟩) (λ_ R s'=>s'=s/\R (.ok (.ret (.int es.size s.toks))) {s with toks:=s.toks+1}):=.of_wp λA R s' ⟨e,h⟩=>by subst e;show wpAny _ _ (dictSize d >>= _) _ _ s';unfold dictSize;refine Ua (Ua (Rr ho hd (Ub ?_)));show wpAny _ _ (Builtin.Dict.pendingCount d >>= _) _ _ s';exact Ua (wpAny_pendingCount_other hs (wpAny_ret_mkInt (by rw[Nat.add_zero];exact h)))
 refine Calls.call_function_entry kind_len plain_len entry_len (args_len1 _) ?_;unfold Builtin.«len»;refine Ua (m:=oneArg "len" _) (Ub ?_);refine Ua (m:=callSpecial? (.ref d) (Str.ofString "__len__")) (UG (name:=Str.ofString "__len__") hT F.slot_dict_len (WT F.slot_dict_len hT F.entry_dict_len (F.args_dict_len_1 _) me ⟨rfl,?_⟩));show wpAny _ _ _ _ _ {s with toks:=s.toks+1};refine Ua (U5 (Ub (Ua (BT ?_))));show wpAny _ _ (if ((es.size:Nat):Int)<0 then _ else _) _ _ _;rw[Uf (by omega)];show wpAny _ _ (if ((es.size:Nat):Int)>=2^63 then _ else _) _ _ _;rw[Uf (by omega)];exact Ua (wpAny_mkInt (Ub ⟨_,rfl,h⟩))
end NK
namespace L3
open PySem PySem.Spec PyProof.Rows L2
abbrev rD(K:Frag)(ca:Nat->Addr)(x:V)(H:Hp)(Q:G->List Addr->Addr->List (NK.SK×D)->Prop):Prop:=∃(g:G)(μ:List Addr)(n:Nat)(t:Addr)(τ:Nat)(ks:List (NK.SK×D)),GRep K ca μ H g/\x=.ref t/\μ[n]?=some t/\g[n]?=some (.dcn τ ks)/\ks.length<=SZ/\Q g μ t ks
theorem aZ(I:Inv X pins σ H s)(e:H t=some (ND t xs)):∃es ep,NK.DE s.heap t es ep/\es.toList=NK.ents xs:=by obtain⟨⟨o,es,ep,ho,hc,hd,he⟩,_⟩:=(show ObjOk X.prog X.w H s.heap t (.ext (NK.DObj t xs)) from I.hok t _ e);exact⟨es,ep,⟨o,ho,hc,hd⟩,he⟩
theorem KD{es:Array DictEntry}{xs:List (NK.SK×Addr×Value)}(h:es.toList=NK.ents xs):es.size=xs.length:=by rw[<-U7,h];unfold NK.ents;rw[Uh]
theorem AI:JL X (.builtin "len") (λvs H Q=>∃x,vs=[x]/\rD X.K ca x H λ_ _ _ ks=>Q (.int ks.length) H):=by intro pins s σ H vs us Q I rv h;obtain⟨x,rfl,g,μ,n,t,τ,ks,r,rfl,hn,hg,hz,hQ⟩:=h;obtain⟨u,rfl,ru⟩:=rv.one;cases ru;obtain⟨t',ht',xs,hH,nr,nd,hs⟩:=r.addr hg;rw[hn]at ht';cases ht';obtain⟨es,ep,de,he⟩:=aZ I hH;have hl:es.size=ks.length:=(KD he).trans (Paired.length nr);have h1:=Km;have h2:=Y0;have h3:sizeLine=16777216:=Td;exact NK.lenD hs de (by omega) ⟨.int ks.length,H,I.tok _,⟨s.toks+1,by rw[hl]⟩,hQ⟩
section
variable{X:Cx}{ca:Nat->Addr}{e:Expr}{me:ME}{p pos:Pos}
theorem jO{K:Frag}{Φ:XS}{σ:L2.St}{H:Hp}{μ:List Addr}{g:G}{y:V}{d:D}{Q:VK}{F:List (NK.SK×D)->Res D}(r:GRep K ca μ H g)(q:Den K μ H y d)(pp:Post K ca Φ σ Q H μ (oQ d g F)):rD K ca y H λg' μ' _ ks=>g'=g/\μ'=μ/\Post K ca Φ σ Q H μ (F ks):=by
 unfold oQ at pp;cases q with
 |@ref n t hn=>
  dsimp only at pp;cases hg:g[n]? with
  |none=>rw[hg]at pp;exact pp.elim|some ob=>
   rw[hg]at pp;cases ob with
   |dcn τ ks=>
    dsimp only at pp;by_cases z:ks.length<=SZ
    ·rw[Ud z]at pp;exact⟨g,μ,n,t,τ,ks,r,rfl,hn,hg,z,rfl,rfl,pp⟩
    ·rw[Uf z]at pp;exact pp.elim
   |_=>exact pp.elim
 |_=>exact pp.elim
theorem bA(hm:X.mg "len"=none)(he:QD ca X e me)(hg:Gl X "len":=by rfl)(hs:starEach [e] X.env=[(false,eval e X.env)]:=by rfl)(hpl:(backTo pos (starEach [] X.env)).any (·.1)=false:=by rfl):
  QD ca X (.Call (.Name "len" p) [e] [] pos) (Qt Er me):=IK (r:=λvs H Q=>∃x,vs=[x]/\rD X.K ca x H λ_ _ _ ks=>Q (.int ks.length) H) (λpn Φ=>AI (X:=QI X ca pn Φ)) hm boot_len (λΦ σ H μ g y d Q r q pp=>by obtain⟨g',μ',n,t,τ,ks,r',a1,a2,a3,a4,e1,e2,p'⟩:=jO (F:=λks=>.ok (.int ks.length) g) r q pp;subst e1 e2;exact⟨y,rfl,g',μ',n,t,τ,ks,r',a1,a2,a3,a4,p' _ H μ' .refl r' (.int _)⟩) he hg (by decide) (by decide) hs hpl
end
end L3
namespace L3
open PySem
def LH:List SKd->Option (List (List Int×Int×Int×List Int))
 |[]=>some []|.inr c::r=>(LH r).map (c :: ·)|_::_=>none
def Es(x:D)(g:G):Res D:=oQ x g λks=>match LH (ks.map (·.1)) with
 |some cs=>if cs.length<64/\cs.Nodup then .ok (.ref g.length) (g++[.unk]) else .stuck
 |none=>.stuck
def Et(x:D)(g:G):Res D:=match x with
 |.ref n=>(match g[n]? with
  |some (.lst ds)=>(match YY ds with
   |some us=>if us.length<64/\us.Nodup/\[]∉us then .ok (.ref g.length) (g++[.unk]) else .stuck
   |none=>.stuck)
  |_=>.stuck)
 |_=>.stuck
end L3
namespace NK
open PySem PyProof.Rows
abbrev grO:OV (grV prog w):=qA intO
abbrev ctO:OV (ctV prog w):=qB grO intO intO grO
theorem lt_ct(hu:A.units+4<cLine)(hx:(ctV prog w).is s.heap x u)(hy:(ctV prog w).is s.heap y u')(h:Q (ctO (prog:=prog) (w:=w) |>.lt x y) s):wpAny (model prog w) A (keyLt' (PyProof.Rows.tuples' false) u u') Q E s:=by obtain⟨r,x1,x2,x3,x4,rfl,t1,i1,i2,i3,i4⟩:=hx;obtain⟨r',y1,y2,y3,y4,rfl,t2,j1,j2,j3,j4⟩:=hy;exact Ix (dep:=1) (os:=IA (prog:=prog) (w:=w) grO intO intO grO x y) (by omega) t1 t2 (.cons (grO.at' (Ug _) i1 j1) (.cons (intO.at' (T3 _) i2 j2) (.cons (intO.at' (T3 _) i3 j3) (.cons (grO.at' (Ug _) i4 j4) .nil)))) (λz=>by cases z) h
open Classical in
def bB(h:Heap)(v:Value):Value:=if e:∃u a us,v=.ref a/\Tp h a us/\us.head?=some u then e.choose else v
theorem bC(ht:Tp h a us)(hu:us.head?=some u):bB h (.ref a)=u:=by have e:∃u b us,Value.ref a=.ref b/\Tp h b us/\us.head?=some u:=⟨u,a,us,rfl,ht,hu⟩;unfold bB;rw[dif_pos e];obtain⟨b,vs,e1,e2,e3⟩:=e.choose_spec;injection e1 with e1;subst e1;rw[ht.inj e2,e3]at hu;injection hu
abbrev Fst(s:Shared)(T:String)(u:Value):Prop:=∃a us x,u=.ref a/\Tp s.heap a us/\us.head?=some x/\s.TypeIs x T
theorem gr_first(hk:k≠[])(h:(grV prog w).is s.heap k u):Fst s "int" u:=by
 obtain⟨a,us,rfl,t,al⟩:=h;cases al with
 |nil=>exact absurd rfl hk|cons x _ =>obtain⟨t',rfl⟩:=Rq x;exact⟨a,_,_,rfl,t,rfl,typeIs_int s _ _⟩
theorem ct_first(h:(ctV prog w).is s.heap k u):Fst s "tuple" u:=by obtain⟨r,x,y,z,q,rfl,t,⟨b,us,rfl,t2,_⟩,_⟩:=h;exact⟨r,_,_,rfl,t,rfl,t2.typeIs⟩
theorem sorted_keys{K:Type}[DecidableEq K]{v:VK prog w K}(o:OV v)(T:String){r:Value}{us:List Value}{ks:List K}{Q:VP}(hu:A.units+16<cLine)(al:Al (v.is s.heap) ks us)(hn:ks.Nodup)(h64:ks.length<64)(hl:∀{A:Around} {s:Shared} {x y:K} {u u':Value} {E:VP} {Q:Bool->Shared->Prop},A.units+4<cLine->v.is s.heap x u->v.is s.heap y u'->Q (o.lt x y) s->wpAny (model prog w) A (keyLt' (PyProof.Rows.tuples' (Value.type T != .type "tuple")) u u') Q E s)(hf:∀{s:Shared} {k:K} {u:Value},k∈ks->v.is s.heap k u->Fst s T u)(hc:∀{R:List Value->Shared->Prop},(∀h' tk,(∀b o,s.heap.get? b=some o->h'.get? b=some o)->R us {s with heap:=h',toks:=tk})->wpAny (model prog w) A.in1 (collect r) R E s)(h:∀(h1 h':Heap) (tk:Nat) (out:Array Value) (e:Nat),(∀b o,s.heap.get? b=some o->h1.get? b=some o)->(∀b o,h1.get? b=some o->h'.get? b=some o)->h'.get? h1.objs.size=some (seqObj "list" out e)->out.toList.length<64->(∀u∈out.toList,∃a,u=.ref a)->Q (.ref h1.objs.size) {s with heap:=h',toks:=tk}):
  wpAny (model prog w) A (call (.builtin "sorted") [r]) Q E s:=by
 have kp':∀{k u h'},v.is s.heap k u->(∀b o,s.heap.get? b=some o->h'.get? b=some o)->v.is h' k u:=λhk kp=>v.keeps hk λb o _ _ e _=>kp b o e;refine OH (kd:=PyProof.Rows.tuples' (Value.type T != .type "tuple")) (rk:=o.rk s.heap ks) (vs:=us) (by rw[<-al.len];exact h64) hc (λh' tk kp=>?_) (λh2 h' tk kp Q hq=>?_) λh1 h' tk out e k1 k2 hg hp _=>?_
 ·exact lL o al hn λx y u u' _ _ hx hy {E Q} hQ=>hl (s:={s with heap:=h',toks:=tk}) (show A.units+1+1+4<cLine by omega) (kp' hx kp) (kp' hy kp) hQ
 ·have fk:∀v∈us,Fst {s with heap:=h',toks:=tk} T v:=λv hv=>by obtain⟨k,m,hk⟩:=al.has v hv;exact hf m (kp' hk kp)
  refine NZ.kind_tup (fst:=bB h') (T:=T) (λz=>by rw[z]at h2;exact absurd h2 (by decide)) (λv hv=>?_) (λv hv=>?_) hq
  ·obtain⟨a,vs,x,rfl,t,hx,_⟩:=fk v hv;exact⟨a,vs,rfl,t,by rw[bC t hx];exact hx⟩
  ·obtain⟨a,vs,x,rfl,t,hx,ty⟩:=fk v hv;rw[bC t hx];exact ty
 ·refine h h1 h' tk _ e k1 k2 hg (by rw[U7,BQ,hp.size_eq,Wi,<-al.len];exact h64) λu hm=>?_;rw[Array.toList_map]at hm;obtain⟨p,hp1,rfl⟩:=TK.mp hm;have:=(RG.mp hp).mem_iff.mp hp1;rw[pairsOf_toList]at this;obtain⟨q1,q2⟩:=mem_zip_self this;obtain⟨k,m,hk⟩:=al.has _ q2;obtain⟨a,_,_,z,_⟩:=hf m hk;exact⟨a,by rw[<-q1];exact z⟩
end NK
namespace L3
open PySem PySem.Spec PyProof.Rows L2
theorem IN:∀{outs:List Value},(∀u∈outs,∃a,u=.ref a)->∃ws:List V,Vals ws outs/\ws.length=outs.length
 |[],_=>⟨[],.nil,rfl⟩|u::outs,h=>by obtain⟨a,rfl⟩:=h u (Ux ..);obtain⟨ws,w,e⟩:=IN λv hv=>h v (Uw _ hv);exact⟨.ref a::ws,.cons rfl w,by simp[e]⟩
theorem FJ{K:Type}[DecidableEq K]{v:NK.VK X.prog X.w K}(o:NK.OV v)(T:String){r:Value}{us:List Value}{ks:List K}{Q:VK}(I:Inv X pins σ H s)(hu:X.A.units+16<cLine)(al:NK.Al (v.is s.heap) ks us)(hn:ks.Nodup)(h64:ks.length<64)(hl:∀{A:Around} {s:Shared} {x y:K} {u u':Value} {E:VP} {Q:Bool->Shared->Prop},A.units+4<cLine->v.is s.heap x u->v.is s.heap y u'->Q (o.lt x y) s->wpAny (model X.prog X.w) A (keyLt' (PyProof.Rows.tuples' (Value.type T != .type "tuple")) u u') Q E s)(hf:∀{s:Shared} {k:K} {u:Value},k∈ks->v.is s.heap k u->NK.Fst s T u)(hc:∀{R:List Value->Shared->Prop},(∀h' tk,(∀b o,s.heap.get? b=some o->h'.get? b=some o)->R us {s with heap:=h',toks:=tk})->wpAny (model X.prog X.w) X.A.in1 (collect r) R X.xe s)(h:∀l ws,H l=none->Q (.ref l) (Zi H l (.lst ws))):wpAny (model X.prog X.w) X.A (call (.builtin "sorted") [r]) (EP X pins σ Q) X.xe s:=by
 refine NK.sorted_keys o T hu al hn h64 hl hf hc λh1 h' tk out e k1 k2 hg l2 hm=>?_;obtain⟨ws,w1,w2⟩:=IN hm;have I1:Inv X pins σ H {s with heap:=h1,toks:=s.toks}:=I.kept k1;have hl:ws.length<=sizeLine:=by have:=Td;omega
 exact⟨.ref h1.objs.size,_,I1.laid (a:=h1.objs.size) (o:=.lst ws) (t':=tk) k2 (Ug _) (show ObjOk X.prog X.w _ _ _ (.lst ws) from ⟨hl,out.toList,e,w1,by simpa using hg⟩),rfl,h _ ws (I1.hok.fresh (Ug _))⟩
section
variable{X:Cx}{ca:Nat->Addr}
theorem mW{K:Frag}{τ:Nat}{μ:List Addr}{H:Hp}{xs:List (NK.SK×Addr×Value)}{ks:List (NK.SK×D)}(h:NRel K τ μ H xs ks):ks.map (·.1)=xs.map (·.1):=by
 unfold NRel at h;induction h with
 |nil=>rfl|cons a _ ih=>rw[UL,UL,ih,a.1]
theorem bD{τ:Nat}{h:Heap}:∀{xs:List (NK.SK×Addr×Value)}{cs:List (List Int×Int×Int×List Int)},LH (xs.map (·.1))=some cs->(∀x∈xs,(NK.tagV X.prog X.w τ).is h x.1 (.ref x.2.1))->NK.Al ((NK.ctV X.prog X.w).is h) cs (xs.map λx=>Value.ref x.2.1)
 |[],_,e,_=>by cases e;exact .nil
 | (.inr c,_)::r,cs,e,hx=>by have e:(LH (r.map (·.1))).map (c :: ·)=some cs:=e;obtain⟨y,e1,rfl⟩:=US.mp e;exact .cons (hx _ (Ux ..)).2 (bD e1 λx hm=>hx x (Uw _ hm))
 | (.inl _,_)::_,_,e,_=>by cases e
 | (.sh _,_)::_,_,e,_=>by cases e
theorem O0{es:Array DictEntry}{xs:List (NK.SK×Addr×Value)}{acc:Array Value}(he:es.toList=NK.ents xs)(ha:ItemsOf (λi v=>∃h:i<es.size,v=es[i].key) acc es.size):acc.toList=xs.map λx=>Value.ref x.2.1:=by
 apply List.ext_getElem?;intro j;rw[Uy];by_cases hj:j<acc.size
 ·have e0:acc[j]?=some acc[j]:=WS _ j hj;obtain⟨hj',e1⟩:=ha.2 j _ e0;have e2:es.toList[j]?=some es[j]:=by simp[hj']
  rw[he]at e2;unfold NK.ents at e2;rw[Uy]at e2;cases hx:xs[j]? with
  |none=>rw[hx]at e2;cases e2|some y =>rw[hx]at e2;injection e2 with e2;rw[Wk,e0,e1,<-e2];rfl
 ·have hl:=KD he;have h1:=ha.1;rw[TM (by rw[U7];omega),TM (by omega)];rfl
theorem LI(hc:X.calm=true)(hu:X.A.units+16<cLine):JL X (.builtin "sorted") (λvs H Q=>∃x,vs=[x]/\rD X.K ca x H λ_ _ _ ks=>∃cs,LH (ks.map (·.1))=some cs/\cs.length<64/\cs.Nodup/\∀l ws,H l=none->Q (.ref l) (Zi H l (.lst ws))):=by intro pins s σ H vs us Q I rv h;obtain⟨x,rfl,g,μ,n,t,τ,ks,r,rfl,hn,hg,hz,cs,hcs,h64,hnd,hQ⟩:=h;obtain⟨u,rfl,ru⟩:=rv.one;cases ru;obtain⟨t',ht',xs,hH,nr,nd,hs⟩:=r.addr hg;rw[hn]at ht';cases ht';obtain⟨es,ep,de,he⟩:=aZ I hH;have hmem:=nr.mem;refine FJ NK.ctO "tuple" (us:=xs.map λx=>Value.ref x.2.1) I hu (bD (by rw[<-mW nr];exact hcs) λx hx=>let ⟨d,h1,h2⟩:=hmem x hx;Xk I h2 rfl h1) hnd h64 NK.lt_ct (λ_ hk=>NK.ct_first hk) (λ{R} hR=>?_) hQ;have hl:es.size=ks.length:=(KD he).trans (Paired.length nr);have h2:=Y0;refine kdu_collect (NK.srcK (es:=es) (ep:=ep) hs) (I.ok.hd hc) de (by omega) λh' tk acc kp hacc=>?_;rw[O0 he hacc];exact hR h' tk kp
theorem LJ(hu:X.A.units+16<cLine):JL X (.builtin "sorted") (λvs H Q=>∃(p:Addr)(ys:List V)(ds:List D)(g:G)(μ:List Addr)(ks:List (List Int)),vs=[.ref p]/\H p=some (.lst ys)/\Dens X.K μ H ys ds/\YY ds=some ks/\(ks.length<64/\ks.Nodup/\[]∉ks)/\∀l ws,H l=none->Q (.ref l) (Zi H l (.lst ws))):=by
 intro pins s σ H vs us Q I rv h;obtain⟨p,ys,ds,g,μ,ks,rfl,hH,qs,hk,⟨h64,hnd,hok⟩,hQ⟩:=h;obtain⟨u,rfl,ru⟩:=rv.one;cases ru;obtain⟨its,rvs,pl,hz⟩:=I.list (.of hH);have al:=Em I qs rvs hk;have hlen:its.length<=sizeLine:=by rw[<-al.len];have:=Td;omega
 refine FJ NK.grO "int" (us:=its) I hu al hnd h64 NK.lt_grams (λm hk=>NK.gr_first (λz=>hok (z ▸ m)) hk) (λ{R} hR=>?_) hQ;exact collect_list pl.isList (hR _ _ λb o e=>(Heap.get?_update_ne _ _ _ _ (UH (Ul e))).trans (Uc _ e)) hlen
end
theorem AJ(hr:Room k X.A)(hc:X.calm=true)(hm:X.mg "sorted"=none)(he:QD ca X e me)(hg:Gl X "sorted":=by rfl)(hs:starEach [e] X.env=[(false,eval e X.env)]:=by rfl)(hpl:(backTo pos (starEach [] X.env)).any (·.1)=false:=by rfl):
  QD ca X (.Call (.Name "sorted" p) [e] [] pos) (Qt Es me):=
 IK (r:=λvs H Q=>∃x,vs=[x]/\rD X.K ca x H λ_ _ _ ks=>∃cs,LH (ks.map (·.1))=some cs/\cs.length<64/\cs.Nodup/\∀l ws,H l=none->Q (.ref l) (Zi H l (.lst ws))) (λpn Φ=>LI (X:=QI X ca pn Φ) hc (by have:=hr.units;show X.A.units+16<cLine;omega)) hm boot_sorted (λΦ σ H μ g y d Q r q pp=>by
  obtain⟨g',μ',n,t,τ,ks,r',a1,a2,a3,a4,e1,e2,p'⟩:=jO r q pp;subst e1 e2;cases hcs:LH (ks.map (·.1)) with
  |none=>rw[hcs]at p';exact p'.elim|some cs=>
   rw[hcs]at p';dsimp only at p';by_cases z:cs.length<64/\cs.Nodup
   ·rw[Ud z]at p';exact⟨y,rfl,g',μ',n,t,τ,ks,r',a1,a2,a3,a4,cs,hcs,z.1,z.2,λl ws hl=>p' _ _ (μ'++[l]) (ZC hl) (r'.push hl ⟨_,Qy⟩) (.ref (by rw[<-r'.len];simp))⟩
   ·rw[Uf z]at p';exact p'.elim) he hg (by decide) (by decide) hs hpl
theorem AK(hr:Room k X.A)(hm:X.mg "sorted"=none)(he:QD ca X e me)(hg:Gl X "sorted":=by rfl)(hs:starEach [e] X.env=[(false,eval e X.env)]:=by rfl)(hpl:(backTo pos (starEach [] X.env)).any (·.1)=false:=by rfl):
  QD ca X (.Call (.Name "sorted" p) [e] [] pos) (Qt Et me):=
 IK (r:=λvs H Q=>∃(p:Addr)(ys:List V)(ds:List D)(g:G)(μ:List Addr)(ks:List (List Int)),vs=[.ref p]/\H p=some (.lst ys)/\Dens X.K μ H ys ds/\YY ds=some ks/\(ks.length<64/\ks.Nodup/\[]∉ks)/\∀l ws,H l=none->Q (.ref l) (Zi H l (.lst ws))) (λpn Φ=>LJ (X:=QI X ca pn Φ) (by have:=hr.units;show X.A.units+16<cLine;omega)) hm boot_sorted (λΦ σ H μ g y d Q r q pp=>by
  unfold Et at pp;cases q with
  |@ref n t hn=>
   dsimp only at pp;cases hgn:g[n]? with
   |none=>rw[hgn]at pp;exact pp.elim|some ob=>
    rw[hgn]at pp;obtain⟨t',ht',orp⟩:=r.addr hgn;rw[hn]at ht';cases ht';cases ob with
    |lst ds=>
     obtain⟨ys,hH,qs⟩:=orp;dsimp only at pp;cases h0:YY ds with
     |none=>rw[h0]at pp;exact pp.elim|some ks=>
      rw[h0]at pp;dsimp only at pp;by_cases z:ks.length<64/\ks.Nodup/\[]∉ks
      ·rw[Ud z]at pp;exact⟨t,ys,ds,g,μ,ks,rfl,hH,qs,h0,z,λl ws hl=>pp _ _ (μ++[l]) (ZC hl) (r.push hl ⟨_,Qy⟩) (.ref (by rw[<-r.len];simp))⟩
      ·rw[Uf z]at pp;exact pp.elim
    |_=>exact pp.elim
  |_=>exact pp.elim) he hg (by decide) (by decide) hs hpl
end L3
namespace NK
open PySem PyProof.Rows
theorem Fc:fillsNumberSlot (.type "tuple") "mul"=pure false:=PySem.fillsNumberSlot_seq (id:="tuple.__mul__") (r:=some (.builtin "tuple.__rmul__")) Bl.lookup (by decide +kernel) F.slot_tuple_rmul.lookup (by decide +kernel)
theorem LK:seqRepeat? (.type "tuple")=pure (some (.builtin "tuple.__mul__")):=by unfold seqRepeat?;rw[PySem.seqSlot_of (T:="tuple") (name:="__mul__") (id:="tuple.__mul__") Bl.lookup (by decide +kernel),PySem.seqSlot_of (T:="tuple") (name:="__rmul__") (id:="tuple.__rmul__") F.slot_tuple_rmul.lookup (by decide +kernel)];rfl
theorem O1(a:Int)(t:Tok)(l:Addr)(cls:Value)(dd:Option Addr)(items:Array Value)(n:Nat)(sl:Array (Option Value))(hc:cls=.type "tuple"):
  Meets (Builtin.«int.__rmul__» ⟨[.int a t,.ref l],[]⟩) (λ_ R s=>s.heap.get? l=some {cls:=cls,dict:=dd,data:=.seq items n,slots:=sl}/\R (.ok (.ret Value.notImplemented)) s):=
 .of_wp λprog w A R s h=>by subst hc;obtain⟨hp,g,d,tk,os⟩:=s;obtain⟨hl,h⟩:=h;wp_walk;exact⟨_,rfl,h⟩
theorem IO(xs:Array Value):∀(m:Nat)(acc:Array Value),((List.replicate m xs).foldl (· ++ ·) acc).size=acc.size+m*xs.size
 |0,acc=>by simp
 |m+1,acc=>by rw[T7,List.foldl_cons,IO xs m,Array.size_append,Nat.add_mul];omega
theorem bE{a:Addr}{us:List Value}{n:Int}{t:Tok}{Q:VP}(ht:Tp s.heap a us)(hne:us≠[])(h1:1<=n)(hz:(us.length:Int)*n<=100000)(hq1:n=1->Q (.ref a) s)(hq2:n≠1->Q (.ref s.heap.objs.size) {s with heap:=s.heap.push {cls:=.type "tuple",data:=.seq ((List.replicate n.toNat us.toArray).foldl (· ++ ·) #[])} }):wpAny (model prog w) A (call (.builtin "tuple.__mul__") [.ref a,.int n t]) Q E s:=by
 have hT:=ht.typeIs;obtain⟨o,items,k,ho,hc,hd,rfl⟩:=ht;refine UE Bl hT F.entry_tuple_mul ?_ (F.args_tuple_mul_2 _ _);have hpos:0<items.size:=by
  rcases Nat.eq_zero_or_pos items.size with z|z
  ·exact absurd (by simpa using z) hne
  ·exact z
 have hle:n<=100000:=by rw[U7]at hz;have:(1:Int)*n<=(items.size:Int)*n:=Int.mul_le_mul_of_nonneg_right (by omega) (by omega);omega
 have hemp:items.isEmpty=false:=by
  cases h:items.isEmpty with
  |false=>rfl|true=>exact absurd hpos (by rw[Array.isEmpty_iff.mp h];decide)
 show wpAny _ _ (asIndex (.int n t) >>= _) _ _ s;refine Ua (m:=asIndex (.int n t)) (TD (a:=n) rfl ?_);dsimp only;rw[Uf (by simp only[WK,TF];omega)];refine Ua (Rg ho hd ?_);rw[hemp];by_cases e:n=1
 ·subst e;rw[Ud (by rfl)];unfold Builtin.Tuple.tupleIsExact;refine Ua (Ua (RB hT (Ub ?_)));rw[Ud (by rfl)];exact Ua (TL (Ub ⟨_,rfl,hq1 rfl⟩))
 ·rw[Uf (by simpa using e),Uf (by simp only[Bool.or_false,TF];omega)];rw[U7]at hz;rw[Uf (by show ¬((items.size:Int)*n>(2^63-1) / 8);omega)];have hm:Builtin.Tuple.tupleTooMany ((items.size:Int)*n)=false:=by unfold Builtin.Tuple.tupleTooMany;have:=Td;rw[Ut (by omega)]
  rw[Uf (by rw[hm];exact Ue)];unfold Builtin.Tuple.tupleExact;refine Ua (UB (Ub ⟨_,rfl,hq2 e⟩) (hd:=by
   have hs:=IO items n.toNat #[];have h0:((n.toNat*items.size:Nat):Int)=(items.size:Int)*n:=by rw[Int.natCast_mul,RO (by omega),Int.mul_comm]
   have:=Td;have h3:n.toNat*items.size<=100000:=by omega
   simp only[sizeOk,hs];simp;omega))
theorem mul_tup{a:Addr}{us:List Value}{n:Int}{t:Tok}{Q:VP}(ht:Tp s.heap a us)(hne:us≠[])(h1:1<=n)(hz:(us.length:Int)*n<=100000)(hq1:n=1->Q (.ref a) s)(hq2:n≠1->Q (.ref s.heap.objs.size) {s with heap:=s.heap.push {cls:=.type "tuple",data:=.seq ((List.replicate n.toNat us.toArray).foldl (· ++ ·) #[])} }):wpAny (model prog w) A (binaryOp .Mult (.ref a) (.int n t)) Q E s:=by
 have hT:=ht.typeIs;obtain⟨⟨cls,dd,data,sl⟩,items,k,ho,hc,hd,e⟩:=id ht;simp only at hc hd;subst hd;refine wpAny_binaryOp_repeat_ref (T:="tuple") (U:="int") (by decide) hT (λs'=>typeIs_int s' n t) Fc F.fills_int_mul F.slot_int_rmul LK F.slot_int_index.lookup
  (By F.slot_int_rmul (typeIs_int s n t) F.entry_int_rmul (F.args_int_rmul_2 _ _) (O1 n t a cls dd items k sl hc) ⟨ho,rfl,hT,bE ht hne h1 hz hq1 hq2⟩)
end NK
namespace L3
open PySem
def Ss(x y:D)(g:G):Res D:=match x,y with
 |.tup [d],.int n=>if 1<=n/\n<=1000 then .ok (.tup (List.replicate n.toNat d)) g else .stuck
 |_,_=>.stuck
open PySem.Spec PyProof.Rows L2
theorem Ni(u:Value):∀(m:Nat)(acc:List Value),((List.replicate m #[u]).foldl (· ++ ·) acc.toArray)=(acc++List.replicate m u).toArray
 |0,acc=>by simp
 |m+1,acc=>by rw[T7,List.foldl_cons,show acc.toArray ++ #[u]=(acc++[u]).toArray by simp,Ni u m,T7];simp
theorem Nj(h:RelV v u):∀m,Vals (List.replicate m v) (List.replicate m u)
 |0=>.nil|m+1=>.cons h (Nj h m)
theorem Nk{K:Frag}{μ:List Addr}{H:Hp}{v:V}{d:D}(h:Den K μ H v d):∀m,Dens K μ H (List.replicate m v) (List.replicate m d)
 |0=>.nil|m+1=>.cons h (Nk h m)
def jP(K:Frag):R2:=λx y H Q=>∃a v n,x=.ref a/\y=.int n/\SqT K H a [v]/\1<=n/\n<=1000/\(n=1->Q (.ref a) H)/\(n≠1->∀l,H l=none->Q (.ref l) (Zi H l (.tup (List.replicate n.toNat v))))
theorem gG:OpR X (binaryOp .Mult) (jP X.K):=by intro pins s σ H x y v u Q I rx ry h;obtain⟨a,w,n,rfl,rfl,ha,h1,h2,q1,q2⟩:=h;cases rx;obtain⟨t,rfl⟩:=ry;obtain⟨its,r1,tp⟩:=M0 I ha;obtain⟨u,rfl,ru⟩:=r1.one;refine NK.mul_tup tp (by simp) h1 (by simp;omega) (λe=>⟨.ref a,H,I,rfl,q1 e⟩) λe=>?_;have ef:=Ni u n.toNat [];rw[List.nil_append]at ef;have ef:(List.replicate n.toNat [u].toArray).foldl (· ++ ·) #[]=(List.replicate n.toNat u).toArray:=ef;rw[ef];refine⟨.ref s.heap.objs.size,_,I.laid (t':=s.toks) (o:=.tup (List.replicate n.toNat w)) (λb ob q=>Uc _ q) (Ug _) ?_,rfl,q2 e _ (I.hok.fresh (Ug _))⟩;exact⟨by rw[U1];have:=Td;omega,_,Nj ru _,IsTup.new _ _⟩
theorem mX(ha:QD ca X a ma)(hb:QD ca X b mb):QD ca X (.BinOp a .Mult b pos) (Qd Ss ma mb):=
 GD (r:=jP X.K) (λpn Φ=>gG (X:=QI X ca pn Φ)) (λΦ σ H μ g x y dx dy Q r qx qy p=>by
  unfold Ss at p;cases qx with
  |@tup ax xs dsx hx hsx=>
   cases qy with
   |int n=>
    cases hsx with
    |nil=>exact p.elim|cons q1 qs=>
     cases qs with
     |nil=>
      dsimp only at p;by_cases z:1<=n/\n<=1000
      ·rw[Ud z]at p;refine⟨ax,_,n,rfl,rfl,hx,z.1,z.2,λe=>?_,λ_ l hl=>p _ _ μ (Q3 hl) (r.new hl) (.tup (.of Qy) ((Nk q1 _).mono (Q3 hl)))⟩;subst e;exact p _ H μ .refl r (.tup hx (.cons q1 .nil))
      ·rw[Uf z]at p;exact p.elim
     |cons _ _=>exact p.elim
   |_=>cases hsx with
    |nil=>exact p.elim|cons _ qs=>cases qs<;>exact p.elim
  |_=>exact p.elim) ha hb
end L3
namespace L3
open PySem
def ZP(x y:D)(g:G):Res D:=match x,y with
 |.ref n,.str z=>(match g[n]? with
  |some (.dct ks)=>(match GR ks (.inr z) with
   |some v=>.ok v g|none=>.stuck)
  |_=>.stuck)
 |_,_=>.stuck
open PySem.Spec PyProof.Rows L2
theorem AL{K:Frag}:Z1 K ca (λx y H Q=>∃a kvs k v,x=.ref a/\y=kV k/\H a=some (.dK kvs)/\B2 kvs k=some v/\Q v H) ZP:=by
 intro Φ σ H μ g x y dx dy Q r qx qy p;unfold ZP at p;cases qx with
 |@ref n t hn=>
  cases qy with
  |str i=>
   dsimp only at p;cases hg:g[n]? with
   |none=>rw[hg]at p;exact p.elim|some ob=>
    rw[hg]at p;obtain⟨t',ht',orp⟩:=r.addr hg;rw[hn]at ht';cases ht';cases ob with
    |dct ks=>
     obtain⟨kv,hH,q⟩:=orp;dsimp only at p;rcases q.get (.inr i) with⟨a,b⟩|⟨v,d,a,b,c⟩
     ·rw[b]at p;exact p.elim
     ·rw[b]at p;exact⟨t,kv,.inr i,v,rfl,rfl,hH,a,p v H μ .refl r c⟩
    |_=>exact p.elim
  |_=>exact p.elim
 |_=>exact p.elim
theorem VL(ha:QD ca X a ma)(hb:QD ca X b mb)(hs:Be b:=by exact λ_ _=>rfl):QD ca X (.Subscript a b pos) (Qd ZP ma mb):=eY (λ_ _=>aR) AL ha hb hs
end L3
namespace L3
open PySem
def Su(f:SKd×D->D)(x:D)(g1:G):Res Src:=match x with
 |.ref n=>(match g1[n]? with
  |some (.dcn τ ks)=>.ok ⟨λ_ i=>some (ks.map f)[i]?,ks.length⟩ (g1.set n (.dcf τ ks))|_=>.stuck)
 |_=>.stuck
def bF(f:SKd×D->D)(e:ME):MI:=λσ g=>(e σ g).bind (Su f)
def bG:=bF λp=>p.2
open PySem.Spec PyProof.Rows L2
def qS(a:Addr)(o:Obj)(xs:List (NK.SK×Addr×Value))(ws:List V):It:=⟨λi H=>H a=some (.frz o (ND a xs))/\i<xs.length,λi H x H'=>H'=H/\ws[i]?=some x,λi H=>H a=some (.frz o (ND a xs))/\xs.length<=i⟩
theorem Sv:∀{ws:List V}{us:List Value},Vals ws us->∀{i:Nat}{u:Value},us[i]?=some u->∃x,ws[i]?=some x/\RelV x u
 |_,_,.nil,i,u,h=>by cases h
 |_,_,.cons a r,0,u,h=>by cases h;exact⟨_,rfl,a⟩
 |_,_,.cons a r,i+1,u,h=>Sv r h
theorem Sw(I:Inv X pins σ H s)(e:H a=some (.frz o (ND a xs)))(hoe:o.data=.dict es ep):NK.DE s.heap a es ep/\es.toList=NK.ents xs:=by obtain⟨ho,⟨o',es',ep',ho',hc,hd,he⟩,_⟩:=(show ObjOk X.prog X.w H s.heap a (.frz o (.ext (NK.DObj a xs))) from I.hok a _ e);rw[ho]at ho';cases ho';rw[hoe]at hd;cases hd;exact⟨⟨o,ho,hc,hoe⟩,he⟩
theorem gH{es:Array DictEntry}{xs:List (NK.SK×Addr×Value)}(h:es.toList=NK.ents xs){i:Nat}(hi:i<es.size)(hx:i<xs.length):es[i].key=.ref xs[i].2.1/\es[i].val=xs[i].2.2:=by
 have e1:es.toList[i]?=some es[i]:=by simp[hi]
 rw[h]at e1;unfold NK.ents at e1;rw[Uy,U6 hx]at e1;injection e1 with e1;rw[<-e1];exact⟨rfl,rfl⟩
theorem mY(b:Bool){P:Program}{w:World}{K:Frag}{tg:Expr}(a it:Addr){o:Obj}{es:Array DictEntry}{ep:Nat}{xs:List (NK.SK×Addr×Value)}{ws:List V}(hoe:o.data=.dict es ep)(hv:Vals ws (xs.map λx=>if b=true then x.2.2 else .ref x.2.1)):Turn P w K tg (qS a o xs ws) [it] it (λi h=>NK.itIs b h it a i es.size ep) where
 mem:=by simp
 obj:=λi h st b' hb=>by
  have e:b'=it:=by simpa using hb
  subst e;cases b;all_goals
   obtain⟨o,e,c,d⟩:=id st;exact⟨o,e,λv z=>by rw[d]at z;cases z⟩
 keep:=λi h h' st k=>by
  cases b;all_goals
   obtain⟨o,e,c⟩:=id st;exact⟨o,k it (by simp) o e,c⟩
 item:=by
  intro X hP hw hK hc i pins s σ H E I hf st hg;subst hP hw hK;obtain⟨e,hi⟩:=hg;obtain⟨de,he⟩:=Sw I e hoe;obtain⟨f0,f1,f2,f3,f4,f5⟩:=hf it (by simp);have hsz:=KD he;have hi':i<es.size:=by omega
  refine NK.next_item b st de hi' λh' st' sb=>?_;have I1:Inv X pins σ H {s with heap:=h'}:=I.turned (t':=s.toks) (λb o hb e=>(sb.2 b hb).trans e) f0 f1 f3 f4 f5;obtain⟨v,hw,rv⟩:=Sv hv (i:=i) (u:=if b=true then xs[i].2.2 else .ref xs[i].2.1) (by simp[hi]);obtain⟨k1,k2⟩:=gH he hi' hi;rw[k1,k2];refine⟨_,rfl,?_⟩;have fin:∃x H',Inv X pins σ H' {s with heap:=h'}/\RelV x (if b=true then xs[i].2.2 else .ref xs[i].2.1)/\(qS a o xs ws).yld i H x H'/\NK.itIs b h' it a (i+1) es.size ep/\∀b∈[it],H' b=none:=⟨v,H,I1,rv,⟨rfl,hw⟩,st',λb hb=>(hf b hb).1⟩;cases b;all_goals
   obtain⟨ob,e',c,d⟩:=id st';exact Gs (s:={s with heap:=h'}) e' c d (by decide) fin
 done:=by intro X hP hw hK hc i pins s σ H E I hf st hg;subst hP hw hK;obtain⟨e,hi⟩:=hg;obtain⟨de,he⟩:=Sw I e hoe;obtain⟨f0,f1,f2,f3,f4,f5⟩:=hf it (by simp);have hsz:=KD he;exact NK.next_end b (I.ok.hd hc) st de (by omega) λh' eb=>⟨rfl,I.turned (t':=s.toks) (λb o hb e=>eb b o hb e) f0 f1 f3 f4 f5⟩
 self:=λ_ _ _ _ _ st h=>by
  cases b
  ·exact WB st h
  ·exact wpAny_pyIter_valiter st h
theorem gI(I:Inv X pins σ H s)(e:H a=some (ND a xs))(ho:s.heap.get? a=some o):Inv X pins σ (Zi H a (.frz o (ND a xs))) s:=by obtain⟨x,_⟩:=(show ObjOk X.prog X.w H s.heap a (.ext (NK.DObj a xs)) from I.hok a _ e);exact I.write (x:=a) (e:=a) (h':=s.heap) (t':=s.toks) (o:=.frz o (ND a xs)) (by rw[e];trivial) (.inl rfl) (λ_ _ _ h=>h) ⟨o,ho⟩ ⟨ho,Sn x⟩
theorem gJ{tg l:Expr}{tl:TE}{apos cpos:Pos}(hl:PE X l tl)(hbase:attributeBase l "values" X.env (eval l X.env)=eval l X.env)(hline:(apos.endLine==cpos.line)=true):
  PI X tg (.Call (.Attribute l "values" apos) [] [] cpos) (λσ H R=>tl σ H λx H1=>∃a xs ws,x=.ref a/\H1 a=some (ND a xs)/\(a==sysModules)=false/\Vals ws (xs.map λx=>x.2.2)/\∀o,R (qS a o xs ws) (Zi H1 a (.frz o (ND a xs)))):=by
 intro pins s σ H R I h;refine wpAny_Call_method0_late hbase hline (ZD (hl pins s σ H _ I h) λv s1 ⟨x,H1,I1,r1,q1⟩=>?_);obtain⟨a,xs,ws,rfl,e,hs,hv,q⟩:=q1;cases r1;obtain⟨es,ep,de,he⟩:=aZ I1 e;obtain⟨o,ho,hc,hd⟩:=id de;have I2:=gI I1 e ho;refine⟨"dict","dict.values",Bh,Bb,rfl,⟨o,ho,hc.1⟩,λa e=>by cases e;exact⟨o,ho,hc.2.1⟩,?_⟩;refine Rx rfl (PySem.evalArgs_none ?_);refine WT Bb de.typeIs PySem.F.entry_dict_values (PySem.F.args_dict_values_1 _) (NK.valuesK hs) ⟨⟨es,ep,de⟩,?_⟩;have kp:∀b ob,s1.heap.get? b=some ob->(s1.heap.push {cls:=.type "dict_values",data:=.fields #[.ref a]}).get? b=some ob:=λb ob e=>Uc _ e;refine NK.iterV (s:={s1 with heap:=s1.heap.push {cls:=.type "dict_values",data:=.fields #[.ref a]} }) ⟨_,Uk _ rfl,rfl,rfl⟩ (de.at' λo e=>kp _ _ e) ?_;have I3:Inv X pins σ (Zi H1 a (.frz o (ND a xs))) {s1 with heap:=s1.heap.push {cls:=.type "dict_values",data:=.fields #[.ref a]} }:=I2.kept (t':=s1.toks) kp;refine⟨_,[_],_,_,_,rfl,I3.kept (t':=s1.toks) λb o e=>Uc _ e,mY true a _ hd hv,⟨_,Uk _ rfl,rfl,rfl⟩,λb hb=>?_,q o⟩;have e:b=(s1.heap.push {cls:=.type "dict_values",data:=.fields #[.ref a]}).objs.size:=by simpa using hb
 subst e;exact I3.fpOk (Ug _) (I3.hok.fresh (Ug _))
theorem Sx{K:Frag}{μ:List Addr}{H:Hp}:∀{ws:List V}{ds:List D},Dens K μ H ws ds->∀{i:Nat}{x:V},ws[i]?=some x->∃d,ds[i]?=some d/\Den K μ H x d
 |_,_,.nil,i,u,h=>by cases h
 |_,_,.cons a r,0,u,h=>by cases h;exact⟨_,rfl,a⟩
 |_,_,.cons a r,i+1,u,h=>Sx r h
theorem qT{K:Frag}{μ:List Addr}{H:Hp}{a:Addr}{o:Obj}{xs:List (NK.SK×Addr×Value)}{ws:List V}{ds:List D}{n:Nat}(h:H a=some (.frz o (ND a xs)))(hl:xs.length=ds.length)(dn:Dens K μ H ws ds):As K ca μ H ⟨λ_ i=>some ds[i]?,n⟩ (qS a o xs ws):=by
 intro i H1 μ1 g1 e r;dsimp only;have h1:=e.frz _ _ _ h;by_cases hi:i<ds.length
 ·rw[U6 hi];exact⟨⟨h1,by omega⟩,λx H' y=>by obtain⟨rfl,y1⟩:=y;obtain⟨d,z1,z2⟩:=Sx dn y1;rw[U6 hi]at z1;cases z1;exact⟨.refl,r,z2.mono e⟩⟩
 ·rw[TM (Ra hi)];exact⟨h1,by omega⟩
theorem qU{K:Frag}{τ:Nat}{μ:List Addr}{H:Hp}{xs:List (NK.SK×Addr×Value)}{ks:List (NK.SK×D)}(h:NRel K τ μ H xs ks):∃ws,Vals ws (xs.map λx=>x.2.2)/\Dens K μ H ws (ks.map λp=>p.2):=by
 unfold NRel at h;induction h with
 |nil=>exact⟨[],.nil,.nil⟩|cons a _ ih =>obtain⟨_,_,v,h1,h2⟩:=a;obtain⟨ws,h3,h4⟩:=ih;exact⟨v::ws,.cons h1 h3,.cons h2 h4⟩
def qV(K:Frag)(ca:Nat->Addr)(Φ:XS)(σ:L2.St)(R:It->Hp->Prop)(H:Hp)(μ:List Addr):Res Src->Prop
 |.ok src g'=>∀J H' μ',Ext K μ H μ' H'->GRep K ca μ' H' g'->As K ca μ' H' src J->R J H'|.raise x g'=>RaP K ca Φ σ H μ x g'|.stuck=>False
theorem mZ{K:Frag}{f:NK.SK×D->D}{u:NK.SK×Addr×Value->Value}{R:It->Hp->Prop}{Φ:XS}{σ:L2.St}{H H1:Hp}{μ μ1:List Addr}{g1:G}{v:V}{d:D}(e1:Ext K μ H μ1 H1)(r1:GRep K ca μ1 H1 g1)(q1:Den K μ1 H1 v d)(hS:∀τ μ H xs ks,NRel K τ μ H xs ks->∃ws,Vals ws (xs.map u)/\Dens K μ H ws (ks.map f))(p:qV K ca Φ σ R H μ (Su f d g1)):∃a xs ws,v=.ref a/\H1 a=some (ND a xs)/\(a==sysModules)=false/\Vals ws (xs.map u)/\∀o,R (qS a o xs ws) (Zi H1 a (.frz o (ND a xs))):=by
 unfold Su at p;cases q1 with
 |@ref n a hn=>
  dsimp only at p;cases hg:g1[n]? with
  |none=>rw[hg]at p;exact p.elim|some ob=>
   rw[hg]at p;obtain⟨a',ha',orp⟩:=r1.addr hg;rw[hn]at ha';cases ha';cases ob with
   |dcn τ ks =>obtain⟨xs,hH,nr,nd,hs⟩:=orp;have ex:∀o,Ext K μ1 H1 μ1 (Zi H1 a (.frz o (ND a xs))):=λo=>ZZ hH (λ_ z=>by unfold ND at z;cases z) (λ_ _ z=>by unfold ND at z;cases z);obtain⟨ws,hv,dn⟩:=hS _ _ _ _ _ nr;exact⟨a,xs,ws,rfl,hH,hs,hv,λo=>p _ _ μ1 (e1.trans (ex o)) (r1.set hn hH (λ_ z=>by unfold ND at z;cases z) (λ_ _ z=>by unfold ND at z;cases z) ⟨o,xs,Qy,nr.mono (ex o),nd,hs⟩) (qT Qy ((Paired.length nr).trans (Uh ..).symm) (dn.mono (ex o)))⟩
   |_=>exact p.elim
 |_=>exact p.elim
theorem qW(he:QD ca X e me)(hbase:attributeBase e "values" X.env (eval e X.env)=eval e X.env:=by rfl)(hline:(apos.endLine==cpos.line)=true:=by rfl):Dj ca X tg (.Call (.Attribute e "values" apos) [] [] cpos) (bG me):=
 λpn Φ=>Xj (gJ (X:=QI X ca pn Φ) (he pn Φ) hbase hline) λσ H R hQ=>by
  obtain⟨σ3,g,μ,Rp,p⟩:=hQ;unfold bG bF at p;refine⟨σ3,g,μ,Rp,?_⟩;cases hm:me σ3 g with
  |raise _ _=>rw[hm]at p;exact p|stuck=>rw[hm]at p;exact p.elim|ok d g1 =>rw[hm,Res.bind_ok]at p;intro v H1 μ1 e1 r1 q1;exact mZ (Φ:=Φ) (σ:=σ) e1 r1 q1 (λτ μ H xs ks nr=>qU nr) p
end L3
namespace L3
open PySem
def Cz:List D->Option (List (Str×D))
 |[]=>some []|.str k::v::r=>(Cz r).map ((k,v) :: ·)|_=>none
def O2(ks:List (DK×D)):List (Str×D)->List (DK×D)
 |[]=>ks| (k,v)::r=>O2 (Cw ks (.inr k) v) r
def GT(n:Nat)(ds:List D)(g':G):Res D:=match Cz ds,g'[n]? with
 |some ps,some (.dct [])=>if ps.length<=15 then .ok (.ref n) (g'.set n (.dct (O2 [] ps))) else .stuck
 |_,_=>.stuck
def VM(a:MA):ME:=λσ g=>(a σ (g++[.dct []])).bind (GT g.length)
open PySem.Spec PyProof.Rows L2
def bH(ps:List (Value×Value)):List Value:=ps.flatMap λp=>[p.1,p.2]
def PP(X:Cx)(pos:Pos)(ks:List (Option Expr))(vs:List Expr)(t:TA):Prop:=∀(pins:YD)(s:Shared)(σ:L2.St)(H:Hp)(Q:List V->Hp->Prop),Inv X pins σ H s->t σ H Q->wpAny (model X.prog X.w) X.A (evalPairs (pairTrees ks vs X.env pos)) (λps s1=>AP X pins σ Q (bH ps) s1) X.xe s
def sJ(ca:Nat->Addr)(X:Cx)(pos:Pos)(ks:List (Option Expr))(vs:List Expr)(m:MA):Prop:=∀pn Φ,PP (QI X ca pn Φ) pos ks vs (DP X.K ca Φ m)
theorem gK(hk:PE X k tk)(hv:PE X v tv)(hr:PP X pos ks vs t):PP X pos (some k::ks) (v::vs) (λσ H Q=>tk σ H λx H1=>tv σ H1 λy H2=>t σ H2 λws H3=>Q (x::y::ws) H3):=by intro pins s σ H Q I h;refine evalPairs_cons (ZD (hk pins s σ H _ I h) λkv s1 ⟨x,H1,I1,r1,q1⟩=>?_);refine Ua (ZD (hv pins s1 σ H1 _ I1 q1) λvv s2 ⟨y,H2,I2,r2,q2⟩=>Ua (Bc (Ub ?_)));exact ZD (hr pins s2 σ H2 _ I2 q2) λps s3 ⟨ws,H3,I3,r3,q3⟩=>⟨x::y::ws,H3,I3,.cons r1 (.cons r2 r3),q3⟩
theorem O3:sJ ca X pos [] [] Qi:=λpn Φ pins s σ H Q I ⟨_,_,μ,R,p⟩=>Ub ⟨[],H,I,.nil,p [] H μ .refl R.g .nil⟩
theorem Xl(hk:QD ca X k mk)(hv:QD ca X v mv)(hr:sJ ca X pos ks vs m):sJ ca X pos (some k::ks) (v::vs) (Qc mk (Qc mv m)):=λpn Φ pins s σ H Q I ⟨σ3,g,μ,R,p⟩=>gK (X:=QI X ca pn Φ) (hk pn Φ) (hv pn Φ) (hr pn Φ) pins s σ H Q I (Zg (DQ R p) λx H1 ⟨d,g1,μ1,e1,R1,q1,p1⟩=>
  Zg (DQ R1 (k:=λy g2=>(m σ3 g2).bind λzs g3=>.ok (d::y::zs) g3) (by
   unfold Qc at p1;cases hm:mv σ3 g1 with
   |raise _ _=>rw[hm]at p1;exact p1|stuck=>rw[hm]at p1;exact p1|ok y g2=>
    rw[hm,Res.bind_ok]at p1;rw[Res.bind_ok];cases hm2:m σ3 g2 with
    |raise _ _=>rw[hm2]at p1;exact p1|stuck=>rw[hm2]at p1;exact p1|ok zs g3=>rw[hm2]at p1;exact p1)) λy H2 ⟨d2,g2,μ2,e2,R2,q2,p2⟩=>
   JM (DR R2 p2) λxs H3 ⟨ds,g3,μ3,e3,R3,q3,p3⟩=>p3 (x::y::xs) H3 μ3 .refl R3.g (.cons ((q1.mono e2).mono e3) (.cons (q2.mono e3) q3)))
theorem gL{t:TA}{F:Addr->HO}(hF:∀(h:Heap) (H:Hp),sysModules<h.objs.size->ObjOk X.prog X.w H (h.push {cls:=.type "dict",data:=.dict #[]}) h.objs.size (F h.objs.size))(hp:PP X pos ks vs t)(hall:ks.all (·.isSome)=true)(hl:ks.length=vs.length)(h0:ks≠[])(hlen:ks.length<=15):
  PE X (.Dict ks vs pos) (λσ H Q=>∀p,H p=none->(p==sysModules)=false->t σ (Zi H p (F p)) λws H1=>∀pins s ps,Inv X pins σ H1 s->Vals ws (bH ps)->wpAny (model X.prog X.w) X.A (storeAll p ps) (λ_ s2=>EP X pins σ Q (.ref p) s2) X.xe s):=by
 intro pins s σ H Q I h;have hb:(s.heap.objs.size==sysModules)=false:=U2.mpr (Ne.symm (UH I.big));have I1:=I.laid (a:=s.heap.objs.size) (o:=F s.heap.objs.size) (t':=s.toks) (λ_ _ q=>Uc _ q) (Ug _) (hF s.heap (Zi H s.heap.objs.size (F s.heap.objs.size)) I.big);refine wpAny_Dict_any hall hl h0 hlen ?_;exact ZD (hp pins _ σ _ _ I1 (h _ (I.hok.fresh (Ug _)) hb)) λps s1 ⟨ws,H1,I2,rv,q⟩=>q pins s1 ps I2 rv
theorem nA(hn:μ[n]?=some p):∀(ps:List (Value×Value))(ws:List V)(ds:List D)(prs:List (Str×D))(ks:List (B6×D))(H:Hp)(g:G)(s:Shared)(Q:PUnit->Shared->Prop),Inv X pins σ H s->GRep X.K ca μ H g->g[n]?=some (.dct ks)->Vals ws (bH ps)->Dens X.K μ H ws ds->Cz ds=some prs->ks.length+prs.length<=1000->(∀H' s',Inv X pins σ H' s'->Ext X.K μ H μ H'->GRep X.K ca μ H' (g.set n (.dct (O2 ks prs)))->Q ⟨⟩ s')->wpAny (model X.prog X.w) A (storeAll p ps) Q E s:=by
 intro ps;induction ps with
 |nil=>
  intro ws ds prs ks H g s Q I r hg rv dn hp _ hQ;cases rv;cases dn;cases hp;unfold storeAll;rw[Wd];refine Ub (hQ H s I .refl ?_);show GRep X.K ca μ H (g.set n (.dct ks));have e:g.set n (.dct ks)=g:=by
   refine List.ext_getElem? λi=>?_;by_cases z:i=n
   ·subst z;rw[UW (Uq.mp hg).1,hg]
   ·rw[Ui (Ne.symm z)]
  rw[e];exact r
 |cons x ps ih=>
  intro ws ds prs ks H g s Q I r hg rv dn hp hz hQ;cases rv with
  |cons ra rv=>cases rv with
   |@cons yv _ _ _ rb rv=>
    cases dn with
    |cons da dn=>cases dn with
     |@cons _ db _ _ dbh dn=>
      cases da with
      |str kk=>
       obtain⟨prs',hp',rfl⟩:=US.mp (show(Cz _).map _=some prs from hp);obtain⟨p',hp2,kv,hH,kr⟩:=r.addr hg;rw[hn]at hp2;cases hp2;obtain⟨z,hd,vs,rel,dd⟩:=GP I.hok hH;have hkl:kv.length=ks.length:=Paired.length kr;have hs:sizeLine=16777216:=Td;rw[UA]at hz;have hl2:(GN kv (.inr kk) yv).length<=sizeLine:=Uo (FH kv (.inr kk) yv) (by omega);unfold storeAll;rw[RQ];refine Ua (Ua (wpAny_dictSet_pairs (hsz:=by rw[<-rel.length];omega) (Nc (k:=.inr kk) ra) dd λh' dd' hs'=>Ub ?_));have he:∃q,h'.get? p=some q:=let ⟨q,_,_,hq,_⟩:=dd';⟨q,hq⟩;have I1:=Gi (t':=s.toks+1) I (by rw[hH];exact True.intro) hs' he (aN hl2 hd (rel.put (.inr kk) rb) dd');have ex:Ext X.K μ H μ (Zi H p (.dK (GN kv (.inr kk) yv))):=ZZ hH (λ_ z=>nomatch z) (λ_ _ z=>nomatch z);have r1:=r.set (u:=.dct (Cw ks (.inr kk) db)) hn hH (λ_ z=>nomatch z) (λ_ _ z=>nomatch z) ⟨_,Qy,(kr.mono ex).put (.inr kk) (dbh.mono ex)⟩;have hlt:n<g.length:=(Uq.mp hg).1;refine ih _ _ prs' (Cw ks (.inr kk) db) _ _ _ Q I1 r1 (by rw[UW hlt]) rv (dn.mono ex) hp' ?_ λH' s' I' ex' r'=>hQ H' s' I' (ex.trans ex') ?_
       ·have:(Cw ks (.inr kk) db).length<=ks.length+1:=by
         unfold Cw;split
         ·rw[Uh];omega
         ·rw[Um];exact Ug _
        omega
       ·rw[WU]at r';exact r'
      |_=>exact nomatch hp
theorem LL(hp:sJ ca X pos ks vs m)(hall:ks.all (·.isSome)=true:=by rfl)(hl:ks.length=vs.length:=by rfl)(h0:ks≠[]:=by exact λh=>nomatch h)(hlen:ks.length<=15:=by decide):QD ca X (.Dict ks vs pos) (VM m):=
 λpn Φ=>Zb (gL (X:=QI X ca pn Φ) (F:=λ_=>.dK []) (λh H hb=>GQ h hb) (hp pn Φ) hall hl h0 hlen) λσ H Q ⟨σ3,g,μ,R,q⟩=>λp hpn hb=>by
  have ex:Ext X.K μ H (μ++[p]) (Zi H p (.dK [])):=ZC hpn;have R':Rep X.K ca (μ++[p]) σ3 (g++[.dct []]) σ (Zi H p (.dK [])):=R.go ex (R.g.push hpn ⟨[],Qy,.nil⟩);refine JM (E7 R' (k:=GT g.length) (Post.go ex q)) λws H1 hQ=>?_;obtain⟨ds,g1,μ1,e1,R1,q1,p1⟩:=hQ;intro pins s ps I rv;have hn:μ1[g.length]?=some p:=e1.at (by rw[<-R.g.len];simp);unfold GT at p1;cases hd:Cz ds with
  |none=>rw[hd]at p1;exact p1.elim|some prs=>
   rw[hd]at p1;cases hg:g1[g.length]? with
   |none=>rw[hg]at p1;exact p1.elim|some ob=>
    rw[hg]at p1;cases ob with
    |dct kk=>
     cases kk with
     |nil=>
      dsimp only at p1;by_cases z:prs.length<=15
      ·rw[Ud z]at p1;exact nA (X:=QI X ca pn Φ) hn ps ws ds prs [] H1 g1 s _ I R1.g hg rv q1 hd (by rw[List.length_nil];omega) λH' s' I' ex' r'=>⟨.ref p,H',I',rfl,p1 (.ref p) H' μ1 ex' r' (.ref hn)⟩
      ·rw[Uf z]at p1;exact p1.elim
     |cons _ _=>exact p1.elim
    |_=>exact p1.elim
end L3
namespace L3
open PySem
def gM(x y:D)(g:G):Res D:=match y,x with
 |.ref n,.tup es=>(match g[n]? with
  |some (.lst ds)=>(match Xx es,YY ds with
   |some k,some ks=>.ok (.bl (decide (k∈ks))) g|_,_=>.stuck)
  |_=>.stuck)
 |_,_=>.stuck
open PySem.Spec PyProof.Rows L2
section
variable{X:Cx}{ca:Nat->Addr}{a b:Expr}{ma mb:ME}{pos:Pos}{j:Nat}
def qX(K:Frag):R2:=λx y H Q=>∃(p:Addr)(ys:List V)(ds:List D)(μ:List Addr)(es:List D)(k:List Int)(ks:List (List Int)),y=.ref p/\H p=some (.lst ys)/\Dens K μ H ys ds/\Den K μ H x (.tup es)/\Xx es=some k/\YY ds=some ks/\Q (.bl (decide (k∈ks))) H
open Classical in
theorem bI(inj:∀u x y,R x u->R y u->x=y):∀{ks:List (List Int)}{us:List Value},NK.Al R ks us->us.any (λu=>decide (R k u))=decide (k∈ks)
 |_,_,.nil=>rfl|c::ks,u::us,.cons h t=>by rw[T8,bI inj t,Rn];simp only[WK,TF,Uz];exact or_congr ⟨λz=>(inj _ _ _ h z).symm,λz=>z ▸ h⟩ .rfl
open Classical in
theorem nD(hu:X.A.units+16<cLine):OpR X (compareOp .In) (qX X.K):=by
 intro pins s σ H x y v u Q I rx ry h;obtain⟨p,ys,ds,μ,dx,k,ks,rfl,hH,qs,qx,hk,hks,q⟩:=h;cases ry;obtain⟨its,rvs,pl,hz⟩:=I.list (.of hH);have al:=Em I qs rvs hks;have kx:=Bf I qx rx hk;refine SeqAt.in_listAt (λw=>decide ((NK.grV X.prog X.w).is s.heap k w)) pl.isList (λw hw=>?_) ⟨.bl _,H,I,rfl,?_⟩
 ·obtain⟨c,hc,rc⟩:=NK.Al.has al w (by simpa using hw);intro prog w' E' Q' hq;refine(NK.grV prog w').eqBool (x:=c) (y:=k) (show X.A.units+1+1<cLine by omega) rc kx ?_;have e:decide ((NK.grV X.prog X.w).is s.heap k w)=decide (c=k):=Rb.mpr ⟨λz=>(NK.grV X.prog X.w).inj rc z,λz=>z ▸ rc⟩;rw[e]at hq;exact hq
 ·rw[show its.toArray.any (λw=>decide ((NK.grV X.prog X.w).is s.heap k w))=its.any (λw=>decide ((NK.grV X.prog X.w).is s.heap k w)) by simp,bI (R:=(NK.grV X.prog X.w).is s.heap) (λu x y hx hy=>(NK.grV X.prog X.w).inj hx hy) al];exact q
theorem bJ{K:Frag}:Z1 K ca (qX K) gM:=by
 intro Φ σ H μ g x y dx dy Q r qx qy p;unfold gM at p;cases qy with
 |@ref n t hn=>
  cases dx with
  |tup es=>
   dsimp only at p;cases hg:g[n]? with
   |none=>rw[hg]at p;exact p.elim|some ob=>
    rw[hg]at p;obtain⟨t',ht',orp⟩:=r.addr hg;rw[hn]at ht';cases ht';cases ob with
    |lst ds=>
     obtain⟨vs,hH,q⟩:=orp;dsimp only at p;cases hk:Xx es with
     |none=>rw[hk]at p;exact p.elim|some k=>
      cases hks:YY ds with
      |none=>rw[hk,hks]at p;exact p.elim|some ks=>rw[hk,hks]at p;exact⟨t,vs,ds,μ,es,k,ks,rfl,hH,q,qx,hk,hks,p _ H μ .refl r (.bl _)⟩
    |_=>exact p.elim
  |_=>exact p.elim
 |_=>exact p.elim
theorem qY(hr:Room j X.A)(ha:QD ca X a ma)(hb:QD ca X b mb)(hm:behindInMarks .In b=false:=by rfl):QD ca X (.Compare a [.In] [b] pos) (Qd gM ma mb):=IC (λpn Φ=>nD (X:=QI X ca pn Φ) (by have:=hr.units;show X.A.units+16<cLine;omega)) bJ ha hb hm
end
end L3
namespace L3
open PySem
def GU:List (DK×D)->Option (List Str)
 |[]=>some []| (.inr i,_)::r=>(GU r).map (i :: ·)|_::_=>none
def Nl(x:D)(g:G):Res D:=match x with
 |.ref n=>(match g[n]? with
  |some (.dct ks)=>.ok (.int ks.length) g|_=>.stuck)
 |_=>.stuck
def Eu(e:ME):MI:=λσ g=>(e σ g).bind λx g1=>match x with
 |.ref n=>(match g1[n]? with
  |some (.dct ks)=>(match GU ks with
   |some is=>.ok ⟨λ_ i=>some (is.map D.str)[i]?,is.length⟩ (g1.set n (.dfz ks))|none=>.stuck)
  |_=>.stuck)
 |_=>.stuck
def GV(x y:D)(g:G):Res D:=match x,y with
 |.ref n,.str i=>(match g[n]? with
  |some (.dfz ks)=>(match GR ks (.inr i) with
   |some v=>.ok v g|none=>.stuck)
  |_=>.stuck)
 |_,_=>.stuck
def O4(x y:D)(g:G):Res D:=match y,x with
 |.ref n,.str i=>(match g[n]? with
  |some (.dct ks)=>.ok (.bl (GR ks (.inr i)).isSome) g|_=>.stuck)
 |_,_=>.stuck
def cP(i j:Int):Prop:=0<=j/\j<=1000/\i.natAbs<1000000
instance (i j:Int):Decidable (cP i j):=inferInstanceAs (Decidable (_/\_/\_))
def bK(x y:D)(g:G):Res D:=match x,y with
 |.int i,.int j=>if cP i j then .ok (.int (i^j.toNat)) g else .stuck
 |_,_=>.stuck
def Vs(a b:ME):MI:=λσ g=>(a σ g).bind λx g1=>(b σ g1).bind λy g2=>(match x,y with
 |.int i,.int j=>if HE i/\HE j then .ok ⟨λ_ k=>some (if (k:Int)<i-j then some (.int (i-k)) else none),(i-j).toNat⟩ g2 else .stuck
 |_,_=>.stuck)
open PySem.Spec PyProof.Rows L2
theorem gN(h:Gp (.inr i) v=true):RelV (.str i) v:=by
 rcases Zt h with⟨j,t,e1,e2⟩|⟨x,t,e1,e2⟩
 ·cases e1
 ·cases e1;exact⟨t,e2⟩
theorem IP:∀{ks:List (B6×D)}{is:List Str},GU ks=some is->ks.map (·.1)=is.map Sum.inr
 |[],_,h=>by cases h;rfl
 | (.inr i,_)::r,is,h=>by have h:(GU r).map (i :: ·)=some is:=h;obtain⟨js,h1,h2⟩:=US.mp h;subst h2;rw[UL,UL,IP h1]
theorem AM:JL X (.builtin "len") (λxs H Q=>∃p kvs,xs=[.ref p]/\H p=some (.dK kvs)/\Q (.int kvs.length) H):=by intro pins s σ H xs us Q I rv h;obtain⟨a,kvs,rfl,e,q⟩:=h;obtain⟨u,rfl,ru⟩:=rv.one;cases ru;obtain⟨z,hd,vs,rel,dd⟩:=GP I.hok e;have hs:sizeLine=16777216:=Td;rw[rel.length]at q z;exact call_len_dict hd dd (by omega) ⟨.int _,H,I.tok _,⟨_,rfl⟩,q⟩
theorem gO:IxR X (λx y H Q=>∃a o kvs k v,x=.ref a/\y=kV k/\H a=some (.frz o (.dK kvs))/\B2 kvs k=some v/\Q v H):=by intro value slice pins s σ H x y v u Q I rx ry h hs;obtain⟨a,o,kvs,k,w,rfl,rfl,e,l,q⟩:=h;cases rx;obtain⟨z,hd,vs,rel,dd⟩:=jJ I.hok (.inr ⟨o,e⟩);obtain⟨w',hw,rw'⟩:=RelO.some_of (v:=w) (o:=valueAt vs k) (by rw[<-l];exact rel.val k);exact tail_any dd.typeIs RM.lookup (wpAny_getItem_of (Nc ry) dd.mapOf hw ⟨_,H,I.tok _,rw',q⟩) hs
def uN(a:Addr)(o:Obj)(kvs:List (B6×V))(is:List Str):It:=⟨λi H=>H a=some (.frz o (.dK kvs))/\i<is.length,λi H x H'=>H'=H/\∃k,is[i]?=some k/\x=.str k,λi H=>H a=some (.frz o (.dK kvs))/\is.length<=i⟩
theorem bL{pins:YD}{σ:L2.St}{H:Hp}{s:Shared}{a:Addr}{o:Obj}{es:Array DictEntry}{ep:Nat}{kvs:List (B6×V)}{is:List Str}(I:Inv X pins σ H s)(e:H a=some (.frz o (.dK kvs)))(hoe:o.data=.dict es ep)(hk:kvs.map (·.1)=is.map Sum.inr):∃vs,s.heap.DictAt (JE X.prog X.w) a vs ep/\vs.map (·.1)=is.map Sum.inr/\vs.length=is.length:=by
 obtain⟨ho,z,hd,vs,rel,dd⟩:=(show ObjOk X.prog X.w H s.heap a (.frz o (.dK kvs)) from I.hok a _ e);obtain⟨o',es',ep',ho',r1,r2,r3⟩:=dd;rw[ho]at ho';cases ho';rw[hoe]at r2;cases r2;have hl:vs.map (·.1)=is.map Sum.inr:=by rw[<-Sm rel,hk]
 exact⟨vs,⟨o,es,ho,r1,hoe,r3⟩,hl,by have:=Rf List.length hl;simpa using this⟩
theorem AN{P:Program}{w:World}{K:Frag}{tg:Expr}(a it:Addr){o:Obj}{es:Array DictEntry}{ep:Nat}{kvs:List (B6×V)}{is:List Str}(hoe:o.data=.dict es ep)(hk:kvs.map (·.1)=is.map Sum.inr):Turn P w K tg (uN a o kvs is) [it] it (λi h=>h.IsKeyIter it a i is.length ep) where
 mem:=by simp
 obj:=λi h st b hb=>by
  have e:b=it:=by simpa using hb
  subst e;obtain⟨o,e,c,d⟩:=st;exact⟨o,e,λv z=>by rw[d]at z;cases z⟩
 keep:=λi h h' st k=>by obtain⟨o,e,c⟩:=st;exact⟨o,k it (by simp) o e,c⟩
 item:=by
  intro X hP hw hK hc i pins s σ H E I hf st hg;subst hP hw hK;obtain⟨e,hi⟩:=hg;obtain⟨vs,da,hks,hl⟩:=bL I e hoe hk;obtain⟨f0,f1,f2,f3,f4,f5⟩:=hf it (by simp);have hx:vs[i]?=some (vs[i]'(by omega)):=by simp[hl,hi]
  rw[<-hl]at st;refine wpAny_pyNext_dict_item (k:=(vs[i]'(by omega)).1) (v:=(vs[i]'(by omega)).2) st da hx λkey h' hkey st' sb=>?_;have I1:Inv X pins σ H {s with heap:=h'}:=I.turned (t':=s.toks) (λb o hb e=>(sb.2 b hb).trans e) f0 f1 f3 f4 f5;have h1:(vs.map (·.1))[i]?=some (vs[i]'(by omega)).1:=by rw[Uy,hx];rfl
  rw[hks,Uy,U6 hi]at h1;have h1:Sum.inr is[i]=(vs[i]'(by omega)).1:=Option.some.inj h1;rw[<-h1]at hkey;rw[hl]at st';obtain⟨ob,e',c,d⟩:=id st';exact⟨key,rfl,Gs (s:={s with heap:=h'}) e' c d (by decide) ⟨.str is[i],H,I1,gN hkey,⟨rfl,is[i],by simp[hi],rfl⟩,st',λb hb=>(hf b hb).1⟩⟩
 done:=by intro X hP hw hK hc i pins s σ H E I hf st hg;subst hP hw hK;obtain⟨e,hi⟩:=hg;obtain⟨vs,da,hks,hl⟩:=bL I e hoe hk;obtain⟨f0,f1,f2,f3,f4,f5⟩:=hf it (by simp);rw[<-hl]at st;exact wpAny_pyNext_dict_end (I.ok.hd hc) st da (by simp;omega) λh' eb=>⟨rfl,I.turned (t':=s.toks) (λb o hb e=>eb b o hb e) f0 f1 f3 f4 f5⟩
 self:=λ_ _ _ _ _ st h=>WB st h
theorem nE(I:Inv X pins σ H s)(e:H a=some (.dK kvs))(ho:s.heap.get? a=some o):Inv X pins σ (Zi H a (.frz o (.dK kvs))) s:=by obtain⟨z,hd,vs,rel,dd⟩:=GP I.hok e;exact I.write (x:=a) (e:=a) (h':=s.heap) (t':=s.toks) (o:=.frz o (.dK kvs)) (by rw[e];trivial) (.inl rfl) (λ_ _ _ h=>h) ⟨o,ho⟩ ⟨ho,z,hd,vs,rel,dd⟩
theorem gP{tg l:Expr}{tl:TE}(hl:PE X l tl):PI X tg l (λσ H R=>tl σ H λx H1=>∃a kvs is,x=.ref a/\H1 a=some (.dK kvs)/\kvs.map (·.1)=is.map Sum.inr/\∀o,R (uN a o kvs is) (Zi H1 a (.frz o (.dK kvs)))):=by
 intro pins s σ H R I h;refine ZD (hl pins s σ H _ I h) λv s1 ⟨x,H1,I1,r1,q1⟩=>?_;obtain⟨a,kvs,is,rfl,e,hk,q⟩:=q1;cases r1;obtain⟨z,hd,vs,rel,dd⟩:=GP I1.hok e;obtain⟨o,es,ep,ho,r1,r2,r3⟩:=id dd;have I2:=nE I1 e ho;have hlen:vs.length=is.length:=by have:=Rf List.length ((Sm rel).symm.trans hk);simpa using this
 refine wpAny_pyIter_dict hd (⟨o,es,ho,r1,r2,r3⟩:s1.heap.DictAt (JE X.prog X.w) a vs ep) ?_;refine⟨s1.heap.objs.size,[s1.heap.objs.size],_,_,_,rfl,I2.kept (t':=s1.toks) λb o e=>Uc _ e,AN a _ r2 hk,⟨_,Uk _ rfl,rfl,by rw[hlen];rfl⟩,λb hb=>?_,q o⟩;have e:b=s1.heap.objs.size:=by simpa using hb
 subst e;exact I2.fpOk (Ug _) (I2.hok.fresh (Ug _))
theorem nF(hm:X.mg "len"=none)(he:QD ca X e me)(hg:Gl X "len":=by rfl)(hs:starEach [e] X.env=[(false,eval e X.env)]:=by rfl)(hpl:(backTo pos (starEach [] X.env)).any (·.1)=false:=by rfl):
  QD ca X (.Call (.Name "len" p) [e] [] pos) (Qt Nl me):=
 IK (r:=λxs H Q=>∃p kvs,xs=[V.ref p]/\H p=some (.dK kvs)/\Q (V.int (kvs.length:Int)) H) (λ_ _=>AM) hm boot_len (λΦ σ H μ g y d Q r q pp=>by
  unfold Nl at pp;cases q with
  |@ref n t hn=>
   dsimp only at pp;cases hgn:g[n]? with
   |none=>rw[hgn]at pp;exact pp.elim|some ob=>
    rw[hgn]at pp;obtain⟨t',ht',orp⟩:=r.addr hgn;rw[hn]at ht';cases ht';cases ob with
    |dct ks=>
     obtain⟨kv,hH,q⟩:=orp;have hl:kv.length=ks.length:=by have:=Rf List.length q.keys;simpa using this
     exact⟨t,kv,rfl,hH,pp _ H μ .refl r (by rw[hl];exact .int _)⟩
    |_=>exact pp.elim
  |_=>exact pp.elim) he hg (by decide) (by decide) hs hpl
theorem AO{K:Frag}:Z1 K ca (λx y H Q=>∃a o kvs k v,x=.ref a/\y=kV k/\H a=some (.frz o (.dK kvs))/\B2 kvs k=some v/\Q v H) GV:=by
 intro Φ σ H μ g x y dx dy Q r qx qy p;unfold GV at p;cases qx with
 |@ref n t hn=>
  cases qy with
  |str i=>
   dsimp only at p;cases hg:g[n]? with
   |none=>rw[hg]at p;exact p.elim|some ob=>
    rw[hg]at p;obtain⟨t',ht',orp⟩:=r.addr hg;rw[hn]at ht';cases ht';cases ob with
    |dfz ks=>
     obtain⟨o,kv,hH,q⟩:=orp;dsimp only at p;rcases q.get (.inr i) with⟨a,b⟩|⟨v,d,a,b,c⟩
     ·rw[b]at p;exact p.elim
     ·rw[b]at p;exact⟨t,o,kv,.inr i,v,rfl,rfl,hH,a,p v H μ .refl r c⟩
    |_=>exact p.elim
  |_=>exact p.elim
 |_=>exact p.elim
theorem nG(ha:QD ca X a ma)(hb:QD ca X b mb)(hs:Be b:=by exact λ_ _=>rfl):QD ca X (.Subscript a b pos) (Qd GV ma mb):=eY (λ_ _=>gO) AO ha hb hs
theorem bM{K:Frag}{μ:List Addr}{H:Hp}{a:Addr}{o:Obj}{kvs:List (B6×V)}{is:List Str}(h:H a=some (.frz o (.dK kvs))):As K ca μ H ⟨λ_ i=>some (is.map D.str)[i]?,is.length⟩ (uN a o kvs is):=by
 intro i H1 μ1 g1 e r;dsimp only;have h1:=e.frz _ _ _ h;by_cases hi:i<is.length
 ·rw[Uy,U6 hi];exact⟨⟨h1,hi⟩,λx H' y=>by obtain⟨rfl,k,y1,rfl⟩:=y;rw[U6 hi]at y1;cases y1;exact⟨.refl,r,.str _⟩⟩
 ·rw[Uy,TM (Ra hi)];exact⟨h1,Ra hi⟩
theorem bN(he:QD ca X e me):Dj ca X tg e (Eu me):=
 λpn Φ=>Xj (gP (X:=QI X ca pn Φ) (he pn Φ)) λσ H R hQ=>by
  obtain⟨σ3,g,μ,Rp,p⟩:=hQ;unfold Eu at p;refine⟨σ3,g,μ,Rp,?_⟩;cases hm:me σ3 g with
  |raise _ _=>rw[hm]at p;exact p|stuck=>rw[hm]at p;exact p.elim|ok d g1=>
   rw[hm,Res.bind_ok]at p;intro v H1 μ1 e1 r1 q1;cases q1 with
   |@ref n a hn=>
    dsimp only at p;cases hg:g1[n]? with
    |none=>rw[hg]at p;exact p.elim|some ob=>
     rw[hg]at p;obtain⟨a',ha',orp⟩:=r1.addr hg;rw[hn]at ha';cases ha';cases ob with
     |dct ks=>
      obtain⟨kv,hH,q⟩:=orp;dsimp only at p;cases hk:GU ks with
      |none=>rw[hk]at p;exact p.elim|some is =>rw[hk]at p;have ex:∀o,Ext X.K μ1 H1 μ1 (Zi H1 a (.frz o (.dK kv))):=λo=>ZZ hH (λ_ z=>nomatch z) (λ_ _ z=>nomatch z);exact⟨a,kv,is,rfl,hH,q.keys.trans (IP hk),λo=>p _ _ μ1 (e1.trans (ex o)) (r1.set hn hH (λ_ z=>nomatch z) (λ_ _ z=>nomatch z) ⟨o,kv,Qy,q.mono (ex o)⟩) (bM Qy)⟩
     |_=>exact p.elim
   |_=>exact p.elim
theorem nH:OpR X (compareOp .In) (λx y H Q=>∃a kvs k,y=.ref a/\x=kV k/\H a=some (.dK kvs)/\Q (.bl (B2 kvs k).isSome) H):=by
 intro pins s σ H x y v u Q I rx ry h;obtain⟨a,kvs,k,rfl,rfl,e,q⟩:=h;cases ry;obtain⟨z,hd,vs,rel,dd⟩:=GP I.hok e;refine wpAny_in_of (Nc rx) hd dd.mapOf ?_;have e:(B2 kvs k).isSome=(valueAt vs k).isSome:=by have:=rel.val k;unfold RelO at this;cases h1:B2 kvs k<;>cases h2:valueAt vs k<;>rw[h1,h2]at this<;>first|rfl|exact this.elim
 rw[<-e];exact⟨.bl _,H,I.tok _,rfl,q⟩
theorem bO{K:Frag}:Z1 K ca (λx y H Q=>∃a kvs k,y=.ref a/\x=kV k/\H a=some (.dK kvs)/\Q (.bl (B2 kvs k).isSome) H) O4:=by
 intro Φ σ H μ g x y dx dy Q r qx qy p;unfold O4 at p;cases qy with
 |@ref n t hn=>
  cases qx with
  |str i=>
   dsimp only at p;cases hg:g[n]? with
   |none=>rw[hg]at p;exact p.elim|some ob=>
    rw[hg]at p;obtain⟨t',ht',orp⟩:=r.addr hg;rw[hn]at ht';cases ht';cases ob with
    |dct ks =>obtain⟨kv,hH,q⟩:=orp;refine⟨t,kv,.inr i,rfl,rfl,hH,p _ H μ .refl r ?_⟩;rcases q.get (.inr i) with⟨a,b⟩|⟨v,d,a,b,c⟩<;>rw[a,b]<;>exact .bl _
    |_=>exact p.elim
  |_=>exact p.elim
 |_=>exact p.elim
theorem qZ(ha:QD ca X a ma)(hb:QD ca X b mb)(hm:behindInMarks .In b=false:=by rfl):QD ca X (.Compare a [.In] [b] pos) (Qd O4 ma mb):=IC (λ_ _=>nH) bO ha hb hm
theorem rA(ha:QD ca X a ma)(hb:QD ca X b mb):QD ca X (.BinOp a .Pow b pos) (Qd bK ma mb):=
 GD (λ_ _=>kY) (LA (λΦ σ i j g Q H μ r p=>by
  unfold bK at p;by_cases z:cP i j
  ·dsimp only at p;rw[Ud z]at p;exact⟨⟨z.1,Int.le_trans z.2.1 (by decide),Uu z.2.2 (by decide)⟩,p _ H μ .refl r (.int _)⟩
  ·dsimp only at p;rw[Uf z]at p;exact p.elim) (Kx λx y g=>by cases x with|int i=>(cases y with|int j=>exact .inl ⟨_,_,rfl,rfl⟩|_=>exact .inr rfl)|_=>exact .inr rfl)) ha hb
def rB(lo:Int)(n:Nat):It:=⟨λi _=>i<n,λi H x H'=>H'=H/\x=.int (lo-i),λi _=>n<=i⟩
theorem AQ{P:Program}{w:World}{K:Frag}{tg:Expr}(it:Addr)(lo:Int)(n:Nat):Turn P w K tg (rB lo n) [it] it (λi h=>IsRangeIter h it (lo+(i:Nat)*(-1)) ((n:Int) - (i:Nat)) (-1)) where
 mem:=by simp
 obj:=λi h st b hb=>by
  have e:b=it:=by simpa using hb
  subst e;exact⟨_,st,λv z=>by have z':Data.fields _=Data.cell v:=z;cases z'⟩
 keep:=λi h h' st k=>k it (by simp) _ st
 item:=by intro X hP hw hK hc i pins s σ H E I hf st hg;subst hP hw hK;obtain⟨f0,f1,f2,f3,f4,f5⟩:=hf it (by simp);have W:=Walks.range (prog:=X.prog) (w:=X.w) (I.ok.hd hc) it lo (-1) n;refine W.item i s _ _ hg st λv h' tk hv st' kk=>?_;obtain⟨t,rfl⟩:=hv;have I1:Inv X pins σ H {s with heap:=h',toks:=tk}:=I.turned (λb o hb e=>kk b o (by simpa using hb) e) f0 f1 f3 f4 f5;refine⟨_,rfl,Gs (s:={s with heap:=h',toks:=tk}) (n:="range_iterator") st' rfl rfl (by decide) ⟨.int (lo-i),H,I1,⟨t,?_⟩,⟨rfl,rfl⟩,st',λb hb=>(hf b hb).1⟩⟩;rw[show lo+(i:Int) * -1=lo-i by omega]
 done:=by intro X hP hw hK hc i pins s σ H E I hf st hg;subst hP hw hK;obtain⟨f0,f1,f2,f3,f4,f5⟩:=hf it (by simp);exact wpAny_pyNext_range_end (I.ok.hd hc) st (by have:n<=i:=hg;omega) λh' eb=>⟨rfl,I.turned (t':=s.toks) (λb o hb e=>eb b o hb e) f0 f1 f3 f4 f5⟩
 self:=λ_ _ _ _ _ st h=>wpAny_pyIter_rangeiter st h
theorem IQ(a b:Int):Builtin.Range.rangeSize a b (-1)=if b<a then a-b else 0:=by unfold Builtin.Range.rangeSize;simp only[show ¬((-1:Int)>0) by decide,Ti,Int.neg_neg,Int.ediv_one,gt_iff_lt];split<;>omega
theorem O5(ha:-(2^62)<=a)(ha':a<2^62)(hb:-(2^62)<=b)(hb':b<2^62):Builtin.Range.small a b (-1)=true:=by unfold Builtin.Range.small;rw[IQ];simp only[Builtin.Range.rangeFitsLong,UK,WK,TF,Tn];split<;>simp<;>omega
theorem gQ(hg:Gl X "range")(hm:X.mg "range"=none)(ha:PA X [a,b,c] ta)(hs:starEach [a,b,c] X.env=(false,eval a X.env)::starEach [b,c] X.env:=by rfl)(hs2:(backTo pos (starEach [b,c] X.env)).any (·.1)=false:=by rfl):
  PI X tg (.Call (.Name "range" p) [a,b,c] [] pos) (λσ H R=>ta σ H λvs H1=>∃i j:Int,vs=[.int i,.int j,.int (-1)]/\(-(2^62)<=i/\i<2^62/\-(2^62)<=j/\j<2^62)/\R (rB i (i-j).toNat) H1):=by
 intro pins s σ H R I h;refine Call_ (Xv I hg hm boot_range (UR (ZD (ha pos pins s σ H _ I h) λus s1 ⟨vs,H1,I1,r1,q1⟩=>?_) hs hs2));obtain⟨i,j,e,⟨q1,q2,q3,q4⟩,q⟩:=q1;subst e;cases r1 with
 |cons r rr=>
  cases rr with
  |cons r' rr=>
   cases rr with
   |cons r'' rr=>
    cases rr;obtain⟨t,rfl⟩:=r;obtain⟨t',rfl⟩:=r';obtain⟨t'',rfl⟩:=r'';refine call_range_3 (by decide) ?_ (.inl (Bo (by decide)));have I2:Inv X pins σ H1 {s1 with heap:=s1.heap.push {cls:=.type "range",data:=.fields #[.int i t,.int j t',.int (-1) t'']},toks:=s1.toks}:=I1.kept λb o e=>Uc _ e;refine wpAny_pyIter_range (IsRange.new ..) (O5 q1 q2 q3 q4) ?_;refine⟨(s1.heap.push {cls:=.type "range",data:=.fields #[.int i t,.int j t',.int (-1) t'']}).objs.size,[(s1.heap.push {cls:=.type "range",data:=.fields #[.int i t,.int j t',.int (-1) t'']}).objs.size],_,_,H1,rfl,I2.kept (t':=s1.toks) λb o e=>Uc _ e,AQ _ i (i-j).toNat,?_,λb hb=>?_,q⟩
    ·have e1:i+((0:Nat):Int) * -1=i:=by simp
     have e2:(((i-j).toNat:Nat):Int) - ((0:Nat):Int)=Builtin.Range.rangeSize i j (-1):=by rw[IQ];split<;>omega
     show IsRangeIter _ _ (i+((0:Nat):Int) * -1) ((((i-j).toNat:Nat):Int) - ((0:Nat):Int)) (-1);rw[e1,e2];exact Uk _ rfl
    ·have e:b=(s1.heap.push {cls:=.type "range",data:=.fields #[.int i t,.int j t',.int (-1) t'']}).objs.size:=by simpa using hb
     subst e;exact I2.fpOk (Ug _) (I2.hok.fresh (Ug _))
theorem bP(hm:X.mg "range"=none)(he:QD ca X e me)(he2:QD ca X e2 me2)(hg:Gl X "range":=by rfl)(hs2:(backTo pos (starEach [e2,.UnaryOp .USub (.Constant (.int 1) jj p1) p2] X.env)).any (·.1)=false:=by rfl)(h1:starEach [e,e2,.UnaryOp .USub (.Constant (.int 1) jj p1) p2] X.env=(false,eval e X.env)::starEach [e2,.UnaryOp .USub (.Constant (.int 1) jj p1) p2] X.env:=by rfl)(h2:starEach [e2,.UnaryOp .USub (.Constant (.int 1) jj p1) p2] X.env=(false,eval e2 X.env)::starEach [.UnaryOp .USub (.Constant (.int 1) jj p1) p2] X.env:=by rfl)(h3:starEach [.UnaryOp .USub (.Constant (.int 1) jj p1) p2] X.env=[(false,eval (.UnaryOp .USub (.Constant (.int 1) jj p1) p2) X.env)]:=by rfl):
  Dj ca X tg (.Call (.Name "range" p) [e,e2,.UnaryOp .USub (.Constant (.int 1) jj p1) p2] [] pos) (Vs me me2):=
 λpn Φ=>Xj (gQ (X:=QI X ca pn Φ) hg hm (ZH he (ZH he2 (ZH (Kz Qk) Qm h3) h2) h1 pn Φ) h1 hs2) λσ H R hQ=>by
  obtain⟨σ3,g,μ,Rp,p⟩:=hQ;refine⟨σ3,g,μ,Rp,?_⟩;unfold Vs at p;unfold Qc Qi;cases hm:me σ3 g with
  |raise _ _=>rw[hm]at p;exact p|stuck=>rw[hm]at p;exact p.elim|ok d g1=>
   rw[hm,Res.bind_ok]at p;rw[Res.bind_ok];cases hm2:me2 σ3 g1 with
   |raise _ _=>rw[hm2]at p;exact p|stuck=>rw[hm2]at p;exact p.elim|ok d2 g2=>
    rw[hm2,Res.bind_ok]at p;rw[Res.bind_ok,show Qt XY (mI 1) σ3 g2=.ok (.int (-1)) g2 from rfl,Res.bind_ok,Res.bind_ok,Res.bind_ok,Res.bind_ok];intro vs H1 μ1 e1 r1 q1;cases q1 with
    |cons h1 h2=>
     cases h2 with
     |cons h2 h3=>
      cases h3 with
      |cons h3 h4=>
       cases h4;cases h1 with
       |int i=>
        cases h2 with
        |int j=>
         cases h3;dsimp only at p;by_cases z:HE i/\HE j
         ·rw[Ud z]at p;refine⟨i,j,rfl,⟨z.1.1,z.1.2,z.2.1,z.2.2⟩,p _ H1 μ1 e1 r1 ?_⟩;intro k H2 μ2 g3 e3 r3;dsimp only;by_cases hk:(k:Int)<i-j
          ·rw[Ud hk];exact⟨show k<(i-j).toNat by omega,λx H' y=>by obtain⟨rfl,rfl⟩:=y;exact⟨.refl,r3,.int _⟩⟩
          ·rw[Uf hk];exact show(i-j).toNat<=k by omega
         ·rw[Uf z]at p;exact p.elim
        |_=>exact p.elim
       |_=>exact p.elim
theorem rC{X:Cx}{ca:Nat->Addr}{a b:Expr}{mr:MA}{x y:Str}{px py pt pt2 pos:Pos}{kt k2:Nat}(i j:Nat)(hc:X.calm=true)(hN:X.N.Nodup)(ha:Aq ca X [a,b] mr)(hi:X.N[i]?=some x:=by rfl)(hj:X.N[j]?=some y:=by rfl)(hij:i≠j:=by decide)(hx:X.env.scope.names.lookup x=some .local:=by rfl)(hy:X.env.scope.names.lookup y=some .local:=by rfl)(hw:swappedStores [.Tuple [.Name x px,.Name y py] kt pt] (.Tuple [a,b] k2 pt2) X.env=pure (some [x,y]):=by rfl)(hs:swapsWithSole [.Tuple [.Name x px,.Name y py] kt pt] (.Tuple [a,b] k2 pt2) pos.line X.env=pure false:=by rfl):
  HH ca X (.Assign [.Tuple [.Name x px,.Name y py] kt pt] (.Tuple [a,b] k2 pt2) pos) (QK (Jp [Qn i,Qn j]) (QX ZQ mr)):=
 λpn Φ=>Z0 (kQ (X:=QI X ca pn Φ) hc hN hi hj hij hx hy (ha pn Φ) hw hs) λE σ H h=>by
  obtain⟨σ3,g,μ,R,p⟩:=h;refine⟨σ3,g,μ,R,?_⟩;unfold QK QX at p;cases hm:mr σ3 g with
  |ok ds g1=>
   rw[hm,Res.bind_ok]at p;unfold ZQ at p;by_cases z:ds.length<=SZ
   ·rw[Ud z]at p;dsimp only at p
    match ds,p with
    |[],p=>exact p.elim|[d1],p=>exact p.elim|[d1,d2],p=>
     intro vs H' μ' e' r' q';cases q' with
     |cons q1 q2=>
      cases q2 with
      |cons q2 q3 =>cases q3;exact⟨_,_,rfl,p _ H' μ' e' (((R.go e' r').set q1 i).set q2 j)⟩
    |d1::d2::d3::r,p=>exact p.elim
   ·rw[Uf z]at p;exact p.elim
  |raise _ _=>rw[hm]at p;exact RaP.stmt R p|stuck=>rw[hm]at p;exact p
structure FunD(K:Frag)(x qual:Str)(st:Stmt)(i:Int)(f:Addr)(fd:FuncData):Prop where
 ex:∃(oc:Value)(od:Option Addr)(kV doc pm:Value)(an:Option Addr)(cdv ct:Value)(osl:Array (Option Value))(dt:Addr)(dk:Tok)(de:Value)(dd:Option Addr)(dn:Nat)(ds:Array (Option Value)),fd=fnOf x qual (ZY st) (ZB st) (Qg st) (.ref dt) kV doc pm an cdv ct/\K.lookup f=some ⟨oc,od,.func fd,osl⟩/\codeIn K cdv qual=true/\K.lookup dt=some ⟨de,dd,.seq #[.int i dk] dn,ds⟩
 kp:keepIn K (.ref f)=true
theorem gR{K:Frag}{x qual:Str}{st:Stmt}{i:Int}{f dt:Addr}{dk:Tok}{oc de:Value}{od an dd:Option Addr}{osl ds:Array (Option Value)}{dn:Nat}{kV doc pm cdv ct:Value}(l:K.lookup f=some ⟨oc,od,.func (fnOf x qual (ZY st) (ZB st) (Qg st) (.ref dt) kV doc pm an cdv ct),osl⟩)(c:codeIn K cdv qual=true)(k:keepIn K (.ref f)=true)(y:K.lookup dt=some ⟨de,dd,.seq #[.int i dk] dn,ds⟩):FunD K x qual st i f (fnOf x qual (ZY st) (ZB st) (Qg st) (.ref dt) kV doc pm an cdv ct):=⟨⟨oc,od,kV,doc,pm,an,cdv,ct,osl,dt,dk,de,dd,dn,ds,rfl,l,c,y⟩,k⟩
theorem FunD.binds{K:Frag}{x qual:Str}{st:Stmt}{i:Int}{f:Addr}{fd:FuncData}{ps:List Str}(F:FunD K x qual st i f fd)(h:∀(dt:Addr) (dk:Tok) (kV doc pm:Value) (an:Option Addr) (cdv ct:Value) (us:List Value),us.length=ps.length->∃k:Option (Array Value)->Sem (List (Str×Value)),bindArgs (fnOf x qual (ZY st) (ZB st) (Qg st) (.ref dt) kV doc pm an cdv ct) ⟨us,[]⟩=(seqItems? (.ref dt) >>= k)/\k (some #[.int i dk])=pure (ps.zip us)):Binds K fd ps []:=by obtain⟨oc,od,kV,doc,pm,an,cdv,ct,osl,dt,dk,de,dd,dn,ds,rfl,lk,hcd,y⟩:=F.ex;intro s us KX hl;rw[UY]at hl ⊢;obtain⟨k,h1,h2⟩:=h dt dk kV doc pm an cdv ct us hl;exact BindsTo.of_defaults (T:=dt) rfl (KX _ _ y) rfl h1 h2
theorem nI{P:Program}{w:World}{K:Frag}{mg:Vb}{base:Heap}{ca:Nat->Addr}{x qual:Str}{st:Stmt}{i:Int}{f:Addr}{fd:FuncData}{N ps:List Str}{k n j:Nat}{m:MS}(F:FunD K x qual st i f fd)(S:FnScope N ps (Qg st))(hj:ps.length=j)(hn:N.length-ps.length=n)(h:∀(cdv:Value) (A:Around) (outer:List Env) (s:Shared) (H:Hp) (E:XK),Room k (A.deeper (envOfC qual (Qg st) s.heap.objs.size f cdv))->Cq ca (E2 (Ms P w ca) P w K mg base N qual (Qg st) f cdv A outer s H E) (ZB st) m):FnOk P w K mg base (Ms P w ca) (k+1) f fd ps (OK K ca j (QT j n m)):=by
 subst hj;obtain⟨oc,od,kV,doc,pm,an,cdv,ct,osl,dt,dk,de,dd,dn,ds,rfl,lk,hcd,y⟩:=F.ex;refine iX lk hcd S (λvs H Q E q=>q.1) λA outer s H vs Q E hr hsp=>?_;obtain⟨hl,ds,g,μ,r,q,p⟩:=hsp;refine⟨_,IG (h cdv A outer s H E hr [] _),ds.map some++List.replicate n none,g,μ,?_,?_⟩
 ·have z:=IF N r q;rw[hl,hn]at z;exact z
 ·unfold QT at p;rw[Ud (by rw[<-q.length,hl])]at p;cases hm:m (ds.map some++List.replicate n none) g with
  |nx σ' g'=>rw[hm]at p;exact λσ'' H' μ' e' R'=>p .non H' μ' e' R'.g .non
  |rt d g'=>rw[hm]at p;exact p|bk _ _=>rw[hm]at p;exact p.elim|ct _ _=>rw[hm]at p;exact p.elim|raise _ _ _=>rw[hm]at p;exact λσ'' H' μ' e' R'=>p H' μ' e' R'.g
  |stuck=>rw[hm]at p;exact p.elim
theorem gS(p:IsTup h a xs):∃dd n sl,h.get? a=some ⟨.type "tuple",dd,.seq xs n,sl⟩:=by obtain⟨⟨cls,dd,data,sl⟩,h1,h2,n,h3⟩:=p;simp only at h2 h3;subst h2 h3;exact⟨dd,n,sl,h1⟩
structure NamesX(X:Cx)(ca:Nat->Addr)(es:List Expr)(us:List V)(Ts:List Value)(all cs:List Nat):Prop where
 pa:∀pn Φ,PA (QI X ca pn Φ) es (λ_ H Q=>Q us H)
 vs:∀its,Vals us its->its=Ts
 ex:∀c∈all,ExK X.K (ca c)
 an:∀c∈all,kitAny X.K (.ref (ca c)) Ts=some (decide (c∈cs))
 no:kitAny X.K (.type "NoneType") Ts=some false
 ln:us.length<=100
theorem nJ{x:Str}{C:Addr}(hC:X.mg x=some (.ref C)/\IsX X.K ca (.ref C) all cs)(hg:Gl X x:=by rfl)(hdb:(x==("__debug__" : Str))=false:=by decide)(hs:starEach [.Name x p2] X.env=(false,eval (.Name x p2) X.env)::starEach [] X.env:=by rfl):NamesX X ca [.Name x p2] [.ref C] [.ref C] all cs where
 pa:=λpn Φ=>YX (X:=QI X ca pn Φ) (CZ (X:=QI X ca pn Φ) (v:=.ref C) hg hC.1 rfl hdb) E1 hs
 vs:=λits h=>by cases h with|cons h1 h2=>cases h2;cases h1;rfl
 ex:=hC.2.ex
 an:=λc hc=>by unfold kitAny;rw[hC.2.an c hc];cases decide (c∈cs)<;>rfl
 no:=by unfold kitAny;rw[hC.2.no];rfl
 ln:=by simp
theorem Bw{x:Str}{C:Addr}{es:List Expr}{us:List V}{Ts:List Value}{cs2:List Nat}(hC:X.mg x=some (.ref C)/\IsX X.K ca (.ref C) all cs)(hr:NamesX X ca es us Ts all cs2)(hl:us.length<=50:=by simp)(hg:Gl X x:=by rfl)(hdb:(x==("__debug__" : Str))=false:=by decide)(hs:starEach (.Name x p2::es) X.env=(false,eval (.Name x p2) X.env)::starEach es X.env:=by rfl):NamesX X ca (.Name x p2::es) (.ref C::us) (.ref C::Ts) all (cs++cs2) where
 pa:=λpn Φ=>YX (X:=QI X ca pn Φ) (CZ (X:=QI X ca pn Φ) (v:=.ref C) hg hC.1 rfl hdb) (hr.pa pn Φ) hs
 vs:=λits h=>by cases h with|cons h1 h2=>cases h1;rw[hr.vs _ h2]
 ex:=hC.2.ex
 an:=λc hc=>by
  unfold kitAny;rw[hC.2.an c hc];by_cases h:c∈cs
  ·rw[Uv h,Uv (Rl _ h)]
  ·rw[Ut h];dsimp only;rw[hr.an c hc];have:(c∈cs2)↔(c∈cs++cs2):=⟨λz=>UQ _ z,λz=>(UO.mp z).resolve_left h⟩;rw[Rb.mpr this]
 no:=by unfold kitAny;rw[hC.2.no];exact hr.no
 ln:=by rw[UA];omega
theorem Nm(N:NamesX X ca es us Ts all cs):JL X (.builtin "isinstance") (λxs H Q=>∃x q g μ d b,xs=[x,.ref q]/\SqT X.K H q us/\GRep X.K ca μ H g/\Den X.K μ H x d/\ZW all cs d g=.ok (.bl b) g/\Q (.bl b) H):=by
 intro pins s σ H xs ws Q I rv z;obtain⟨x,q,g,μ,d,b,rfl,hq,r,qd,ht,qq⟩:=z;obtain⟨v,v2,rfl,rx,r2⟩:=rv.two;cases r2;obtain⟨its,r1,p1,_⟩:=I.tuple hq;have e1:=N.vs _ r1;subst e1;obtain⟨dd,n,sl,ho⟩:=gS p1;have fin:∀tk,EP X pins σ Q (.bool b) {s with toks:=tk}:=λtk=>⟨.bl _,H,I.tok tk,rfl,qq⟩;cases qd with
 |non=>cases ht;cases (show v=Value.none from rx);exact kia_tup kitx_none I.kIn True.intro ho N.no (λz=>nomatch z) fin|@ref n a hn=>
  unfold ZW at ht;dsimp only at ht;cases hg:g[n]? with
  |none=>rw[hg]at ht;cases ht|some o=>
   rw[hg]at ht;obtain⟨a',ha',ob⟩:=r.addr hg;rw[hn]at ha';cases ha';cases o with
   |exc ex=>
    dsimp only at ht;by_cases hm:ex.1∈all
    ·rw[Ud hm]at ht;cases ht;cases rx;obtain⟨⟨o,vs,h1,h2,h3⟩,_⟩:=I.hok a _ ob;exact kia_tup (M5 (N.ex _ hm)) I.kIn ⟨o,vs,h1,h2,h3⟩ ho (N.an _ hm) (λz=>nomatch z) fin
    ·rw[Uf hm]at ht;cases ht
   |_=>cases ht
 |_=>cases ht
theorem bQ{k:Nat}{us:List V}{Ts:List Value}{es:List Expr}{cs':List Nat}(hi:X.mg "isinstance"=none)(N:NamesX X ca es us Ts all cs')(he:QD ca X e me)(hcs:∀c∈all,(c∈cs'↔c∈cs):=by decide)(hgi:Gl X "isinstance":=by rfl)(hs:starEach [e,.Tuple es k tp] X.env=(false,eval e X.env)::starEach [.Tuple es k tp] X.env:=by rfl)(hs2:starEach [.Tuple es k tp] X.env=(false,eval (.Tuple es k tp) X.env)::starEach [] X.env:=by rfl)(hpl:(backTo pos (starEach [.Tuple es k tp] X.env)).any (·.1)=false:=by rfl):
  QD ca X (.Call (.Name "isinstance" p) [e,.Tuple es k tp] [] pos) (Qt (ZW all cs) me):=λpn Φ=>by
 have N':NamesX X ca es us Ts all cs:=⟨N.pa,N.vs,N.ex,λc hc=>by rw[N.an c hc,Rb.mpr (hcs c hc)],N.no,N.ln⟩;have N2:NamesX (QI X ca pn Φ) ca es us Ts all cs:=⟨λpn' Φ'=>N'.pa pn' Φ',N'.vs,N'.ex,N'.an,N'.no,N'.ln⟩;refine Zb (Vn (X:=QI X ca pn Φ) (Nm N2) hgi hi WJ (YX (X:=QI X ca pn Φ) (he pn Φ) (YX (X:=QI X ca pn Φ) (Dw (X:=QI X ca pn Φ) (N'.pa pn Φ)) E1 hs2) hs) (by decide) (by decide) hs hpl) λσ H Q h=>?_;obtain⟨σ3,g,μ,R,q⟩:=h;refine Zg (YZ R q) λy H1 ⟨d,g1,μ1,e1,R1,q1,p1⟩=>?_;have:∃b,ZW all cs d g1=.ok (.bl b) g1:=by
  unfold ZW at p1 ⊢;cases d with
  |non=>exact⟨false,rfl⟩|ref n=>
   dsimp only at p1 ⊢;cases hg:g1[n]? with
   |none=>rw[hg]at p1;exact p1.elim|some o=>
    rw[hg]at p1;cases o with
    |exc ex=>
     dsimp only at p1 ⊢;by_cases hm:ex.1∈all
     ·rw[Ud hm];exact⟨_,rfl⟩
     ·rw[Uf hm]at p1;exact p1.elim
    |_=>exact p1.elim
  |_=>exact p1.elim
 obtain⟨b,hb⟩:=this;rw[hb]at p1;exact⟨Uo N.ln (Uo (by decide:100<=SZ) Y0),λq hq=>⟨y,q,g1,μ1,d,b,rfl,.of Qy,R1.g.new hq,q1.mono (Q3 hq),hb,p1 _ _ μ1 (Q3 hq) (R1.g.new hq) (.bl _)⟩⟩
end L3
namespace L3
open PySem
def O6:MS:=(QM (JV (Qt (YF .int) (Qa 0)) (Am (Qt (YF .bool) (Qa 0)))))
def VN:MF:=QT 1 0 O6
def O7:MS:=(QM (JV (Qp VN (Qc (Qa 0) Qi)) (E5 Oq HF (mI 0) (Qa 0) (Qa 1))))
def Z9:MF:=QT 2 0 O7
def FK:MS:=(QM (Vc (Ql (Qd Vp (Qa 0) (Qu (.str "r")))) (Qu (.str "l")) (Qu (.str "r"))))
def X3:MF:=QT 1 0 FK
def O8:MS:=(Qr (YV (Ql (Qd P3 (Qa 0) (Qu .non))) (QM (Qu (.bl true))) QV)
 (Qr (YV (BZ (ZS (Ql (Qt (YF .tuple) (Qa 0)))) (Ql (Qd MK (Qt Zv (Qa 0)) (mI 3)))) (QM (Qu (.bl false))) QV)
 (QM (JV (Qp Z9 (Qc (Qd QZ (Qa 0) (mI 0)) (Qc (Qa 2) Qi))) (JV (Qd (lP false) (Qd QZ (Qa 0) (mI 1)) (QX ZQ (Qc (Qu (.str "l")) (Qc (Qu (.str "r")) Qi)))) (Qp Z9 (Qc (Qd QZ (Qa 0) (mI 2)) (Qc (Qa 1) Qi))))))))
def Jy:MF:=QT 3 0 O8
def ZA:MS:=(Qr (YV (Ql (Qd MK (Qt Zv (Qa 3)) (Qa 2))) Kn QV)
 (YV (ZS (Ql (Qt Lo (ZN (Zp (Qa 3)) 1 [1,2] (Qn 0) Yw (Qp Jy (Qc (Qa 0) (Qc (Qa 1) (Qc (Qa 2) Qi)))))))) Kn QV))
def Yk:MS:=(Qr (YV (Ql (Qd Vp (Qt Zv (Qa 0)) (mI 0))) Kn QV)
 (Qr (QK (Qn 1) (Qt Zv (Qa 0)))
 (Qr (QK (Qn 2) (Qt Zv (Qd QZ (Qa 0) (mI 0))))
 (Qr (YV (Ql (Qd Vp (Qa 2) (mI 0))) Kn QV)
 (Jn (Zp (Qa 0)) (Qn 3) ZA)))))
def Yl:MF:=QT 1 3 Yk
def KE:MS:=(Qr (QK (Qn 2) (Qt Jv (ZN (Zp (Qa 1)) 1 [] (Qn 0) Yw (Qt Jv (Qa 0)))))
 (Qr (Q2 (Qp Yl (Qc (Qa 2) Qi)))
 (QJ [11,12] "table" (Qa 0) (Qa 2))))
def ZI:MF:=QT 2 1 KE
def KF:MS:=(Qr (QJ [11,12] "table" (Qa 0) (Qq [11,12] "table" (Qa 1)))
 (Qr (QJ [12] "state" (Qa 0) (Qd QZ (Qa 2) (mI 0)))
 (Qr (QJ [12] "place" (Qa 0) (Qd QZ (Qa 2) (mI 1)))
 (Qr (QJ [12] "left_marks" (Qa 0) (ZN (Zp (Qd QZ (Qa 2) (mI 2))) 2 [0] (Jp [(Qn 0),(Qn 1)]) (Ql (Qd HF (Qa 0) (Qq [12] "place" (Qa 2)))) (QX ZQ (Qc (Qa 0) (Qc (Qa 1) Qi)))))
 (QJ [12] "right_marks" (Qa 0) (ZN (OU (Qd QZ (Qa 2) (mI 2))) 2 [0] (Jp [(Qn 0),(Qn 1)]) (Ql (Qd lN (Qa 0) (Qq [12] "place" (Qa 2)))) (QX ZQ (Qc (Qa 0) (Qc (Qa 1) Qi)))))))))
def JP:MF:=QT 3 0 KF
def Ev:MS:=(QM (JV (Qd Lk (Qt Zv (Qq [12] "right_marks" (Qa 0))) (mI 0)) (Qd Vp (Qd QZ (Qd QZ (Qq [12] "right_marks" (Qa 0)) (Qt XY (mI 1))) (mI 0)) (Qq [12] "place" (Qa 0)))))
def Q4:MF:=QT 1 0 Ev
def VO:MS:=(Qr (QK (Qn 1) (Vc (Ql (QS 12 "is_on_mark" Q4 (Qa 0) Qi)) (Qd QZ (Qd QZ (Qq [12] "right_marks" (Qa 0)) (Qt XY (mI 1))) (mI 1)) (mI 0)))
 (QM (Qd QZ (Qd QZ (Qq [11,12] "table" (Qa 0)) (Qq [12] "state" (Qa 0))) (Qa 1))))
def Ym:MF:=QT 1 1 VO
def Y3:MS:=(Qr (YV (Ql (QS 12 "is_on_mark" Q4 (Qa 0) Qi)) (Q2 (Qt E6 (Qq [12] "right_marks" (Qa 0)))) QV)
 (YV (Ql (Qd MK (Qa 1) (mI 0))) (Q2 (Zc (Qq [12] "right_marks" (Qa 0)) (QX ZQ (Qc (Qq [12] "place" (Qa 0)) (Qc (Qa 1) Qi))))) QV))
def Xm:MF:=QT 2 0 Y3
def JY:MS:=(Qr (YV (Ql (QS 12 "is_on_mark" Q4 (Qa 0) Qi)) (Q2 (Zc (Qq [12] "left_marks" (Qa 0)) (Qt E6 (Qq [12] "right_marks" (Qa 0))))) QV)
 (QJ [12] "place" (Qa 0) (Qd ZL (Qq [12] "place" (Qa 0)) (mI 1))))
def YJ:MF:=QT 1 0 JY
def XD:MS:=(Qr (QJ [12] "place" (Qa 0) (Qd YW (Qq [12] "place" (Qa 0)) (mI 1)))
 (YV (YR (Ql (Qd Lk (Qt Zv (Qq [12] "left_marks" (Qa 0))) (mI 0))) (Ql (Qd Vp (Qd QZ (Qd QZ (Qq [12] "left_marks" (Qa 0)) (Qt XY (mI 1))) (mI 0)) (Qq [12] "place" (Qa 0))))) (Q2 (Zc (Qq [12] "right_marks" (Qa 0)) (Qt E6 (Qq [12] "left_marks" (Qa 0))))) QV))
def Y4:MF:=QT 1 0 XD
def Ya:MS:=(Qr (QK (Qn 1) (QS 12 "entry" Ym (Qa 0) Qi))
 (Qr (YV (Ql (Qd P3 (Qa 1) (Qu .non))) (QM (Qu (.bl false))) QV)
 (Qr (Q2 (QS 12 "write" Xm (Qa 0) (Qc (Qd QZ (Qa 1) (mI 0)) Qi)))
 (Qr (YV (Ql (Qd Vp (Qd QZ (Qa 1) (mI 1)) (Qu (.str "r")))) (Q2 (QS 12 "go_right" YJ (Qa 0) Qi)) (Q2 (QS 12 "go_left" Y4 (Qa 0) Qi)))
 (Qr (QJ [12] "state" (Qa 0) (Qd QZ (Qa 1) (mI 2)))
 (QM (Qu (.bl true))))))))
def QL:MF:=QT 1 1 Ya
def Vf:MS:=(QK (Qn 2) (Qd ZL (Qa 2) (mI 1)))
def CA:MS:=(Qr (QK (Qn 2) (mI 0))
 (Qr (Kp (YR (Ql (Qd HF (Qa 2) (Qa 1))) (Ql (QS 12 "stepped" QL (Qa 0) Qi))) Vf)
 (QM (Qa 2))))
def CB:MF:=QT 2 1 CA
def Nn:MS:=(QM (QX ZQ (Qc (Qq [12] "state" (Qa 0)) (Qc (Qq [12] "place" (Qa 0)) (Qc (Qd ZL (Qt Jv (Qq [12] "left_marks" (Qa 0))) (Qt Xt (Qq [12] "right_marks" (Qa 0)))) Qi)))))
def X4:MF:=QT 1 0 Nn
def CC:MS:=(Qr (QK (Qn 2) (Jq 12 JP (Qc (Qa 0) (Qc (Qu (.tup [(.int 0),(.int 0),(.tup [])])) Qi))))
 (Qr (QK (Qn 3) (QS 12 "run" CB (Qa 2) (Qc (Qa 1) Qi)))
 (QM (Vc (YR (Ql (Qd lN (Qa 1) (mI 0))) (Ql (Qd P3 (QS 12 "entry" Ym (Qa 2) Qi) (Qu .non)))) (Qa 3) (Qu .non)))))
def VQ:MF:=QT 2 2 CC
def CD:MS:=(Q2 (Zc (Qa 3) (QS 12 "shot" X4 (Qa 2) Qi)))
def LM:MS:=(Qr (QK (Qn 2) (Jq 12 JP (Qc (Qa 0) (Qc (Qu (.tup [(.int 0),(.int 0),(.tup [])])) Qi))))
 (Qr (QK (Qn 3) (QX Z6 (Qc (QS 12 "shot" X4 (Qa 2) Qi) Qi)))
 (Qr (Kp (YR (Ql (Qd Oq (Qt Zv (Qa 3)) (Qa 1))) (Ql (QS 12 "stepped" QL (Qa 2) Qi))) CD)
 (QM (Qa 3)))))
def Bz:MF:=QT 2 2 LM
def LN:MS:=(QM (ZN (Zp (Qd QZ (Qa 0) (mI 2))) 2 [0,1] (Jp [(Qn 0),(Qn 1)]) (Ql (Qd lN (Qd YW (Qa 0) (Qd QZ (Qa 2) (mI 1))) (Qt XY (Qa 3)))) (QX ZQ (Qc (Qd YW (Qa 0) (Qd QZ (Qa 2) (mI 1))) (Qc (Qa 1) Qi)))))
def Yn:MF:=QT 2 0 LN
def HN:MS:=(QM (ZN (Zp (Qd QZ (Qa 0) (mI 2))) 2 [0,1] (Jp [(Qn 0),(Qn 1)]) (Ql (Qd Oq (Qd YW (Qa 0) (Qd QZ (Qa 2) (mI 1))) (Qa 3))) (QX ZQ (Qc (Qd YW (Qa 0) (Qd QZ (Qa 2) (mI 1))) (Qc (Qa 1) Qi)))))
def ZU:MF:=QT 2 0 HN
def LO:MS:=(Qr (YV (BZ (Ql (Qd MK (Qd QZ (Qa 0) (mI 0)) (Qd QZ (Qa 1) (mI 0)))) (Ql (Qd Vp (Qd QZ (Qa 0) (mI 1)) (Qd QZ (Qa 1) (mI 1))))) (QM (Qu (.bl false))) QV)
 (Qr (YV (Ql (Qd HF (Qd QZ (Qa 0) (mI 1)) (Qd QZ (Qa 1) (mI 1)))) (QM (Qd Vp (Qp Yn (Qc (Qa 0) (Qc (Qa 2) Qi))) (Qp Yn (Qc (Qa 1) (Qc (Qa 2) Qi))))) QV)
 (QM (Qd Vp (Qp ZU (Qc (Qa 0) (Qc (Qa 3) Qi))) (Qp ZU (Qc (Qa 1) (Qc (Qa 3) Qi)))))))
def Y5:MF:=QT 4 0 LO
def Yo:MS:=(Qr (YV (Ql (Qd aU (Qa 4) (Qa 2))) (QM (QX ZQ (Qc (Qu (.str "same")) (Qc (Qd gC (Qa 2) (Qa 4)) (Qc (Qa 3) Qi))))) QV)
 (Cy (Qa 2) (Qa 4) (Qa 3)))
def AR:MS:=(Qr (QK (Qn 2) (JX 2))
 (Qr (Jn (Bn (Qp Bz (Qc (Qa 0) (Qc (Qa 1) Qi)))) (Jp [(Qn 3),(Qn 4)]) Yo)
 (QM (Qu .non))))
def Vt:MF:=QT 2 3 AR
def ZR:MS:=(Qr (QK (Qn 7) (Qd QZ (Qa 0) (Qa 6)))
 (Qr (QK (Qn 3) (Qd FI (Qa 3) (Qd QZ (Qa 7) (mI 1))))
 (Qr (QK (Qn 4) (Qd aQ (Qa 4) (Qd QZ (Qa 7) (mI 1))))
 (YV (Ql (Qp Y5 (Qc (Qa 7) (Qc (Qa 2) (Qc (Qd YW (Qd QZ (Qa 7) (mI 1)) (Qa 3)) (Qc (Qd YW (Qa 4) (Qd QZ (Qa 7) (mI 1))) Qi)))))) (QK (Qn 5) (Qa 6)) QV))))
def FY:MS:=(Qr (QK (Qn 2) (Qd QZ (Qa 0) (Qa 1)))
 (Qr (QK (Qn 3) (Qd QZ (Qa 2) (mI 1)))
 (Qr (QK (Qn 4) (Qd QZ (Qa 2) (mI 1)))
 (Qr (QK (Qn 5) (Qu .non))
 (Qr (Jn (Vs (Qd YW (Qa 1) (mI 1)) (Qt XY (mI 1))) (Qn 6) ZR)
 (QM (Qa 5)))))))
def YK:MF:=QT 2 6 FY
def YL:MS:=(Qr (QK (Qn 4) (Qp YK (Qc (Qa 2) (Qc (Qa 3) Qi))))
 (YV (Ql (Qd Kq (Qa 4) (Qu .non))) (QM (QX ZQ (Qc (Qu (.str "shifted")) (Qc (Qa 4) (Qc (Qa 3) Qi))))) QV))
def LP:MS:=(Qr (QK (Qn 2) (Qp Bz (Qc (Qa 0) (Qc (Qa 1) Qi))))
 (Qr (Jn (Zu (mI 1) (Qt Zv (Qa 2))) (Qn 3) YL)
 (QM (Qu .non))))
def Y6:MF:=QT 2 3 LP
def Ew:MS:=(QM (Qd ZL (Qd ZE (Qd ZE (mI 2) (Qa 0)) (Qa 1)) (mI 1)))
def Z3:MF:=QT 2 0 Ew
def XF:MS:=(QK (Qn 3) (Qd ZE (Qa 3) (Qa 2)))
def FZ:MS:=(Qr (QK (Qn 2) (Qp Z3 (Qc (Qa 0) (Qc (Qa 1) Qi))))
 (Qr (QK (Qn 3) (mI 1))
 (Qr (Jn (Zl (Qd ZE (Qa 0) (Qa 1))) (Qn 4) XF)
 (QM (Qa 3)))))
def JZ:MF:=QT 2 3 FZ
def O9:MS:=(Qr (YV (Ql (Qd Vp (Qa 0) (mI 0))) (QM (Qu .non)) QV)
 (Qr (QK (Qn 2) (Qd Yx (Qd YW (Qa 0) (mI 1)) (Qa 1)))
 (Qr (QK (Qn 3) (Vc (Ql (Qd Vp (Qd ZM (Qa 2) (mI 2)) (mI 1))) (Qu (.str "r")) (Qu (.str "l"))))
 (QM (QX ZQ (Qc (Qd Yx (Qa 2) (mI 2)) (Qc (Qa 3) (Qc (Qd ZM (Qd YW (Qa 0) (mI 1)) (Qa 1)) Qi))))))))
def VR:MF:=QT 2 2 O9
def J0:MS:=(Qr (Q2 (Zc (Qa 5) (Qp VR (Qc (Qd ZM (Qa 4) (Qa 3)) (Qc (Qa 0) Qi)))))
 (QK (Qn 4) (Qd Yx (Qa 4) (Qa 3))))
def Yp:MS:=(Qr (YV (BZ (Ql (Qd HF (Qa 0) (mI 1))) (Ql (Qd HF (Qa 1) (mI 1)))) (Ko 3 (Qc (Qu (.str "a machine has at least one state and one sign")) Qi)) QV)
 (Qr (YV (Ql (Qd HF (Qa 2) (mI 0))) (Ko 3 (Qc (Qu (.str "no number of a machine is below nought")) Qi)) QV)
 (Qr (QK (Qn 3) (Qp Z3 (Qc (Qa 0) (Qc (Qa 1) Qi))))
 (Qr (QK (Qn 4) (Qa 2))
 (Qr (QK (Qn 5) (QX Z6 Qi))
 (Qr (Jn (Zl (Qd ZE (Qa 0) (Qa 1))) (Qn 6) J0)
 (Qr (YV (Ql (Qd MK (Qa 4) (mI 0))) (Ko 3 (Qc (Qu (.str "the number is beyond that of the last machine")) Qi)) QV)
 (QM (Jq 11 ZI (Qc (ZN (Zl (Qa 0)) 1 [5,1] (Qn 0) Yw (Z7 (Qa 1) (ZO (Qd ZE (Qa 0) (Qa 2))) (ZO (Qd ZE (Qd ZL (Qa 0) (mI 1)) (Qa 2))))) Qi))))))))))
def QY:MF:=QT 3 4 Yp
def Pa:MS:=(QM (Qd QZ (Qd QZ (Qq [11,12] "table" (Qa 0)) (Qd QZ (Qa 1) (mI 1))) (Qd QZ (Qa 1) (mI 2))))
def XG:MF:=QT 2 0 Pa
def Ca:MS:=(QM (Vc (Ql (Qd Vp (Qd QZ (Qa 0) (mI 1)) (Qu (.str "r")))) (Qd QZ (Qa 1) (mI 0)) (Qd QZ (Qa 1) (mI 3))))
def YH:MF:=QT 2 0 Ca
def Ex:MS:=(QM (Vc (Ql (Qd Vp (Qd QZ (Qa 0) (mI 1)) (Qu (.str "r")))) (Qd QZ (Qa 1) (mI 3)) (Qd QZ (Qa 1) (mI 0))))
def Y7:MF:=QT 2 0 Ex
def XH:MS:=(Qr (QK (Qn 3) (Qd QZ (Qp Y7 (Qc (Qa 0) (Qc (Qa 1) Qi))) (mI 0)))
 (Qr (QK (Qn 4) (Qd ZL (QX ZQ (Qc (Qd QZ (Qa 0) (mI 0)) Qi)) (Z7 (Qp YH (Qc (Qa 0) (Qc (Qa 1) Qi))) JF (ZO (Qt XY (mI 1))))))
 (Qr (YV (Ql (Qd Vp (Qd QZ (Qa 0) (mI 1)) (Qu (.str "r")))) (QM (QX ZQ (Qc (Qa 4) (Qc (Qd QZ (Qa 0) (mI 2)) (Qc (Qa 3) (Qc (Qa 2) Qi)))))) QV)
 (QM (QX ZQ (Qc (Qa 2) (Qc (Qd QZ (Qa 0) (mI 2)) (Qc (Qa 3) (Qc (Qa 4) Qi)))))))))
def ZJ:MF:=QT 3 2 XH
def LQ:MS:=(QJ [14] "by_seen" (Qa 0) (JX 0))
def Xn:MF:=QT 1 0 LQ
def Ey:MS:=(QM (LG (Qq [14] "by_seen" (Qa 0)) (Qa 1) (QX Z6 Qi)))
def Zm:MF:=QT 2 0 Ey
def No:MS:=(QM (Qd gM (Qa 1) (QS 14 "beginning" Zm (Qa 0) (Qc (Z7 (Qa 1) JF (ZO (Qt XY (mI 1)))) Qi))))
def Yb:MF:=QT 2 0 No
def Yc:MS:=(YV (ZS (Ql (QS 14 "has" Yb (Qa 0) (Qc (Qa 1) Qi)))) (Q2 (Zc (Vr (Qq [14] "by_seen" (Qa 0)) (Z7 (Qa 1) JF (ZO (Qt XY (mI 1)))) (QX Z6 Qi)) (Qa 1))) QV)
def Yd:MF:=QT 2 0 Yc
def Xh:MS:=(Q2 (Gj (Qa 1) (Qa 2)))
def Jz:MS:=(Qr (QK (Qn 1) (QX Z6 Qi))
 (Qr (Jn (bG (Qq [14] "by_seen" (Qa 0))) (Qn 2) Xh)
 (QM (Qt Et (Qa 1)))))
def Yq:MF:=QT 1 2 Jz
def Cb:MS:=(Q2 (QS 14 "put_in" Yd (Qa 1) (Qc (Qa 2) Qi)))
def CF:MS:=(Qr (QK (Qn 1) (Jq 14 Xn Qi))
 (Qr (Jn (Zp (Qa 0)) (Qn 2) Cb)
 (QM (Qa 1))))
def YN:MF:=QT 1 2 CF
def YA:MS:=(YV (Ql (Qd El (Qa 1) (Qq [15] "contexts" (Qa 0)))) (Qr (Cy (Qq [15] "contexts" (Qa 0)) (Qa 1) (Qu (.bl true)))
 (Q2 (Zc (Qq [15] "pending" (Qa 0)) (Qa 1)))) QV)
def Ze:MF:=QT 2 0 YA
def JA:MS:=(Qr (QK (Qn 3) (Qd Ss (QX ZQ (Qc (mI 0) Qi)) (Qa 2)))
 (Qr (QJ [15] "machine" (Qa 0) (Qa 1))
 (Qr (QJ [15] "sides" (Qa 0) (VM (Qc (Qu (.str "l")) (Qc (Qp YN (Qc (QX Z6 (Qc (Qa 3) Qi)) Qi)) (Qc (Qu (.str "r")) (Qc (Qp YN (Qc (QX Z6 (Qc (Qa 3) Qi)) Qi)) Qi))))))
 (Qr (QJ [15] "contexts" (Qa 0) (JX 1))
 (Qr (QJ [15] "pending" (Qa 0) (QX Z6 Qi))
 (Qr (QJ [15] "asking" (Qa 0) (VM (Qc (Qu (.str "l")) (Qc (JX 0) (Qc (Qu (.str "r")) (Qc (JX 0) Qi))))))
 (Q2 (QS 15 "ask_for" Ze (Qa 0) (Qc (QX ZQ (Qc (Qa 3) (Qc (mI 0) (Qc (mI 0) (Qc (Qa 3) Qi))))) Qi)))))))))
def Yr:MF:=QT 3 1 JA
def YT:MS:=(Q2 (QS 15 "ask_for" Ze (Qa 0) (Qc (Qp ZJ (Qc (Qp XG (Qc (Qq [15] "machine" (Qa 0)) (Qc (Qa 3) Qi))) (Qc (Qa 3) (Qc (Qa 2) Qi)))) Qi)))
def Ye:MS:=(Qr (YV (Ql (QS 14 "has" Yb (Qd ZP (Qq [15] "sides" (Qa 0)) (Qa 1)) (Qc (Qa 2) Qi))) DL QV)
 (Qr (Q2 (QS 14 "put_in" Yd (Qd ZP (Qq [15] "sides" (Qa 0)) (Qa 1)) (Qc (Qa 2) Qi)))
 (Jn (Zp (LG (Qd ZP (Qq [15] "asking" (Qa 0)) (Qa 1)) (Z7 (Qa 2) JF (ZO (Qt XY (mI 1)))) (QX Z6 Qi))) (Qn 3) YT)))
def Yf:MF:=QT 3 1 Ye
def Y8:MS:=(Q2 (QS 15 "ask_for" Ze (Qa 0) (Qc (Qp ZJ (Qc (Qa 2) (Qc (Qa 1) (Qc (Qa 5) Qi)))) Qi)))
def Zs:MS:=(Qr (QK (Qn 1) (Qt E6 (Qq [15] "pending" (Qa 0))))
 (Qr (QK (Qn 2) (Qp XG (Qc (Qq [15] "machine" (Qa 0)) (Qc (Qa 1) Qi))))
 (Qr (YV (Ql (Qd P3 (Qa 2) (Qu .non))) (QM (Qu (.bl false))) QV)
 (Qr (QK (Qn 3) (Qd QZ (Qa 2) (mI 1)))
 (Qr (Q2 (QS 15 "put_gram" Yf (Qa 0) (Qc (Qp X3 (Qc (Qa 3) Qi)) (Qc (Qp YH (Qc (Qa 2) (Qc (Qa 1) Qi))) Qi))))
 (Qr (QK (Qn 4) (Z7 (Qp Y7 (Qc (Qa 2) (Qc (Qa 1) Qi))) (ZO (mI 1)) JF))
 (Qr (Q2 (Zc (Vr (Qd ZP (Qq [15] "asking" (Qa 0)) (Qa 3)) (Qa 4) (QX Z6 Qi)) (Qa 1)))
 (Qr (Jn (Zp (QS 14 "beginning" Zm (Qd ZP (Qq [15] "sides" (Qa 0)) (Qa 3)) (Qc (Qa 4) Qi))) (Qn 5) Y8)
 (QM (Qu (.bl true)))))))))))
def Zf:MF:=QT 1 5 Zs
def Ez:MS:=(QM (QX ZQ (Qc (Qu (.str "wall")) (Qc (Qa 1) (Qc (QS 14 "in_order" Yq (Qd ZP (Qq [15] "sides" (Qa 0)) (Qu (.str "l"))) Qi) (Qc (QS 14 "in_order" Yq (Qd ZP (Qq [15] "sides" (Qa 0)) (Qu (.str "r"))) Qi) (Qc (Qt Es (Qq [15] "contexts" (Qa 0))) Qi)))))))
def Z4:MF:=QT 2 0 Ez
def Ys:MS:=(YV (BZ (Ql (Qd Lk (Qt Er (Qq [15] "contexts" (Qa 3))) (Qa 2))) (ZS (Ql (QS 15 "went_on" Zf (Qa 3) Qi)))) (QM (Qu .non)) QV)
def Fd:MS:=(Qr (YV (Ql (Qd HF (Qa 1) (mI 1))) Kn QV)
 (Qr (QK (Qn 3) (Jq 15 Yr (Qc (Qa 0) (Qc (Qa 1) Qi))))
 (Qr (Kp (Ql (Qd Lk (Qt Zv (Qq [15] "pending" (Qa 3))) (mI 0))) Ys)
 (QM (Vc (Ql (Qd Oq (Qt Er (Qq [15] "contexts" (Qa 3))) (Qa 2))) (QS 15 "paper" Z4 (Qa 3) (Qc (Qa 1) Qi)) (Qu .non))))))
def Vu:MF:=QT 3 1 Fd
def J4:MS:=(Qr (QK (Qn 3) (Qp Vu (Qc (Qa 0) (Qc (Qa 2) (Qc (mI 200) Qi)))))
 (YV (Ql (Qd Kq (Qa 3) (Qu .non))) (QM (Qa 3)) QV))
def LR:MS:=(Qr (Jn (Zu (mI 1) (Qd ZL (Qa 1) (mI 1))) (Qn 2) J4)
 (QM (Qu .non)))
def VS:MF:=QT 2 2 LR
def HQ:MS:=(Qr (QK (Qn 3) (Qp Vt (Qc (Qa 0) (Qc (Qa 1) Qi))))
 (Qr (YV (Ql (Qd Kq (Qa 3) (Qu .non))) (QM (Qa 3)) QV)
 (Qr (QK (Qn 4) (Qp Y6 (Qc (Qa 0) (Qc (Qa 1) Qi))))
 (Qr (YV (Ql (Qd Kq (Qa 4) (Qu .non))) (QM (Qa 4)) QV)
 (QM (Qp VS (Qc (Qa 0) (Qc (Qa 2) Qi))))))))
def JH:MF:=QT 3 2 HQ
def gT:MS:=(Qr (QK (Qn 3) (Qp VQ (Qc (Qa 0) (Qc (Qa 1) Qi))))
 (Qr (YV (Ql (Qd Kq (Qa 3) (Qu .non))) (QM (QX ZQ (Qc (Qu (.str "stops")) (Qc (Qa 3) Qi)))) QV)
 (Qr (QK (Qn 4) (Qp JH (Qc (Qa 0) (Qc (Qa 1) (Qc (Qa 2) Qi)))))
 (QM (Vc (Ql (Qd P3 (Qa 4) (Qu .non))) (QX ZQ (Qc (Qu (.str "open")) (Qc (Qu .non) Qi))) (QX ZQ (Qc (Qu (.str "never")) (Qc (Qa 4) Qi))))))))
def VT:MF:=QT 3 2 gT
def AS:MS:=(QM (Vc (Ql (Qd Vp (Qd QZ (Qa 0) (mI 0)) (Qu (.str "never")))) (Qd QZ (Qd QZ (Qa 0) (mI 1)) (mI 0)) (Qd QZ (Qa 0) (mI 0))))
def BE:MF:=QT 1 0 AS
def AT:MS:=(Q2 (Zc (Qa 6) (QX ZQ (Qc (Qa 7) (Qc (Qp BE (Qc (Qp VT (Qc (Qp QY (Qc (Qa 0) (Qc (Qa 1) (Qc (Qa 7) Qi)))) (Qc (Qa 4) (Qc (Qa 5) Qi)))) Qi)) Qi)))))
def Pb:MS:=(Qr (Q2 (Qp QY (Qc (Qa 0) (Qc (Qa 1) (Qc (Qa 2) Qi)))))
 (Qr (QK (Qn 6) (QX Z6 Qi))
 (Qr (Jn (Zu (Qa 2) (Qd FI (Qd ZL (Qa 2) (Qa 3)) (Qp JZ (Qc (Qa 0) (Qc (Qa 1) Qi))))) (Qn 7) AT)
 (QM (Qa 6)))))
def Fe:MF:=QT 6 2 Pb
def KG:MS:=(GS (Qa 1) (Qa 3) (Qd ZL (Qd ZP (Qa 1) (Qa 3)) (mI 1)))
def Np:MS:=(Qr (QK (Qn 1) (VM (Qc (Qu (.str "stops")) (Qc (mI 0) (Qc (Qu (.str "same")) (Qc (mI 0) (Qc (Qu (.str "shifted")) (Qc (mI 0) (Qc (Qu (.str "wall")) (Qc (mI 0) (Qc (Qu (.str "open")) (Qc (mI 0) Qi))))))))))))
 (Qr (Jn (Zp (Qa 0)) (Jp [(Qn 2),(Qn 3)]) KG)
 (QM (Qa 1))))
def JQ:MF:=QT 1 3 Np
def GW:MS:=(Qr (GB (Qa 1) (mI 0) (Qd ZL (Qd QZ (Qa 1) (mI 0)) (mI 1)))
 (Qr (QK (Qn 2) (Vc (Ql (Qd Lk (Qt Zv (Qa 0)) (mI 0))) (Qd QZ (Qa 0) (Qd ZM (Qd QZ (Qa 1) (mI 0)) (Qt Zv (Qa 0)))) (mI 0)))
 (Qr (QK (Qn 3) (Qd ZM (Qd ZE (Qd ZL (Qd ZL (Qd ZM (Qa 2) (mI 2147483647)) (Qd ZE (Qd ZE (Qd QZ (Qa 1) (mI 0)) (Qd QZ (Qa 1) (mI 0))) (mI 7919))) (mI 11)) (mI 48271)) (mI 2147483647)))
 (QM (Qd ZM (Qd ZE (Qa 3) (Qa 3)) (mI 1999999973))))))
def Vv:MF:=QT 2 2 GW
def KH(me:MF):MS:=(Qr (YV (BZ (Ql (Qt (YF .list) (Qa 1))) (Ql (Qt (YF .tuple) (Qa 1)))) (Qr (YV (BZ (Ql (Qd MK (Qt (YF .list) (Qa 0)) (Qt (YF .list) (Qa 1)))) (Ql (Qd MK (Qt (YF .tuple) (Qa 0)) (Qt (YF .tuple) (Qa 1))))) (QM (Qu (.bl false))) QV)
 (QM (JV (Qd Vp (Qt Zv (Qa 0)) (Qt Zv (Qa 1))) (Qt Lo (ZN (Lj (Qa 0) (Qa 1)) 2 [] (Jp [(Qn 0),(Qn 1)]) Yw (Qp me (Qc (Qa 0) (Qc (Qa 1) Qi)))))))) QV)
 (Qr (YV (Ql (Qd P3 (Qa 1) (Qu .non))) (QM (Qd P3 (Qa 0) (Qu .non))) QV)
 (Qr (YV (Ql (Qt (YF .str) (Qa 1))) (QM (JV (Qt (YF .str) (Qa 0)) (Qd Vp (Qa 0) (Qa 1)))) QV)
 (QM (JV (Qt (YF .int) (Qa 0)) (JV (Am (Qt (YF .bool) (Qa 0))) (Qd Vp (Qa 0) (Qa 1))))))))
def Zw:Nat->MF
 |0=>λ_ _=>.stuck
 |k+1=>QT 2 0 (KH (Zw k))
def KI:MS:=(Qr (QK (Qn 4) (Qu .non))
 (Qr (DN (Q2 (Qp Fe (Qc (Qa 0) (Qc (Qa 1) (Qc (Qa 2) (Qc (Qa 3) (Qc (mI 3) (Qc (mI 1) Qi)))))))) [⟨[0,1,2,3,4,6,7,9,10],[],some 5,(QK (Qn 4) (Qa 5))⟩])
 (Qr (YV (BZ (ZS (Ql (Qt (ZW [0,1,2,3,4,6,7,9,10] [3]) (Qa 4)))) (ZS (Ql (Qt (ZW [0,1,2,3,4,6,7,9,10] [0,1,2,3,4,6,7,9,10]) (Qa 4))))) (QM (Qu (.bl false))) QV)
 (QM (Am (Qt (ZW [0,1,2,3,4,6,7,9,10] [1,2,4,6,7,9,10]) (Qa 4)))))))
def YU:MF:=QT 4 2 KI
def bR:MS:=(Qr (QK (Jp [(Qn 3),(Qn 4)]) (Qp VT (Qc (Qa 0) (Qc (Qa 1) (Qc (Qa 2) Qi)))))
 (QM (Vc (Ql (Qd Vp (Qa 3) (Qu (.str "never")))) (Qd QZ (Qa 4) (mI 0)) (Qa 3))))
def EA:MF:=QT 3 2 bR
def Cc:MS:=(GS (Qa 1) (Qa 2) (Qt Zv (ZN (Zp (Qa 0)) 1 [2] (Qn 0) (Ql (Qd Vp (Qd QZ (Qa 0) (mI 1)) (Qa 1))) (Qa 0))))
def Pc:MS:=(Qr (QK (Qn 1) jK)
 (Qr (Jn (Zp (QX Z6 (Qc (Qu (.str "stops")) (Qc (Qu (.str "same")) (Qc (Qu (.str "shifted")) (Qc (Qu (.str "wall")) (Qc (Qu (.str "open")) Qi))))))) (Qn 2) Cc)
 (QM (Qa 1))))
def CG:MF:=QT 1 2 Pc
def Nq:MS:=(Qr (QK (Qn 2) (Qp CG (Qc (Qa 1) Qi)))
 (Qr (YV (BZ (ZS (Ql (Qt (YF .dict) (Qa 0)))) (Ql (Qd MK (Qt Nl (Qa 0)) (mI 5)))) (QM (Qu (.bl false))) QV)
 (QM (Qt Lo (ZN (Eu (Qa 2)) 1 [0,2] (Qn 0) Yw (JV (Qd O4 (Qa 0) (Qa 1)) (Qp (Zw 6) (Qc (Qd ZP (Qa 1) (Qa 0)) (Qc (Qd GV (Qa 2) (Qa 0)) Qi)))))))))
def X5:MF:=QT 2 1 Nq
def Nr:MS:=(Q2 (Zc (Qa 7) (QX ZQ (Qc (Qa 8) (Qc (Qp EA (Qc (Qp QY (Qc (Qa 0) (Qc (Qa 1) (Qc (Qa 8) Qi)))) (Qc (Qa 4) (Qc (Qa 5) Qi)))) Qi)))))
def X6:MS:=(Qr (QK (Qn 10) (Qp Fe (Qc (Qa 0) (Qc (Qa 1) (Qc (Qa 2) (Qc (Qa 3) (Qc (Qa 4) (Qc (Qa 5) Qi))))))))
 (Qr (YV (BZ (ZS (Ql (Qp (Zw 6) (Qc (Qa 10) (Qc (Qa 7) Qi))))) (ZS (Ql (Qp X5 (Qc (Qp JQ (Qc (Qa 10) Qi)) (Qc (Qa 7) Qi)))))) (QM (Qu (.bl false))) QV)
 (Qr (QK (Qn 11) (Qp JQ (Qc (Qa 10) Qi)))
 (Qr (GS (Qa 11) (Qu (.str "open")) (mI 99))
 (Qr (YV (ZS (Ql (Qp X5 (Qc (Qp JQ (Qc (Qa 10) Qi)) (Qc (Qa 7) Qi))))) (QM (Qu (.bl false))) QV)
 (Q2 (Zc (Qa 10) (QX ZQ (Qc (mI 0) (Qc (Qu (.str "open")) Qi))))))))))
def GX:MS:=(Qr (QK (Qn 7) (QX Z6 Qi))
 (Qr (Jn (Zu (Qa 2) (Qd FI (Qd ZL (Qa 2) (Qa 3)) (Qa 6))) (Qn 8) Nr)
 (Qr (Jn (Zl (mI 2)) (Qn 9) X6)
 (QM (Qu (.bl true))))))
def GY:MF:=QT 7 5 GX
def Nt:MS:=(QK (Qn 5) (Qd ZE (Qa 5) (Qd ZL (Qd ZE (Qd ZE (mI 2) (Qa 3)) (Qa 4)) (mI 1))))
def Nu:MS:=(YV (ZS (Ql (Qp YU (Qc (Qa 3) (Qc (Qa 4) (Qc (Qa 9) (Qc (Qd ZM (Qd Yx (Qa 2) (mI 13)) (mI 3)) Qi))))))) (QM (Qu (.bl false))) QV)
def bS:MS:=(Qr (QK (Qn 1) (QX Z6 (Qc (mI 0) Qi)))
 (Qr (QK (Qn 2) (Qp Vv (Qc (Qa 0) (Qc (Qa 1) Qi))))
 (Qr (QK (Jp [(Qn 3),(Qn 4)]) (QX ZQ (Qc (Qd ZL (mI 1) (Qd ZM (Qa 2) (mI 2))) (Qc (Qd ZL (mI 1) (Qd ZM (Qd Yx (Qa 2) (mI 2)) (mI 2))) Qi))))
 (Qr (QK (Qn 5) (mI 1))
 (Qr (Jn (Zl (Qd ZE (Qa 3) (Qa 4))) (Qn 6) Nt)
 (Qr (QK (Qn 7) (Qd QZ (QX Z6 (Qc (Qd ZM (Qp Vv (Qc (Qa 0) (Qc (Qa 1) Qi))) (Qa 5)) (Qc (Qd YW (Qd YW (Qa 5) (mI 1)) (Qd ZM (Qd Yx (Qa 2) (mI 4)) (Qd FI (Qa 5) (mI 5)))) Qi))) (Qd ZM (Qd Yx (Qa 2) (mI 20)) (mI 2))))
 (Qr (QK (Qn 8) (Qd YW (Qd ZM (Qd Yx (Qa 2) (mI 40)) (mI 7)) (mI 1)))
 (Qr (YV (ZS (Ql (Qp GY (Qc (Qa 3) (Qc (Qa 4) (Qc (Qa 7) (Qc (Qa 8) (Qc (Qd ZM (Qd Yx (Qa 2) (mI 360)) (mI 13)) (Qc (Qd ZM (Qd Yx (Qa 2) (mI 6120)) (mI 3)) (Qc (Qa 5) Qi)))))))))) (QM (Qu (.bl false))) QV)
 (Qr (Jn (Zp (QX Z6 (Qc (Qd YW (Qt XY (mI 1)) (Qd ZM (Qd Yx (Qa 2) (mI 7)) (mI 50))) (Qc (Qa 5) (Qc (Qd ZL (Qa 5) (Qd ZM (Qd Yx (Qa 2) (mI 11)) (Qd bK (mI 10) (mI 6)))) Qi))))) (Qn 9) Nu)
 (QM (JV (Qp YU (Qc (Qd ZM (Qd Yx (Qa 2) (mI 17)) (mI 2)) (Qc (mI 0) (Qc (mI 0) (Qc (mI 1) Qi))))) (Qp YU (Qc (mI 0) (Qc (Qa 4) (Qc (mI 0) (Qc (mI 1) Qi))))))))))))))))
def Sy:MF:=QT 1 9 bS
abbrev vR(n:Nat):Option D:=some (.ref n)
abbrev vI(i:Int):Option D:=some (.int i)
structure Keeps(S:List Nat)(g g':G):Prop where
 len:g.length<=g'.length
 at':∀n o,n∉S->g[n]?=some o->g'[n]?=some o
theorem Keeps.refl  : Keeps S g g:=⟨Ug _,λ_ _ _ h=>h⟩
theorem Keeps.trans(a:Keeps S g g1)(b:Keeps S g1 g2):Keeps S g g2:=⟨Uo a.len b.len,λn o h e=>b.at' n o h (a.at' n o h e)⟩
theorem Keeps.mono(a:Keeps S g g1)(h:∀n∈S,n∈T):Keeps T g g1:=⟨a.len,λn o q e=>a.at' n o (λz=>q (h n z)) e⟩
theorem Keeps.all(a:Keeps [] g g1):Keeps S g g1:=a.mono (by simp)
theorem Keeps.push(o:GO):Keeps S g (g++[o]):=⟨by simp,λn u _ e=>by have hl:n<g.length:=(Uq.mp e).1;rw[Uj hl];exact e⟩
theorem Keeps.set(n:Nat)(o:GO):Keeps [n] g (g.set n o):=⟨by simp,λm u h e=>by rw[Ui (λz=>h (by simp[z]))];exact e⟩
structure KeepsN(k:Nat)(S:List Nat)(g g':G):Prop where
 len:g.length<=g'.length
 at':∀n o,n<k->n∉S->g[n]?=some o->g'[n]?=some o
theorem QO(o:GO):(g++[o])[g.length]?=some o:=by simp
theorem Q1{g:G}{n:Nat}{o:GO}(h:g[n]?=some o):n<g.length:=(Uq.mp h).1
theorem Yt{g:G}{n:Nat}{o u:GO}(h:g[n]?=some o):(g.set n u)[n]?=some u:=by rw[UW (Q1 h)]
def Sz:Out->Prop
 |.rt _ _=>True|.raise _ _ _=>True|.stuck=>True|_=>False
theorem Y9{src:Src}{t:MG}{body:MS}{n:Nat}(I:Nat->S3->G->Prop)(R:Out->Prop)(step:∀i σ g,i<n->I i σ g->∃d σ1,src.at' g i=some (some d)/\t d σ=some σ1/\((∃σ2 g2,(body σ1 g=.nx σ2 g2\/body σ1 g=.ct σ2 g2)/\I (i+1) σ2 g2)\/(Sz (body σ1 g)/\R (body σ1 g))))(stop:∀σ g,I n σ g->src.at' g n=some none):∀(f i:Nat)(σ:S3)(g:G),n-i<f->i<=n->I i σ g->(∃σ' g',VE src t body f i σ g=.nx σ' g'/\I n σ' g')\/(Sz (VE src t body f i σ g)/\R (VE src t body f i σ g))
 |0,_,_,_,h,_,_=>by omega
 |f+1,i,σ,g,hf,hi,h=>by
  unfold VE;by_cases e:i=n
  ·subst e;rw[stop σ g h];exact .inl ⟨σ,g,rfl,h⟩
  ·obtain⟨d,σ1,h1,h2,h3⟩:=step i σ g (by omega) h;rw[h1];dsimp only;rw[h2];dsimp only;rcases h3 with⟨σ2,g2,h3|h3,h4⟩|⟨h3,h4⟩
   ·rw[h3];exact Y9 I R step stop f (i+1) σ2 g2 (by omega) (by omega) h4
   ·rw[h3];exact Y9 I R step stop f (i+1) σ2 g2 (by omega) (by omega) h4
   ·cases hb:body σ1 g with
    |rt d g'=>rw[hb]at h4;exact .inr ⟨trivial,h4⟩|raise x σ' g'=>rw[hb]at h4;exact .inr ⟨trivial,h4⟩|nx _ _=>rw[hb]at h3;exact h3.elim|bk _ _=>rw[hb]at h3;exact h3.elim|ct _ _=>rw[hb]at h3;exact h3.elim|stuck=>rw[hb]at h4;exact .inr ⟨trivial,h4⟩
theorem BJ{t:MG}{body:MS}{lo:Int}{n:Nat}{σ:S3}{g:G}(I:Nat->S3->G->Prop)(h0:I 0 σ g)(step:∀i σ g,i<n->I i σ g->∃σ1 σ2 g2,t (.int (lo+i)) σ=some σ1/\body σ1 g=.nx σ2 g2/\I (i+1) σ2 g2):∃σ' g',VE (Q0 lo n) t body (n+1) 0 σ g=.nx σ' g'/\I n σ' g':=by
 have:=Y9 (src:=Q0 lo n) (t:=t) (body:=body) (n:=n) I (λ_=>False) (λi σ g hi h=>by obtain⟨σ1,σ2,g2,a,b,c⟩:=step i σ g hi h;exact⟨.int (lo+i),σ1,by simp[Q0,hi],a,.inl ⟨σ2,g2,.inl b,c⟩⟩) (λσ g _=>by simp[Q0]) (n+1) 0 σ g (by omega) (by omega) h0;rcases this with h|h
 ·exact h
 ·exact h.2.elim
theorem AU{t:MG}{body:MS}{ds:List D}{σ:S3}{g:G}(I:Nat->S3->G->Prop)(h0:I 0 σ g)(step:∀i d σ g,ds[i]?=some d->I i σ g->∃σ1 σ2 g2,t d σ=some σ1/\body σ1 g=.nx σ2 g2/\I (i+1) σ2 g2):∃σ' g',VE ⟨λ_ i=>some ds[i]?,ds.length⟩ t body (ds.length+1) 0 σ g=.nx σ' g'/\I ds.length σ' g':=by
 have:=Y9 (src:=⟨λ_ i=>some ds[i]?,ds.length⟩) (t:=t) (body:=body) (n:=ds.length) I (λ_=>False) (λi σ g hi h=>by obtain⟨σ1,σ2,g2,a,b,c⟩:=step i ds[i] σ g (by simp[hi]) h;exact⟨ds[i],σ1,by simp[hi],a,.inl ⟨σ2,g2,.inl b,c⟩⟩) (λσ g _=>by simp) (ds.length+1) 0 σ g (by omega) (by omega) h0;rcases this with h|h
 ·exact h
 ·exact h.2.elim
theorem LS{t:MG}{body:MS}{ds:List D}{σ:S3}{g:G}(I:Nat->S3->G->Prop)(R:Out->Prop)(h0:I 0 σ g)(step:∀i d σ g,ds[i]?=some d->I i σ g->∃σ1,t d σ=some σ1/\((∃σ2 g2,body σ1 g=.nx σ2 g2/\I (i+1) σ2 g2)\/(Sz (body σ1 g)/\R (body σ1 g)))):
  (∃σ' g',VE ⟨λ_ i=>some ds[i]?,ds.length⟩ t body (ds.length+1) 0 σ g=.nx σ' g'/\I ds.length σ' g')\/(Sz (VE ⟨λ_ i=>some ds[i]?,ds.length⟩ t body (ds.length+1) 0 σ g)/\R (VE ⟨λ_ i=>some ds[i]?,ds.length⟩ t body (ds.length+1) 0 σ g)):=
 Y9 (src:=⟨λ_ i=>some ds[i]?,ds.length⟩) (t:=t) (body:=body) (n:=ds.length) I R (λi σ g hi h=>by
  obtain⟨σ1,a,b⟩:=step i ds[i] σ g (by simp[hi]) h;refine⟨ds[i],σ1,by simp[hi],a,?_⟩;rcases b with⟨σ2,g2,b,c⟩|b
  ·exact .inl ⟨σ2,g2,.inl b,c⟩
  ·exact .inr b) (λσ g _=>by simp) (ds.length+1) 0 σ g (by omega) (by omega) h0
theorem SA{src:Src}{t:MG}{body:MS}{n:Nat}{σ:S3}{g:G}(hn:src.top=n)(I:Nat->S3->G->Prop)(h0:I 0 σ g)(step:∀i σ g,i<n->I i σ g->∃d σ1 σ2 g2,src.at' g i=some (some d)/\t d σ=some σ1/\body σ1 g=.nx σ2 g2/\I (i+1) σ2 g2)(stop:∀σ g,I n σ g->src.at' g n=some none):∃σ' g',VE src t body (src.top+1) 0 σ g=.nx σ' g'/\I n σ' g':=by
 rw[hn];have:=Y9 (src:=src) (t:=t) (body:=body) (n:=n) I (λ_=>False) (λi σ g hi h=>by obtain⟨d,σ1,σ2,g2,a,b,c,e⟩:=step i σ g hi h;exact⟨d,σ1,a,b,.inl ⟨σ2,g2,.inl c,e⟩⟩) stop (n+1) 0 σ g (by omega) (by omega) h0;rcases this with h|h
 ·exact h
 ·exact h.2.elim
theorem Yu{src:Src}{t:MG}{c:MT}{e:ME}{n:Nat}(I:Nat->S3->G->List D->Prop)(step:∀i σ g acc,i<n->I i σ g acc->∃d σ1 g1,src.at' g i=some (some d)/\t d σ=some σ1/\((∃y g2,c σ1 g=.ok true g1/\e σ1 g1=.ok y g2/\I (i+1) σ1 g2 (acc++[y]))\/(c σ1 g=.ok false g1/\I (i+1) σ1 g1 acc)))(stop:∀σ g acc,I n σ g acc->src.at' g n=some none):∀(f i:Nat)(σ:S3)(g:G)(acc:List D),n-i<f->i<=n->I i σ g acc->∃ds σ' g',YS src t c e f i σ g acc=.ok ds g'/\I n σ' g' ds
 |0,_,_,_,_,h,_,_=>by omega
 |f+1,i,σ,g,acc,hf,hi,h=>by
  unfold YS;by_cases q:i=n
  ·subst q;rw[stop σ g acc h];exact⟨acc,σ,g,rfl,h⟩
  ·obtain⟨d,σ1,g1,h1,h2,h3⟩:=step i σ g acc (by omega) h;rw[h1];dsimp only;rw[h2];dsimp only;rcases h3 with⟨y,g2,h3,h4,h5⟩|⟨h3,h5⟩
   ·rw[h3];dsimp only;rw[Ud rfl,h4];exact Yu I step stop f (i+1) σ1 g2 _ (by omega) (by omega) h5
   ·rw[h3];dsimp only;rw[Uf Ue];exact Yu I step stop f (i+1) σ1 g1 _ (by omega) (by omega) h5
theorem Pd{ds:List D}{e:ME}{no:Nat}{σ:S3}{g:G}{f:D->D}(hz:ds.length<=SZ)(he:∀d∈ds,∀g1,Keeps [] g g1->∃g2,e ((List.replicate (no+1) none++σ).set 0 (some d)) g1=.ok (f d) g2/\Keeps [] g1 g2):
  ∃g',YS ⟨λ_ i=>some ds[i]?,ds.length⟩ (Qn 0) Yw e (ds.length+1) 0 (List.replicate (no+1) none++σ) g []=.ok (ds.map f) g'/\Keeps [] g g':=by
 obtain⟨xs,σ',g',h1,h2,h3,h4⟩:=Yu (src:=⟨λ_ i=>some ds[i]?,ds.length⟩) (t:=Qn 0) (c:=Yw) (e:=e) (n:=ds.length)
  (λi σ' g1 acc=>acc=(ds.take i).map f/\Keeps [] g g1/\∃u,σ'=(List.replicate (no+1) none++σ).set 0 u) (λi σ' g1 acc hi h=>by
   obtain⟨h1,h2,u,h3⟩:=h;obtain⟨g2,k1,k2⟩:=he ds[i] (Tr hi) g1 h2;refine⟨ds[i],_,g1,by simp[hi],rfl,.inl ⟨f ds[i],g2,rfl,?_,?_,h2.trans k2,some ds[i],?_⟩⟩
   ·subst h3;rw[WU];exact k1
   ·rw[h1,U9 hi,UU];rfl
   ·subst h3;rw[WU]) (λσ g acc _=>by simp) (ds.length+1) 0 (List.replicate (no+1) none++σ) g [] (by omega) (by omega) ⟨by simp,.refl,none,by simp[T7]⟩
 refine⟨g',?_,h3⟩;rw[h1,h2,Rc]
def VU(d:D)(n:Int):Bool:=match d with
 |.int i=>decide (0<=i/\i<n)|_=>false
def nK:D->Bool
 |.int _=>true|.bl _=>true|_=>false
theorem FL(d:D)(n:Int)(g:G)(t:Ty)(_:FU g d=some t)(hp:nK d=true:=by rfl):Z9 [d,.int n] g=.ok (.bl (VU d n)) g:=by
 cases d with
 |int i=>
  have c:E5 Oq HF (mI 0) (Qa 0) (Qa 1) [vI i,vI n] g=.ok (.bl (decide (0<=i/\i<n))) g:=by
   unfold E5;rw[show(mI 0) [vI i,vI n] g=.ok (.int 0) g from rfl,Res.bind_ok,show Qa 0 [vI i,vI n] g=.ok (.int i) g from rfl,Res.bind_ok,show Oq (.int 0) (.int i) g=.ok (.bl (decide (0<=i))) g from rfl,Res.bind_ok];by_cases h0:0<=i
   ·rw[Uv h0];show Res.ok (D.bl (decide (i<n))) g=_;by_cases h1:i<n
    ·rw[Uv h1,Uv ⟨h0,h1⟩]
    ·rw[Ut h1,Ut λz=>h1 z.2]
   ·rw[Ut h0,Ut λz=>h0 z.1]
  have a1:Qp VN (Qc (Qa 0) Qi) [vI i,vI n] g=.ok (.bl true) g:=rfl;show(match QM (JV (Qp VN (Qc (Qa 0) Qi)) (E5 Oq HF (mI 0) (Qa 0) (Qa 1))) [vI i,vI n] g with
   |.nx _ g'=>Res.ok D.non g'|.rt d g'=>.ok d g'|.raise e _ g'=>.raise e g'|_=>.stuck)=_
  unfold QM JV;rw[a1,Res.bind_ok];dsimp only;rw[Ud rfl,c];rfl
 |bl b=>rfl|_=>cases hp
theorem sK:Str.ofString "l"=⟨#[108]⟩:=by decide +kernel
theorem jQ:Str.ofString "r"=⟨#[114]⟩:=by decide +kernel
def AV:D->Bool
 |.str s=>s==⟨#[108]⟩||s==⟨#[114]⟩|_=>false
def HR(d:D)(states signs:Int):Bool:=match d with
 |.non=>true|.tup [a,b,c]=>VU a signs&&AV b&&VU c states|_=>false
def thingD(_:G)(d:D):Prop:=d=.non\/∃(i j:Int)(w:Str),d=.tup [.int i,.str w,.int j]
theorem gU(s:Str)(g:G):lP false (.str s) (.tup [.str ⟨#[108]⟩,.str ⟨#[114]⟩]) g=.ok (.bl (AV (.str s))) g:=by show Res.ok (D.bl ((⟨#[108]⟩==s)||((⟨#[114]⟩==s)||false))) g=.ok (.bl ((s==⟨#[108]⟩)||(s==⟨#[114]⟩))) g;rw[show((⟨#[108]⟩:Str)==s)=(s==⟨#[108]⟩) from BEq.comm,show((⟨#[114]⟩:Str)==s)=(s==⟨#[114]⟩) from BEq.comm,Bool.or_false]
theorem Nv(d:D)(states signs:Int)(g:G)(h:thingD g d):Jy [d,.int states,.int signs] g=.ok (.bl (HR d states signs)) g:=by
 rcases h with rfl|⟨i,j,w,rfl⟩
 ·rfl
 ·have a1:Qp Z9 (Qc (Qd QZ (Qa 0) (mI 0)) (Qc (Qa 2) Qi)) [some (.tup [.int i,.str w,.int j]),vI states,vI signs] g=.ok (.bl (VU (.int i) signs)) g:=FL (.int i) signs g .int rfl;have a3:Qp Z9 (Qc (Qd QZ (Qa 0) (mI 2)) (Qc (Qa 1) Qi)) [some (.tup [.int i,.str w,.int j]),vI states,vI signs] g=.ok (.bl (VU (.int j) states)) g:=FL (.int j) states g .int rfl;have a2:Qd (lP false) (Qd QZ (Qa 0) (mI 1)) (QX ZQ (Qc (Qu (.str "l")) (Qc (Qu (.str "r")) Qi))) [some (.tup [.int i,.str w,.int j]),vI states,vI signs] g=.ok (.bl (AV (.str w))) g:=by rw[sK,jQ];exact gU w g
  show(match (QM (JV (Qp Z9 (Qc (Qd QZ (Qa 0) (mI 0)) (Qc (Qa 2) Qi))) (JV (Qd (lP false) (Qd QZ (Qa 0) (mI 1)) (QX ZQ (Qc (Qu (.str "l")) (Qc (Qu (.str "r")) Qi)))) (Qp Z9 (Qc (Qd QZ (Qa 0) (mI 2)) (Qc (Qa 1) Qi)))))) [some (.tup [.int i,.str w,.int j]),vI states,vI signs] g with
   |.nx _ g'=>Res.ok D.non g'|.rt d g'=>.ok d g'|.raise e _ g'=>.raise e g'|_=>.stuck)=.ok (.bl (VU (.int i) signs&&AV (.str w)&&VU (.int j) states)) g
  unfold QM JV;rw[a1,Res.bind_ok];dsimp only;cases VU (.int i) signs
  ·rfl
  ·rw[Ud rfl,a2,Res.bind_ok];dsimp only;cases AV (.str w)
   ·rfl
   ·rw[Ud rfl,a3];rfl
theorem thingD.mono(_:Keeps [] g g1)(h:thingD g d):thingD g1 d:=h
theorem Nw(f:α->Bool):∀ts:List α,FV (ts.map λd=>D.bl (f d))=some (ts.all f)
 |[]=>rfl|t::ts=>by simp[FV,Nw f ts]
def Ja(n m:Nat)(r:List D):Bool:=r.length==m&&r.all λd=>HR d n m
def X7(rows:List (List D)):Bool:=match rows with
 |[]=>false|r::_=>r.length != 0&&rows.all (Ja rows.length r.length)
theorem Pe(σ:S3)(g:G):Kn σ g=.stuck:=rfl
theorem eq_int(i j:Int)(g:G):Vp (.int i) (.int j) g=.ok (.bl (i==j)) g:=rfl
theorem ne_int(i j:Int)(g:G):MK (.int i) (.int j) g=.ok (.bl (!(i==j))) g:=rfl
theorem gV(n m:Nat)(ts:List D)(x:D)(g:G)(hz:ts.length<=SZ)(h:∀d∈ts,thingD g d):
  ∃g',Keeps [] g g'/\Qt Lo (ZN (Zp (Qa 3)) 1 [1,2] (Qn 0) Yw (Qp Jy (Qc (Qa 0) (Qc (Qa 1) (Qc (Qa 2) Qi))))) [some x,vI n,vI m,some (.tup ts)] g=.ok (.bl (ts.all λd=>HR d n m)) g':=by
 obtain⟨g1,h1,k1⟩:=Pd (ds:=ts) (e:=Qp Jy (Qc (Qa 0) (Qc (Qa 1) (Qc (Qa 2) Qi)))) (no:=0) (σ:=[vI n,vI m]) (g:=g) (f:=λd=>.bl (HR d n m)) hz
  (λd hd g1 k=>⟨g1,by simp[Qp,Qc,Qi,Qa,Res.bind,Nv d n m g1 ((h d hd).mono k)],.refl⟩)
 refine⟨g1++[.lst (ts.map λd=>.bl (HR d n m))],k1.trans (.push _),?_⟩;have h1:YS ⟨λ_ i=>some ts[i]?,ts.length⟩ (Qn 0) Yw (Qp Jy (Qc (Qa 0) (Qc (Qa 1) (Qc (Qa 2) Qi)))) (ts.length+1) 0 [none,vI n,vI m] g []=.ok (ts.map λd=>.bl (HR d n m)) g1:=h1;simp[Qt,ZN,Zp,Qa,Res.bind,Vd,hz,GA,h1,Lo,Nw]
theorem bT(n m:Nat)(ts:List D)(x:D)(g:G)(hz:ts.length<=SZ)(h:∀d∈ts,thingD g d):
  ∃g',Keeps [] g g'/\ZA [some x,vI n,vI m,some (.tup ts)] g=if Ja n m ts=true then .nx [some x,vI n,vI m,some (.tup ts)] g' else .stuck:=by
 by_cases hl:ts.length=m
 ·obtain⟨g2,k2,e2⟩:=gV n m ts x g hz h;refine⟨g2,k2,?_⟩;have hl':((ts.length:Int)==(m:Int))=true:=by simp[hl]
  have gr:Ja n m ts=ts.all λd=>HR d n m:=by simp[Ja,hl]
  rw[gr];simp only[ZA,Qr,YV,Ql,Qd,Qt,Qa,Res.bind,RV,RW,Zv,ne_int,hl',TY,UD,Ti,QV,ZS];simp only[Qt,Res.bind]at e2;rw[e2];cases (ts.all λd=>HR d n m)<;>simp[Kn]
 ·refine⟨g,.refl,?_⟩;have hl':((ts.length:Int)==(m:Int))=false:=by simp;omega
  have gr:Ja n m ts=false:=by
   have:(ts.length==m)=false:=by simp[hl]
   simp only[Ja,this,Bool.false_and]
  rw[gr];simp only[ZA,Qr,YV,Ql,Qd,Qt,Qa,Res.bind,RV,RW,Zv,ne_int,hl',W0,RK,Pe,UD,Ti]
theorem HS(rows:List (List D))(g:G)(hz:∀r∈rows,r.length<=SZ)(h:∀r∈rows,∀d∈r,thingD g d):
  ∃g',Keeps [] g g'/\Yl [.tup (rows.map .tup)] g=if X7 rows=true then .ok .non g' else .stuck:=by
 cases rows with
 |nil=>exact⟨g,.refl,by simp[Yl,QT,Yk,Qr,YV,Ql,Qd,Qt,Qa,Qu,Res.bind,Zv,eq_int,Pe,X7]⟩|cons r rest=>
  have e0:¬((rest.length:Int)+1=0):=by omega
  have e1:(0:Int)<(rest.length:Int)+1:=by omega
  by_cases hr:r.length=0
  ·refine⟨g,.refl,?_⟩;simp[Yl,QT,Yk,Qr,YV,Ql,Qd,Qt,Qa,Qu,Res.bind,Zv,eq_int,Pe,X7,hr,e0,e1,QV,QK,Qn,QZ,Ll,An]
  ·have hr':¬((r.length:Int)=0):=by omega
   have hrn:¬r=[]:=λz=>hr (by rw[z];rfl);have hd0:X7 (r::rest)=(r::rest).all (Ja (r::rest).length r.length):=by simp[X7,hr]
   have loop:=LS (t:=Qn 3) (ds:=(r::rest).map D.tup) (σ:=[some (.tup ((r::rest).map .tup)),vI ((r::rest).length),vI r.length,none]) (g:=g) (body:=ZA)
    (λi σ g1=>Keeps [] g g1/\(∃u,σ=[some (.tup ((r::rest).map .tup)),vI ((r::rest).length),vI r.length,u])/\∀x∈(r::rest).take i,Ja (r::rest).length r.length x=true)
    (λo=>o=.stuck/\∃x∈r::rest,Ja (r::rest).length r.length x=false) ⟨.refl,⟨none,rfl⟩,by simp⟩ (λi d σ g1 hd ⟨k,⟨u,hσ⟩,hg⟩=>by
     rw[Uy]at hd;cases hx:(r::rest)[i]? with
     |none=>rw[hx]at hd;cases hd|some ts=>
      rw[hx]at hd;cases hd;have hm:ts∈r::rest:=Tg hx;subst hσ;refine⟨_,rfl,?_⟩;obtain⟨g2,k2,e2⟩:=bT (r::rest).length r.length ts (.tup ((r::rest).map .tup)) g1 (hz ts hm) λd hd=>(h ts hm d hd).mono k;simp only[List.set];rw[e2];cases ha:Ja (r::rest).length r.length ts with
      |true=>
       left;refine⟨_,g2,by rw[Ud rfl],k.trans k2,⟨_,rfl⟩,λx hx'=>?_⟩;rw[List.take_succ,hx]at hx';rcases UO.mp hx' with z|z
       ·exact hg x z
       ·have:x=ts:=by simpa using z
        rw[this];exact ha
      |false =>right;rw[Uf Ue];exact⟨trivial,rfl,ts,hm,ha⟩)
   have fin:Yk [some (.tup ((r::rest).map .tup)),none,none,none] g=VE ⟨λ_ i=>some ((r::rest).map D.tup)[i]?,((r::rest).map D.tup).length⟩ (Qn 3) ZA (((r::rest).map D.tup).length+1) 0 [some (.tup ((r::rest).map .tup)),vI ((r::rest).length),vI r.length,none] g:=by simp[Yk,Qr,YV,Ql,Qd,Qt,Qa,Qu,Res.bind,Zv,eq_int,e0,QV,QK,Qn,QZ,Ll,An,e1,hr',hrn,Jn,Zp,Vd]
   have ap:Yl [.tup ((r::rest).map .tup)] g=match Yk [some (.tup ((r::rest).map .tup)),none,none,none] g with
    |.nx _ g'=>.ok .non g'|.rt d g'=>.ok d g'|.raise e _ g'=>.raise e g'|_=>.stuck:=rfl
   rw[ap,fin];rcases loop with⟨σ',g',h1,k1,_,h2⟩|⟨_,h1,x,hx,hg⟩
   ·refine⟨g',k1,?_⟩;have:X7 (r::rest)=true:=by rw[hd0,U3];intro x hx;exact h2 x (by rw[Uh,Rc];exact hx)
    rw[Ud this,h1]
   ·refine⟨g,.refl,?_⟩;have:¬X7 (r::rest)=true:=by rw[hd0,U3];intro z;rw[z x hx]at hg;cases hg
    rw[Uf this,h1]
theorem Keeps.seq(k:Keeps [] g g1)(h:QN g d=some p):QN g1 d=some p:=by
 cases d with
 |ref n=>
  unfold QN at h ⊢;dsimp only at h ⊢;cases hg:g[n]? with
  |none=>rw[hg]at h;cases h|some o=>rw[hg]at h;rw[k.at' n o (by simp) hg];exact h
 |_=>exact h
theorem nM(h:QN g d=some (b,ds)):∃src,Vd d g=.ok src g/\src.top=ds.length/\∀g1 i,QN g1 d=some (b,ds)->src.at' g1 i=some ds[i]?:=by
 cases d with
 |tup es=>cases h;exact⟨_,rfl,rfl,λ_ _ _=>rfl⟩|fl es=>cases h;exact⟨_,rfl,rfl,λ_ _ _=>rfl⟩|ref n=>
  unfold QN at h;dsimp only at h;cases hg:g[n]? with
  |none=>rw[hg]at h;cases h|some o=>
   rw[hg]at h;cases o with
   |lst es=>
    cases h;refine⟨_,by unfold Vd;dsimp only;rw[hg],rfl,λg1 i h1=>?_⟩;unfold QN at h1;dsimp only at h1 ⊢;cases hg1:g1[n]? with
    |none=>rw[hg1]at h1;cases h1|some o1=>
     rw[hg1]at h1;cases o1 with
     |lst es1=>cases h1;rfl|_=>cases h1
   |_=>cases h
 |_=>cases h
theorem bU{src:Src}{ds:List D}{e:ME}{no:Nat}{σ:S3}{g:G}{f:D->D}(ht:src.top=ds.length)(hs:∀g1 i,Keeps [] g g1->src.at' g1 i=some ds[i]?)(he:∀d∈ds,∀g1,Keeps [] g g1->∃g2,e ((List.replicate (no+1) none++σ).set 0 (some d)) g1=.ok (f d) g2/\Keeps [] g1 g2):
  ∃g',YS src (Qn 0) Yw e (src.top+1) 0 (List.replicate (no+1) none++σ) g []=.ok (ds.map f) g'/\Keeps [] g g':=by
 obtain⟨xs,σ',g',h1,h2,h3,h4⟩:=Yu (src:=src) (t:=Qn 0) (c:=Yw) (e:=e) (n:=ds.length)
  (λi σ' g1 acc=>acc=(ds.take i).map f/\Keeps [] g g1/\∃u,σ'=(List.replicate (no+1) none++σ).set 0 u) (λi σ' g1 acc hi h=>by
   obtain⟨h1,h2,u,h3⟩:=h;obtain⟨g2,k1,k2⟩:=he ds[i] (Tr hi) g1 h2;refine⟨ds[i],_,g1,by rw[hs g1 i h2];simp[hi],rfl,.inl ⟨f ds[i],g2,rfl,?_,?_,h2.trans k2,some ds[i],?_⟩⟩
   ·subst h3;rw[WU];exact k1
   ·rw[h1,U9 hi,UU];rfl
   ·subst h3;rw[WU]) (λσ g1 acc h=>by rw[hs g1 _ h.2.1];simp) (src.top+1) 0 (List.replicate (no+1) none++σ) g [] (by omega) (by omega) ⟨by simp,.refl,none,by simp[T7]⟩
 refine⟨g',?_,h3⟩;rw[h1,h2,Rc]
def rowsOf(g:G)(d:D)(rows:List (List D)):Prop:=∃b ds,QN g d=some (b,ds)/\ds.length=rows.length/\∀(i:Nat) x r,ds[i]?=some x->rows[i]?=some r->∃c,QN g x=some (c,r)
theorem rowsOf.mono(k:Keeps [] g g1)(h:rowsOf g d rows):rowsOf g1 d rows:=by obtain⟨b,ds,h1,h2,h3⟩:=h;exact⟨b,ds,k.seq h1,h2,λi x r hx hr=>let ⟨c,q⟩:=h3 i x r hx hr;⟨c,k.seq q⟩⟩
theorem AW(h:QN g d=some (b,ds)):Jv d g=.ok (.tup ds) g:=by
 cases d with
 |tup es=>cases h;rfl|fl es=>cases h;rfl|ref n=>
  unfold QN at h;dsimp only at h;cases hg:g[n]? with
  |none=>rw[hg]at h;cases h|some o=>
   rw[hg]at h;cases o with
   |lst es=>cases h;simp[Jv,hg]|_=>cases h
 |_=>cases h
def Z5(rows:List (List D)):GO:=.ins 11 [("table",.tup (rows.map .tup))]
theorem gW(m:Nat)(d:D)(rows:List (List D))(g:G)(hm:g[m]?=some (.ins 11 []))(hr:rowsOf g d rows)(hz:∀r∈rows,r.length<=SZ)(hl:rows.length<=SZ)(h:∀r∈rows,∀d∈r,thingD g d):
  ∃g',Keeps [] g g'/\ZI [.ref m,d] g=if X7 rows=true then .ok .non (g'.set m (Z5 rows)) else .stuck:=by
 obtain⟨b,ds,h1,h2,h3⟩:=hr;obtain⟨src,s1,s2,s3⟩:=nM h1;have mp:∀x∈ds,∃c r,QN g x=some (c,r):=λx hx=>by obtain⟨i,hi,rfl⟩:=WM hx;obtain⟨c,q⟩:=h3 i ds[i] (rows[i]'(by omega)) (by simp[hi]) (by simp[show i<rows.length by omega]);exact⟨c,_,q⟩
 obtain⟨g1,c1,k1⟩:=bU (src:=src) (ds:=ds) (e:=Qt Jv (Qa 0)) (no:=0) (σ:=[]) (g:=g) (f:=λx=>.tup (((QN g x).map (·.2)).getD [])) s2 (λg1 i k=>s3 g1 i (k.seq h1)) (λx hx g1 k=>by obtain⟨c,r,q⟩:=mp x hx;refine⟨g1,?_,.refl⟩;simp[Qt,Qa,Res.bind,AW (k.seq q),q]);have em:(ds.map λx=>D.tup (((QN g x).map (·.2)).getD []))=rows.map .tup:=by
  apply List.ext_getElem
  ·simp[h2]
  ·intro i hi hi';simp only[Uh]at hi hi';obtain⟨c,q⟩:=h3 i ds[i] rows[i] (by simp[hi]) (by simp[hi']);simp[q]
 rw[em]at c1;have c1:YS src (Qn 0) Yw (Qt Jv (Qa 0)) (src.top+1) 0 [none] g []=.ok (rows.map .tup) g1:=c1;have k2:Keeps [] g (g1++[.lst (rows.map .tup)]):=k1.trans (.push _);obtain⟨g3,k3,c3⟩:=HS rows (g1++[.lst (rows.map .tup)]) hz λr hr d hd=>(h r hr d hd).mono k2;refine⟨g3,k2.trans k3,?_⟩;have hz2:src.top<=SZ:=by omega
 have hm3:=(k2.trans k3).at' m _ (by simp) hm;simp[ZI,QT,KE,Qr,QK,Qt,ZN,Zp,Qa,Res.bind,s1,hz2,GA,c1,Jv,Qn,Q2,Qp,Qc,Qi,c3];by_cases hg:X7 rows=true
 ·simp[hg,QJ,Qa,hm3,HD,Z5]
 ·simp[hg]
theorem gX(d:D)(rows:List (List D))(g:G)(hr:rowsOf g d rows)(hz:∀r∈rows,r.length<=SZ)(hl:rows.length<=SZ)(h:∀r∈rows,∀d∈r,thingD g d)(a:MA)(σ:S3)(g0:G)(ha:a σ g0=.ok [d] g):
  ∃g',Keeps [] g g'/\Jq 11 ZI a σ g0=(if X7 rows=true then .ok (.ref g.length) g' else .stuck)/\(X7 rows=true->g'[g.length]?=some (Z5 rows)):=by
 have kp:Keeps [] g (g++[.ins 11 []]):=.push _;obtain⟨g',k',e'⟩:=gW g.length d rows (g++[.ins 11 []]) (QO _) (hr.mono kp) hz hl λr hr d hd=>(h r hr d hd).mono kp;by_cases hg:X7 rows=true
 ·rw[Ud hg]at e';refine⟨g'.set g.length (Z5 rows),?_,?_,λ_=>?_⟩
  ·refine⟨by rw[UZ];exact Uo kp.len k'.len,λn o _ e=>?_⟩;have hn:n<g.length:=Q1 e;rw[Ui (by omega)];exact(kp.trans k').at' n o (by simp) e
  ·simp[Jq,ha,Res.bind,e',hg]
  ·rw[UW];have:=k'.len;simp at this;omega
 ·rw[Uf hg]at e';exact⟨g',kp.trans k',by simp[Jq,ha,Res.bind,e',hg],λz=>absurd z hg⟩
theorem LT(h:a σ g=.nx σ' g'):Qr a b σ g=b σ' g':=by unfold Qr;rw[h]
theorem YO(h:a σ g=.rt d g'):Qr a b σ g=.rt d g':=by unfold Qr;rw[h]
theorem BK(h:a σ g=.raise x σ' g'):Qr a b σ g=.raise x σ' g':=by unfold Qr;rw[h]
theorem QF(h:a σ g=.ok d g'):QK (Qn i) a σ g=.nx (σ.set i (some d)) g':=by unfold QK;rw[h];rfl
theorem bV(h:c σ g=.ok true g'):YV c a b σ g=a σ g':=by unfold YV;rw[h];rfl
theorem AX(h:c σ g=.ok false g'):YV c a b σ g=b σ g':=by unfold YV;rw[h];rfl
theorem Qv(h:a σ g=.ok ds g'):Qp f a σ g=f ds g':=by unfold Qp;rw[h];rfl
theorem Zy(h:a σ g=.ok d g'):Q2 a σ g=.nx σ g':=by unfold Q2;rw[h]
theorem Q6(h:a σ g=.ok d g'):QM a σ g=.rt d g':=by unfold QM;rw[h]
theorem QB(hl:ds.length=k)(h:b (ds.map some++List.replicate n none) g=.rt d g'):QT k n b ds g=.ok d g':=by unfold QT;rw[Ud hl,h]
theorem nN(ns:List Int)(i:Int)(h:0<ns.length):∃x,Ll (ns.map D.int) (i%ns.length)=some (.int x):=by
 have h1:0<=i % (ns.length:Int):=RD _ (by omega);have h2:i % (ns.length:Int)<ns.length:=Ri _ (by omega);have h3:(i % (ns.length:Int)).toNat<ns.length:=by omega
 refine⟨ns[(i % (ns.length:Int)).toNat],?_⟩;unfold Ll An;rw[Uh,Ud h1,Ud h2];simp[h3]
theorem uO(h:g[a]?=some (.lst [d])):QZ (.ref a) (.int 0) g=.ok d g:=by unfold QZ;dsimp only;rw[h];rfl
theorem uP(h:Ll ds i=some d):QZ (.fl ds) (.int i) g=.ok d g:=by unfold QZ;dsimp only;rw[h]
theorem AY(c:Int)(x:D)(a:Nat)(k:Int)(g:G)(ga:g[a]?=some (.lst [.int k]))(hk:0<=k)(hk2:k<1000000001):∃m,0<=m/\m<1999999973/\(Qr (QK (Qn 3) (Qd ZM (Qd ZE (Qd ZL (Qd ZL (Qd ZM (Qa 2) (mI 2147483647)) (Qd ZE (Qd ZE (Qd QZ (Qa 1) (mI 0)) (Qd QZ (Qa 1) (mI 0))) (mI 7919))) (mI 11)) (mI 48271)) (mI 2147483647)))
      (QM (Qd ZM (Qd ZE (Qa 3) (Qa 3)) (mI 1999999973)))) [some x,vR a,vI c,none] g=.rt (.int m) g:=by
  have c1:cM k:=⟨by omega,by omega⟩;have c2:cM 7919:=⟨by decide,by decide⟩;have c3:cM 48271:=⟨by decide,by decide⟩;have hr:=Ri ((c%2147483647+k*k*7919+11)*48271) (show(0:Int)<2147483647 by decide);have hr0:=RD ((c%2147483647+k*k*7919+11)*48271) (show(2147483647:Int)≠0 by decide);have c4:cM (((c%2147483647+k*k*7919+11)*48271) % 2147483647):=⟨by omega,by omega⟩;refine⟨((c%2147483647+k*k*7919+11)*48271) % 2147483647*(((c%2147483647+k*k*7919+11)*48271) % 2147483647) % 1999999973,RD _ (by decide),Ri _ (by decide),?_⟩;have e1:(Qd ZM (Qd ZE (Qd ZL (Qd ZL (Qd ZM (Qa 2) (mI 2147483647)) (Qd ZE (Qd ZE (Qd QZ (Qa 1) (mI 0)) (Qd QZ (Qa 1) (mI 0))) (mI 7919))) (mI 11)) (mI 48271)) (mI 2147483647)) [some x,vR a,vI c,none] g=.ok (.int (((c%2147483647+k*k*7919+11)*48271) % 2147483647)) g:=by simp[Qd,Qa,Qu,Res.bind,uO ga,ZM,ZE,ZL,c1,c2,c3]
  rw[LT (QF e1)];generalize ((c%2147483647+k*k*7919+11)*48271) % 2147483647=r at c4 ⊢;refine Q6 ?_;simp[Qd,Qa,Qu,Res.bind,ZM,ZE,c4]
theorem SB(ns:List Int)(a:Nat)(k:Int)(g:G)(hg:g[a]?=some (.lst [.int k]))(hk:0<=k)(hk2:k<1000000000):
  ∃m,0<=m/\m<1999999973/\Vv [.fl (ns.map .int),.ref a] g=.ok (.int m) (g.set a (.lst [.int (k+1)])):=by
 have s1:GB (Qa 1) (mI 0) (Qd ZL (Qd QZ (Qa 1) (mI 0)) (mI 1)) [some (.fl (ns.map .int)),vR a,none,none] g=.nx [some (.fl (ns.map .int)),vR a,none,none] (g.set a (.lst [.int (k+1)])):=by simp[GB,Qd,Qa,Qu,Res.bind,uO hg,ZL,hg,An]
 have ga:(g.set a (.lst [.int (k+1)]))[a]?=some (.lst [.int (k+1)]):=Yt hg;generalize g.set a (.lst [.int (k+1)])=g1 at s1 ga ⊢;have s3:∃c,QK (Qn 2) (Vc (Ql (Qd Lk (Qt Zv (Qa 0)) (mI 0))) (Qd QZ (Qa 0) (Qd ZM (Qd QZ (Qa 1) (mI 0)) (Qt Zv (Qa 0)))) (mI 0)) [some (.fl (ns.map .int)),vR a,none,none] g1=.nx [some (.fl (ns.map .int)),vR a,vI c,none] g1:=by
  by_cases hl:0<ns.length
  ·obtain⟨x,hx⟩:=nN ns (k+1) hl;have hl':(0:Int)<(ns.length:Int):=by omega
   refine⟨x,QF ?_⟩;simp only[Vc,Ql,Lk,Ao,Qd,Qt,Qa,Qu,Res.bind,RV,RW,uO ga,Zv,ZM,Uh,hl',decide_true,RK,uP hx]
  ·cases ns with
   |nil=>exact⟨0,rfl⟩|cons x r=>simp at hl
 obtain⟨c,s3⟩:=s3;obtain⟨m,m1,m2,m3⟩:=AY c (.fl (ns.map .int)) a (k+1) g1 ga (by omega) (by omega);refine⟨m,m1,m2,QB rfl ?_⟩;show GW [some (.fl (ns.map .int)),vR a,none,none] g=_;unfold GW;rw[LT s1,LT s3,m3]
def entOk(d:D)(n m:Nat):Prop:=d=.non\/∃(i j:Int)(w:Str),d=.tup [.int i,.str w,.int j]/\0<=i/\i<m/\0<=j/\j<n/\(w=⟨#[108]⟩\/w=⟨#[114]⟩)
theorem entOk.ent(h:entOk d n m):HR d n m=true:=by
 rcases h with rfl|⟨i,j,w,rfl,h1,h2,h3,h4,h5⟩
 ·rfl
 ·rcases h5 with rfl|rfl<;>simp[HR,VU,AV,h1,h2,h3,h4]
theorem entOk.thing(h:entOk d n m):thingD g d:=by
 rcases h with h|⟨i,j,w,h,_⟩
 ·exact .inl h
 ·exact .inr ⟨i,j,w,h⟩
theorem Js(h:n<=1000):n<SZ:=RS h (by decide)
theorem Ff{n:Nat}(h:n<=1000):HE (n:Int):=by
 have:(n:Int)<=1000:=by exact_mod_cast h
 constructor<;>omega
theorem BL{a:ME}{n:Nat}{σ:S3}{g g':G}(h:a σ g=.ok (.int n) g')(hr:HE (n:Int)):Zl a σ g=.ok (Q0 0 n) g':=by unfold Zl;rw[h,Res.bind_ok];dsimp only;rw[Ud hr,RE]
theorem Jb(h:it σ g=.ok src g'):Jn it t body σ g=VE src t body (src.top+1) 0 σ g':=by unfold Jn;rw[h]
theorem Qh(σ':S3)(g':G)(h:a σ g=.nx σ' g')(h2:b σ' g'=R):Qr a b σ g=R:=(LT h).trans h2
theorem FN(g':G)(h:c σ g=.ok true g')(h2:a σ g'=R):YV c a b σ g=R:=(bV h).trans h2
theorem Yv(g':G)(h:c σ g=.ok false g')(h2:b σ g'=R):YV c a b σ g=R:=(AX h).trans h2
theorem eq_str(s t:Str)(g:G):Vp (.str s) (.str t) g=.ok (.bl (s==t)) g:=rfl
theorem XI(h0:-1000000<=i)(h1:i<=1000000):cM i:=⟨by omega,by omega⟩
theorem nO(h:cM i):ZE (.int i) (.int j) g=.ok (.int (i*j)) g:=Ud (.inl h)
theorem AZ(h:cM j):ZE (.int i) (.int j) g=.ok (.int (i*j)) g:=Ud (.inr h)
theorem CH(h:0<j):ZM (.int i) (.int j) g=.ok (.int (i%j)) g:=Ud h
theorem Fg(h:0<j)(h2:j<=1000000):Yx (.int i) (.int j) g=.ok (.int (i/j)) g:=Ud ⟨h,by omega⟩
theorem J5(hl:ds.length=k)(h:b (ds.map some++List.replicate n none) g=.nx σ g'):QT k n b ds g=.ok .non g':=by unfold QT;rw[Ud hl,h]
theorem Fh(hl:ds.length=k)(h:b (ds.map some++List.replicate n none) g=.raise x σ g'):QT k n b ds g=.raise x g':=by unfold QT;rw[Ud hl,h]
theorem Qo(ha:a σ g=.ok x g1)(hb:b σ g1=.ok y g2)(h:f x y g2=R):Qd f a b σ g=R:=by unfold Qd;rw[ha,Res.bind_ok,hb,Res.bind_ok,h]
theorem ZX(ha:a σ g=.ok x g1)(h:f x g1=R):Qt f a σ g=R:=by unfold Qt;rw[ha,Res.bind_ok,h]
theorem QR(ha:a σ g=.ok (.bl b) g1):Ql a σ g=.ok b g1:=by unfold Ql;rw[ha,Res.bind_ok]
theorem Qs(h:a σ g=.ok x g1)(h2:r σ g1=.ok xs g2):Qc a r σ g=.ok (x::xs) g2:=by unfold Qc;rw[h,Res.bind_ok,h2];rfl
theorem Fi(ho:o σ g=.ok (.ref n) g)(h:g[n]?=some (.lst ds))(he:e σ g=.ok y g)(hz:ds.length<SZ):
  Q2 (Zc o e) σ g=.nx σ (g.set n (.lst (ds++[y]))):=by
 refine Zy (d:=.non) ?_;simp[Zc,ho,he,Res.bind,h,hz]
theorem A0{src:Src}{ds:List D}{e:ME}{g:G}{σc:S3}{rows':List (List D)}(ht:src.top=ds.length)(hs:∀g1 i,Keeps [] g g1->src.at' g1 i=some ds[i]?)(hlen:rows'.length=ds.length)(he:∀(i:Nat) d r,ds[i]?=some d->rows'[i]?=some r->∀g1,Keeps [] g g1->e (some d::σc) g1=.ok (.ref g1.length) (g1++[.lst r])):
  ∃(ls:List Nat)(g':G),YS src (Qn 0) Yw e (src.top+1) 0 (none::σc) g []=.ok (ls.map .ref) g'/\Keeps [] g g'/\ls.length=rows'.length/\ls.Nodup/\∀(i n:Nat) r,ls[i]?=some n->rows'[i]?=some r->g.length<=n/\n<g'.length/\g'[n]?=some (.lst r):=by
 obtain⟨xs,σ',g',h1,ls,h2,h3,h4,h5,h6,_⟩:=Yu (src:=src) (t:=Qn 0) (c:=Yw) (e:=e) (n:=ds.length)
  (λi σ' g1 acc=>∃ls:List Nat,acc=ls.map D.ref/\ls.length=i/\ls.Nodup/\Keeps [] g g1/\(∀(j n:Nat),ls[j]?=some n->g.length<=n/\n<g1.length/\∀r,rows'[j]?=some r->g1[n]?=some (.lst r))/\∃u,σ'=u::σc) (λi σ' g1 acc hi ⟨ls,h1,h2,h3,h4,h5,u,h6⟩=>by
   subst h6;have hr:rows'[i]?=some (rows'[i]'(by omega)):=by simp[hlen,hi]
   have e1:=he i ds[i] _ (by simp[hi]) hr g1 h4;refine⟨ds[i],some ds[i]::σc,g1,by rw[hs g1 i h4];simp[hi],rfl,.inl ⟨.ref g1.length,g1++[.lst (rows'[i]'(by omega))],rfl,e1,ls++[g1.length],by simp[h1],by simp[h2],?_,h4.trans (.push _),?_,_,rfl⟩⟩
   ·rw[Tt];refine⟨h3,by simp,λa ha b hb=>?_⟩;obtain⟨j,hj,rfl⟩:=WM ha;have:=(h5 j ls[j] (by simp[hj])).2.1;have:b=g1.length:=by simpa using hb
    omega
   ·intro j n hn;by_cases hj:j<ls.length
    ·rw[Uj hj]at hn;obtain⟨q1,q2,q3⟩:=h5 j n hn;exact⟨q1,by simp;omega,λr hr=>(Keeps.push (S:=[]) _).at' n _ (by simp) (q3 r hr)⟩
    ·have hj':j=i:=by have:=(Uq.mp hn).1;simp at this;omega
     subst hj';rw[UT (by omega),h2]at hn;simp at hn;subst hn;exact⟨h4.len,by simp,λr hr'=>by rw[hr]at hr';cases hr';exact QO _⟩) (λσ g1 acc ⟨ls,h1,h2,h3,h4,_⟩=>by rw[hs g1 _ h4];simp) (src.top+1) 0 (none::σc) g [] (by omega) (by omega) ⟨[],rfl,rfl,.nil,.refl,by simp,none,rfl⟩
 subst h2;exact⟨ls,g',h1,h5,by omega,h4,λi n r hn hr=>let ⟨q1,q2,q3⟩:=h6 i n hn;⟨q1,q2,q3 r hr⟩⟩
theorem Nx  : (g++[o]).set g.length u=g++[u]:=by simp
theorem entOk.good(hn:0<n)(hm:0<m)(h1:rows.length=n)(h2:∀r∈rows,r.length=m)(h3:∀r∈rows,∀d∈r,entOk d n m):X7 rows=true:=by
 cases rows with
 |nil=>simp at h1;omega|cons q rest =>have hq:=h2 q (Ux ..);unfold X7;rw[UK,U3];refine⟨by simp;intro z;rw[z]at hq;simp at hq;omega,λx hx=>?_⟩;unfold Ja;rw[UK,U3];exact⟨by simp[h2 x hx,hq],λd hd=>by rw[h1,hq];exact(h3 x hx d hd).ent⟩
theorem BM(h1:it σ g=.ok src g1)(hz:src.top<=SZ)(hc:GA n cap σ=σ0)(h2:YS src t c e (src.top+1) 0 σ0 g1 []=.ok ds g2):ZN it n cap t c e σ g=.ok (.ref g2.length) (g2++[.lst ds]):=by simp only[ZN,h1,hz,hc,h2,RK]
theorem GZ(hv:σ[i]?=some (some (.ref M)))(h:g[M]?=some (Z5 rows)):Qq [11,12] "table" (Qa i) σ g=.ok (.tup (rows.map .tup)) g:=by simp[Qq,Qt,Qa,hv,Res.bind,h,Z5]
theorem gY(h1:QN g d1=some (b1,xs))(h2:QN g d2=some (b2,ys))(hl:xs.length=ys.length):
  ∃src,GC d1 d2 g=.ok src g/\src.top=xs.length/\∀g1,QN g1 d1=some (b1,xs)->QN g1 d2=some (b2,ys)->src.at' g1 xs.length=some none/\∀(i:Nat) x y,xs[i]?=some x->ys[i]?=some y->src.at' g1 i=some (some (.tup [x,y])):=by
 unfold GC;rw[h1,h2];refine⟨_,rfl,by simp[hl],λg1 q1 q2=>⟨?_,λi x y hx hy=>?_⟩⟩
 ·dsimp only;rw[q1,q2];dsimp only;rw[TM (Ug _)]
 ·dsimp only;rw[q1,q2];dsimp only;rw[hx,hy]
theorem nQ(h1:a σ g=.ok true g1)(h2:b σ g1=.ok true g2):BZ (ZS a) (ZS b) σ g=.ok false g2:=by unfold BZ ZS;rw[h1,Res.bind_ok,Res.bind_ok];show(if (!true)=true then Res.ok true g1 else _)=_;rw[Uf (by decide),h2];rfl
theorem Pf(h1:a σ g=.ok true g1):ZS a σ g=.ok false g1:=by unfold ZS;rw[h1];rfl
def gZ(a:Nat)(n:Nat):Src:=⟨λg i=>(match g[a]? with|some (.lst es)=>some es[i]? | _=>none),n⟩
def rS:Str:=⟨#[114]⟩
theorem KJ{α:Type}{xs:List α}{i:Nat}{z:α}(h:i<xs.length):xs.getD i z=xs[i]:=by rw[List.getD_eq_getElem?_getD,U6 h];rfl
theorem Pg{t p:Nat}{ds:List D}{d:D}{g:G}(h:g[t]?=some (.lst ds))(hp:ds[p]?=some d):QZ (.ref t) (.int p) g=.ok d g:=by have hl:p<ds.length:=(Uq.mp hp).1;unfold QZ;dsimp only;rw[h];dsimp only;unfold Ll An;rw[Ud (by omega),Ud (by omega)];simp[hp]
theorem VV(h:g[l]?=some (.lst ds)):QN g (.ref l)=some (true,ds):=by unfold QN;dsimp only;rw[h]
@[simp] theorem uQ:Qr a b σ g=(match a σ g with | .nx σ' g'=>b σ' g'|o=>o):=rfl
@[simp] theorem uR  : QK (Qn i) a σ g=(match a σ g with | .ok d g'=>.nx (σ.set i (some d)) g' | .raise e g'=>.raise e σ g' | .stuck=>.stuck):=rfl
@[simp] theorem vU  : YV c a b σ g=(match c σ g with | .ok t g'=>if t=true then a σ g' else b σ g' | .raise e g'=>.raise e σ g' | .stuck=>.stuck):=rfl
@[simp] theorem uS:QM a σ g=(match a σ g with | .ok d g'=>.rt d g' | .raise e g'=>.raise e σ g' | .stuck=>.stuck):=rfl
@[simp] theorem sL:Q2 a σ g=(match a σ g with | .ok _ g'=>.nx σ g' | .raise e g'=>.raise e σ g' | .stuck=>.stuck):=rfl
@[simp] theorem sM:DL σ g=.rt .non g:=rfl
@[simp] theorem sN:QV σ g=.nx σ g:=rfl
@[simp] theorem nR:Qa i σ g=(match σ[i]? with|some (some d)=>.ok d g|_=>.stuck):=rfl
@[simp] theorem uU:Qu d σ g=.ok d g:=rfl
@[simp] theorem uV  : Qt f a σ g=(match a σ g with | .ok x g1=>f x g1 | .raise e g'=>.raise e g' | .stuck=>.stuck):=by unfold Qt Res.bind;cases a σ g<;>rfl
@[simp] theorem bW  : Qd f a b σ g=(match a σ g with | .ok x g1=>(match b σ g1 with | .ok y g2=>f x y g2 | .raise e g'=>.raise e g' | .stuck=>.stuck) | .raise e g'=>.raise e g' | .stuck=>.stuck):=by unfold Qd Res.bind;cases a σ g with|ok x g1=>dsimp only;cases b σ g1<;>rfl|_=>rfl
@[simp] theorem LU:Qi σ g=.ok [] g:=rfl
@[simp] theorem LV  : Qc a r σ g=(match a σ g with | .ok x g1=>(match r σ g1 with | .ok xs g2=>.ok (x::xs) g2 | .raise e g'=>.raise e g' | .stuck=>.stuck) | .raise e g'=>.raise e g' | .stuck=>.stuck):=by unfold Qc Res.bind;cases a σ g with|ok x g1=>dsimp only;cases r σ g1<;>rfl|_=>rfl
@[simp] theorem J7  : QX f a σ g=(match a σ g with | .ok x g1=>f x g1 | .raise e g'=>.raise e g' | .stuck=>.stuck):=by unfold QX Res.bind;cases a σ g<;>rfl
@[simp] theorem sO  : Qp f a σ g=(match a σ g with | .ok x g1=>f x g1 | .raise e g'=>.raise e g' | .stuck=>.stuck):=by unfold Qp Res.bind;cases a σ g<;>rfl
@[simp] theorem hJ:Ql a σ g=(match a σ g with | .ok (.bl b) g1=>.ok b g1 | .raise e g'=>.raise e g'|_=>.stuck):=by unfold Ql Res.bind;cases a σ g with|ok d g1=>cases d<;>rfl|_=>rfl
@[simp] theorem sP:YR a b σ g=(match a σ g with | .ok c g1=>if c=true then b σ g1 else .ok false g1 | .raise e g'=>.raise e g' | .stuck=>.stuck):=by unfold YR Res.bind;cases a σ g<;>rfl
@[simp] theorem LW:BZ a b σ g=(match a σ g with | .ok c g1=>if c=true then .ok true g1 else b σ g1 | .raise e g'=>.raise e g' | .stuck=>.stuck):=by unfold BZ Res.bind;cases a σ g<;>rfl
@[simp] theorem Gk:ZS a σ g=(match a σ g with | .ok c g1=>.ok (!c) g1 | .raise e g'=>.raise e g' | .stuck=>.stuck):=by unfold ZS Res.bind;cases a σ g<;>rfl
@[simp] theorem nS  : Vc c a b σ g=(match c σ g with | .ok t g1=>if t=true then a σ g1 else b σ g1 | .raise e g'=>.raise e g' | .stuck=>.stuck):=by unfold Vc Res.bind;cases c σ g<;>rfl
@[simp] theorem Ph:JV a b σ g=(match a σ g with | .ok (.bl c) g1=>if c=true then b σ g1 else .ok (.bl false) g1 | .raise e g'=>.raise e g'|_=>.stuck):=by unfold JV Res.bind;cases a σ g with|ok d g1=>cases d<;>rfl|_=>rfl
@[simp] theorem bX:ZL (.int i) (.int j) g=.ok (.int (i+j)) g:=rfl
@[simp] theorem uW:YW (.int i) (.int j) g=.ok (.int (i-j)) g:=rfl
@[simp] theorem uX:XY (.int i) g=.ok (.int (-i)) g:=rfl
@[simp] theorem rE:HF (.int i) (.int j) g=.ok (.bl (decide (i<j))) g:=rfl
@[simp] theorem rF:Oq (.int i) (.int j) g=.ok (.bl (decide (i<=j))) g:=rfl
@[simp] theorem jR:Lk (.int i) (.int j) g=.ok (.bl (decide (j<i))) g:=rfl
@[simp] theorem vV:lN (.int i) (.int j) g=.ok (.bl (decide (j<=i))) g:=rfl
@[simp] theorem rG:Vp (.int i) (.int j) g=.ok (.bl (i==j)) g:=rfl
@[simp] theorem vW:MK (.int i) (.int j) g=.ok (.bl (!(i==j))) g:=rfl
theorem Fj(h:g[n]?=some (.lst ds)):Zv (.ref n) g=.ok (.int ds.length) g:=by simp[Zv,h]
theorem ix_tup{ds:List D}{n:Nat}{d:D}(h:ds[n]?=some d):QZ (.tup ds) (.int n) g=.ok d g:=by obtain⟨this,e⟩:=Uq.mp h;simp[QZ,Ll,An,this,e]
@[simp] theorem nT{d:D}{ds:List D}:QZ (.tup (d::ds)) (.int 0) g=.ok d g:=ix_tup (n:=0) rfl
@[simp] theorem nU{c d:D}{ds:List D}:QZ (.tup (c::d::ds)) (.int 1) g=.ok d g:=ix_tup (n:=1) rfl
@[simp] theorem uY{b c d:D}{ds:List D}:QZ (.tup (b::c::d::ds)) (.int 2) g=.ok d g:=ix_tup (n:=2) rfl
@[simp] theorem uZ{a b c d:D}{ds:List D}:QZ (.tup (a::b::c::d::ds)) (.int 3) g=.ok d g:=ix_tup (n:=3) rfl
theorem VW  : ∀(f:Nat)(σ:S3)(g:G),Zo c body f σ g≠.stuck->∀f',f<=f'->Zo c body f' σ g=Zo c body f σ g
 |0,_,_,h,_,_=>absurd rfl h|f+1,σ,g,h,f',hf=>by
  obtain⟨k,rfl⟩:∃k,f'=k+1:=⟨f' - 1,by omega⟩;unfold Zo at h ⊢;cases hc:c σ g with
  |stuck=>rfl|raise e g1=>rfl|ok b g1=>
   cases b with
   |false=>rfl|true=>
    rw[hc]at h;dsimp only at h ⊢;cases hb:body σ g1 with
    |nx σ2 g2=>rw[hb]at h;exact VW f σ2 g2 h k (by omega)|ct σ2 g2=>rw[hb]at h;exact VW f σ2 g2 h k (by omega)|bk σ2 g2=>rfl|rt d g2=>rfl|raise e σ2 g2=>rfl|stuck=>rfl
theorem EB(h:Zo c body f σ g=R)(hR:R≠.stuck):Kp c body σ g=R:=by
 have hx:∃f,Zo c body f σ g≠.stuck:=⟨f,by rw[h];exact hR⟩;unfold Kp;rw[dif_pos hx];have h1:=hx.choose_spec;rcases Nat.le_total f hx.choose with z|z
 ·rw[VW f σ g (by rw[h];exact hR) _ z,h]
 ·rw[<-VW _ σ g h1 f z,h]
abbrev Ct:=List Int×Int×Int×List Int
def Zr(u:List Int):D:=.tup (u.map .int)
abbrev vM(u:List Int):Option D:=some (Zr u)
def Yi(c:Ct):D:=.tup [Zr c.1,.int c.2.1,.int c.2.2.1,Zr c.2.2.2]
theorem XJ:∀u:List Int,Xx (u.map .int)=some u
 |[]=>rfl|x::u=>by show(Xx (u.map .int)).map (x :: ·)=_;rw[XJ u];rfl
theorem hU(u:List Int):Ki 0 (Zr u)=some (.inl u):=by show(Xx (u.map .int)).map _=_;rw[XJ];rfl
theorem rH(c:Ct):Ki 1 (Yi c)=some (.inr c):=by show((Xx (c.1.map .int)).bind λx=>(Xx (c.2.2.2.map .int)).bind λy=>some (SKd.inr (x,c.2.1,c.2.2.1,y)))=_;rw[XJ,XJ];rfl
theorem LX:∀us:List (List Int),YY (us.map Zr)=some us
 |[]=>rfl|u::us=>by show(match Xx (u.map .int),YY (us.map Zr) with|some x,some y=>some (x::y)|_,_=>none)=_;rw[XJ,LX us]
theorem bY(ds:List α):C8 ds none (some (-1))=ds.dropLast:=by unfold C8 Lm;rw[Wo];simp only[List.drop_zero,Nat.sub_zero];rw[Ud (by omega)];congr 1;omega
theorem bZ(ds:List α):C8 ds (some 1) none=ds.tail:=by
 cases ds with
 |nil=>rfl|cons d ds=>
  have e:Lm (d::ds).length 0 (some 1)=1:=by unfold Lm;dsimp only;rw[Uf (by omega),UA];omega
  unfold C8;rw[e];show List.take (ds.length+1-1) ds=ds;simp
def wS(b:Bool):Str:=if b=true then ⟨#[114]⟩ else ⟨#[108]⟩
def Cd(i:Int)(b:Bool)(j:Int):D:=.tup [.int i,.str (wS b),.int j]
def Pi:D->Option (Int×Bool×Int)
 |.tup [.int i,.str w,.int j]=>some (i,decide (w=⟨#[114]⟩),j)|_=>none
def cA(rows:List (List D))(p q:Int):D:=(rows.getD p.toNat []).getD q.toNat .non
structure Tb(rows:List (List D))(n m:Nat):Prop where
 ln:rows.length=n
 lm:∀r∈rows,r.length=m
 ok:∀r∈rows,∀d∈r,entOk d n m
 n0:0<n
 m0:0<m
theorem Tb.at'{rows:List (List D)}{n m:Nat}(h:Tb rows n m){p q:Int}(h0:0<=p)(h1:p<n)(h2:0<=q)(h3:q<m):∃r,rows[p.toNat]?=some r/\r[q.toNat]?=some (cA rows p q)/\entOk (cA rows p q) n m:=by
 have l1:p.toNat<rows.length:=by rw[h.ln];omega
 have hr:rows[p.toNat]∈rows:=Tr l1;have l2:q.toNat<rows[p.toNat].length:=by rw[h.lm _ hr];omega
 have e:cA rows p q=rows[p.toNat][q.toNat]:=by unfold cA;rw[KJ l1,KJ l2]
 refine⟨rows[p.toNat],by simp[l1],by rw[e];simp[l2],?_⟩;rw[e];exact h.ok _ hr _ (Tr l2)
theorem entOk.cases(h:entOk d n m):(d=.non/\Pi d=none)\/∃i b j,d=Cd i b j/\Pi d=some (i,b,j)/\0<=i/\i<m/\0<=j/\j<n:=by
 rcases h with rfl|⟨i,j,w,rfl,h1,h2,h3,h4,rfl|rfl⟩
 ·exact .inl ⟨rfl,rfl⟩
 ·exact .inr ⟨i,false,j,rfl,by unfold Pi;rfl,h1,h2,h3,h4⟩
 ·exact .inr ⟨i,true,j,rfl,by unfold Pi;rfl,h1,h2,h3,h4⟩
def okG(w m:Nat)(u:List Int):Prop:=u.length=w/\∀x∈u,0<=x/\x<m
def okC(w n m:Nat)(c:Ct):Prop:=okG w m c.1/\(0<=c.2.1/\c.2.1<n)/\(0<=c.2.2.1/\c.2.2.1<m)/\okG w m c.2.2.2
def Mt(b:Bool)(c:Ct):List Int:=if b=true then c.1 else c.2.2.2
def Kk(b:Bool)(c:Ct):List Int:=if b=true then c.2.2.2 else c.1
def SC(i:Int)(b:Bool)(j:Int)(c:Ct)(u:List Int):Ct:=if b=true then (i::c.1.dropLast,j,c.2.2.2.headD 0,u) else (u,j,c.1.headD 0,i::c.2.2.2.dropLast)
theorem okC.b(h:okC w n m c)(b:Bool):okG w m (Mt b c):=by cases b;exact h.2.2.2;exact h.1
theorem okC.a(h:okC w n m c)(b:Bool):okG w m (Kk b c):=by cases b;exact h.1;exact h.2.2.2
theorem okG.cons{w m:Nat}{u:List Int}{i:Int}(hw:1<=w)(h:okG w m u)(h0:0<=i)(h1:i<m):okG w m (i::u.dropLast):=by
 refine⟨?_,λx hx=>?_⟩
 ·rw[UA,TX,h.1];omega
 ·rcases Uz.mp hx with rfl|hx
  ·exact⟨h0,h1⟩
  ·exact h.2 x (RI _ hx)
theorem okG.head(hw:1<=w)(h:okG w m u):0<=u.headD 0/\u.headD 0<m:=by
 cases u with
 |nil=>have:=h.1;simp at this;omega|cons x r=>exact h.2 x (Ux ..)
theorem okC.nx{w n m:Nat}{c:Ct}{i j:Int}{b:Bool}{u:List Int}(hw:1<=w)(h:okC w n m c)(hu:okG w m u)(h0:0<=i)(h1:i<m)(h2:0<=j)(h3:j<n):okC w n m (SC i b j c u):=by
 cases b with
 |false=>exact⟨hu,⟨h2,h3⟩,h.1.head hw,h.2.2.2.cons hw h0 h1⟩|true=>exact⟨h.1.cons hw h0 h1,⟨h2,h3⟩,h.2.2.2.head hw,hu⟩
theorem vA(b:Bool):(wS b==(⟨#[114]⟩:Str))=b:=by cases b<;>decide
theorem hV(b:Bool)(g:G):Vp (.str (wS b)) (.str ⟨#[114]⟩) g=.ok (.bl b) g:=by rw[eq_str,vA]
theorem cB(b:Bool)(g:G):X3 [.str (wS b)] g=.ok (.str (wS !b)) g:=by cases b<;>simp[X3,FK,QT,hV,sK,jQ]<;>rfl
theorem IR(i:Int)(b:Bool)(j:Int)(c:Ct)(g:G):YH [Cd i b j,Yi c] g=.ok (Zr (Mt b c)) g:=by cases b<;>simp[YH,Ca,QT,Cd,Yi,hV,jQ,Mt]
theorem Ny(i:Int)(b:Bool)(j:Int)(c:Ct)(g:G):Y7 [Cd i b j,Yi c] g=.ok (Zr (Kk b c)) g:=by cases b<;>simp[Y7,Ex,QT,Cd,Yi,hV,jQ,Kk]
@[simp] theorem XL    : Z7 a lo hi σ g=(match a σ g with | .ok x g1=>(match lo σ g1 with | .ok l g2=>(match hi σ g2 with | .ok h g3=>Cp x l h g3 | .raise e g'=>.raise e g' | .stuck=>.stuck) | .raise e g'=>.raise e g' | .stuck=>.stuck) | .raise e g'=>.raise e g' | .stuck=>.stuck):=by
 unfold Z7 Res.bind;cases a σ g with
 |ok x g1=>
  dsimp only;cases lo σ g1 with
  |ok l g2 =>dsimp only;cases hi σ g2<;>rfl|_=>rfl
 |_=>rfl
@[simp] theorem JB  : JF σ g=.ok none g:=rfl
@[simp] theorem VX   : ZO a σ g=(match a σ g with | .ok (.int i) g1=>.ok (some i) g1 | .raise e g'=>.raise e g'|_=>.stuck):=by
 unfold ZO Res.bind;cases a σ g with
 |ok d g1=>cases d<;>rfl|_=>rfl
@[simp] theorem vX   : Cp (.tup ds) lo hi g=.ok (.tup (C8 ds lo hi)) g:=rfl
theorem BR(u:List Int)(g:G):Cp (Zr u) none (some (-1)) g=.ok (Zr u.dropLast) g:=by show Res.ok (D.tup (C8 _ _ _)) g=_;rw[bY,<-List.map_dropLast];rfl
theorem hX(u:List Int)(g:G):Cp (Zr u) (some 1) none g=.ok (Zr u.tail) g:=by show Res.ok (D.tup (C8 _ _ _)) g=_;rw[bZ,<-List.map_tail];rfl
theorem hZ(u:List Int)(g:G)(h:1<=u.length):QZ (Zr u) (.int 0) g=.ok (.int (u.headD 0)) g:=by
 cases u with
 |nil=>simp at h|cons x r=>exact nT
theorem rJ(i:Int)(u:List Int)(g:G)(h:u.length<=1000):ZL (.tup [.int i]) (Zr u) g=.ok (Zr (i::u)) g:=by show(if _ then _ else _)=_;rw[Ud (by rw[Uh];exact Uo (Nat.add_le_add_left h 1) (by decide))];rfl
@[simp] theorem nV(xs:List D)(g:G)(h:xs.length<=100:=by decide):ZQ xs g=.ok (.tup xs) g:=Ud (Uo h (by decide))
theorem Nz(i:Int)(b:Bool)(j:Int)(c:Ct)(u:List Int)(g:G)(hw:1<=w)(hw2:w<=100)(h:okC w n m c):ZJ [Cd i b j,Yi c,Zr u] g=.ok (Yi (SC i b j c u)) g:=by
 have ha:1<=(Kk b c).length:=by rw[(h.a b).1];exact hw
 have hb:(Mt b c).dropLast.length<=1000:=by rw[TX,(h.b b).1];omega
 refine QB rfl ?_;show XH [some (Cd i b j),some (Yi c),some (Zr u),none,none] g=_;unfold XH;refine Qh [some (Cd i b j),some (Yi c),some (Zr u),vI ((Kk b c).headD 0),none] g (QF (Qo (g1:=g) (g2:=g) ((Qv (ds:=[Cd i b j,Yi c]) (g':=g) rfl).trans (Ny i b j c g)) rfl (hZ _ g ha))) ?_;refine Qh [some (Cd i b j),some (Yi c),some (Zr u),vI ((Kk b c).headD 0),some (Zr (i::(Mt b c).dropLast))] g (QF (Qo (x:=.tup [.int i]) (y:=Zr (Mt b c).dropLast) (g1:=g) (g2:=g) (by simp[Cd]) ?_ (rJ i _ g hb))) ?_
 ·simp only[XL,JB,VX];rw[(Qv (ds:=[Cd i b j,Yi c]) (g':=g) rfl).trans (IR i b j c g)];exact BR _ g
 ·cases b<;>simp[Cd,hV,jQ,Yi,SC,Kk,Mt]
theorem KK{M:Nat}{rows:List (List D)}{n m w:Nat}{g:G}{c:Ct}(hM:g[M]?=some (Z5 rows))(ht:Tb rows n m)(h:okC w n m c):XG [.ref M,Yi c] g=.ok (cA rows c.2.1 c.2.2.1) g:=by
 obtain⟨r,h1,h2,_⟩:=ht.at' h.2.1.1 h.2.1.2 h.2.2.1.1 h.2.2.1.2;have e1:QZ (.tup (rows.map .tup)) (.int c.2.1) g=.ok (.tup r) g:=by have:((c.2.1.toNat:Nat):Int)=c.2.1:=RO h.2.1.1;rw[<-this];exact ix_tup (by rw[Uy,h1];rfl)
 have e2:QZ (.tup r) (.int c.2.2.1) g=.ok (cA rows c.2.1 c.2.2.1) g:=by
  have:((c.2.2.1.toNat:Nat):Int)=c.2.2.1:=RO h.2.2.1.1
  conv=>lhs;rw[<-this]
  exact ix_tup h2
 refine QB rfl (Q6 (Qo (g1:=g) (g2:=g) (Qo (g1:=g) (g2:=g) (x:=.tup (rows.map .tup)) ?_ ?_ e1) ?_ e2))
 ·exact GZ rfl hM
 ·simp[Yi]
 ·simp[Yi]
inductive Ky where
 |W|S|A|C|P|G (y:Bool)|B (x y:Bool)|L (x y:Bool) (k:List Int)
structure PSt where
 gs:Bool->List (List Int)
 cs:List Ct
 pd:List Ct
 dn:List Ct
abbrev Pj:=Int->Int->Option (Int×Bool×Int)
def Jc(T:Pj)(y:Bool)(k:List Int)(c:Ct):Bool:=match T c.2.1 c.2.2.1 with
 |some (_,b,_)=>decide (b=y/\(Kk b c).tail=k)|none=>false
def JR(T:Pj)(s:PSt):Bool->Bool->List Int->List D
 |false,y,k=>((s.gs y).filter λu=>decide (u.dropLast=k)).map Zr|true,y,k=>(s.dn.filter (Jc T y k)).map Yi
def wF(M S C P A:Nat):List (Str×D):=[("machine",.ref M),("sides",.ref S),("contexts",.ref C),("pending",.ref P),("asking",.ref A)]
def F2(a b:Nat):List (DK×D):=[(.inr (wS false),.ref a),(.inr (wS true),.ref b)]
def VB(b:Nat):List (Str×D):=[("by_seen",.ref b)]
abbrev GK:=Bool->Bool->List (List Int)
def Pk(T:Pj)(M:Nat)(ad:Ky->Nat)(s:PSt)(gk:GK):Ky->GO
 |.W=>.ins 15 (wF M (ad .S) (ad .C) (ad .P) (ad .A))|.S=>.dct (F2 (ad (.G false)) (ad (.G true)))|.A=>.dct (F2 (ad (.B true false)) (ad (.B true true)))|.C=>.dcn 1 (s.cs.map λc=>(.inr c,.bl true))|.P=>.lst (s.pd.map Yi)|.G y=>.ins 14 (VB (ad (.B false y)))|.B x y=>.dcn 0 ((gk x y).map λk=>(.inl k,.ref (ad (.L x y k))))|.L x y k=>.lst (JR T s x y k)
def Mu(gk:GK):Ky->Prop
 |.L x y k=>k∈gk x y|_=>True
structure Rp(T:Pj)(g0:G)(M:Nat)(g:G)(ad:Ky->Nat)(s:PSt)(gk:GK):Prop where
 old:Keeps [] g0 g
 at':∀k,Mu gk k->g[ad k]?=some (Pk T M ad s gk k)
 ge:∀k,Mu gk k->g0.length<=ad k
 inj:∀k k',Mu gk k->Mu gk k'->ad k=ad k'->k=k'
 nd:∀x y,(gk x y).Nodup
 kg:∀y u,u∈s.gs y->u.dropLast∈gk false y
 ka:∀y c k,c∈s.dn->Jc T y k c=true->k∈gk true y
theorem Rp.lt(h:Rp T g0 M g ad s gk)(ha:Mu gk k):ad k<g.length:=Q1 (h.at' k ha)
theorem Rp.push(h:Rp T g0 M g ad s gk)(o:GO):Rp T g0 M (g++[o]) ad s gk:=⟨h.old.trans (.push o),λk ha=>by rw[Uj (h.lt ha)];exact h.at' k ha,h.ge,h.inj,h.nd,h.kg,h.ka⟩
theorem Rp.set(h:Rp T g0 M g ad s gk)(ha:Mu gk k)(hne:∀k',Mu gk k'->k'≠k->Pk T M ad s' gk k'=Pk T M ad s gk k')(kg:∀y u,u∈s'.gs y->u.dropLast∈gk false y)(ka:∀y c k,c∈s'.dn->Jc T y k c=true->k∈gk true y):Rp T g0 M (g.set (ad k) (Pk T M ad s' gk k)) ad s' gk:=by
 refine⟨⟨by rw[UZ];exact h.old.len,λn o hn e=>?_⟩,λk' ha'=>?_,h.ge,h.inj,h.nd,kg,ka⟩
 ·have hl:n<g0.length:=Q1 e;have:=h.ge k ha;rw[Ui (by omega)];exact h.old.at' n o hn e
 ·by_cases e:k'=k
  ·subst e;exact Yt (h.at' k' ha)
  ·rw[Ui (λz=>e (h.inj _ _ ha' ha z.symm)),hne k' ha' e];exact h.at' k' ha'
theorem IS(h:Rp T g0 M g ad s gk)(hk:k∉gk x y):JR T s x y k=[]:=by
 cases x with
 |false =>show List.map _ (List.filter _ _)=[];rw[Bt.mpr λu hu z=>hk (by have:=h.kg y u hu;rw[UC z]at this;exact this)];rfl|true =>show List.map _ (List.filter _ _)=[];rw[Bt.mpr λc hc z=>hk (h.ka y c k hc z)];rfl
theorem G0{f:List Int->D}:∀{ks:List (List Int)}{k:List Int},Jo (ks.map λk=>(.inl k,f k)) (.inl k)=if k∈ks then some (f k) else none
 |[],k=>rfl|c::ks,k=>by
  have ih:=G0 (f:=f) (ks:=ks) (k:=k);unfold Jo at ih ⊢;rw[UL,Tk];by_cases e:c=k
  ·subst e;rw[Uv rfl];simp
  ·rw[Ut (λz=>e (SKd.inl.inj z))];dsimp only;rw[ih];simp[Ne.symm e]
def oS(ad:Ky->Nat)(x y:Bool)(k:List Int)(n:Nat):Ky->Nat
 |.L x' y' k'=>if x'=x/\y'=y/\k'=k then n else ad (.L x' y' k')
 |.W=>ad .W | .S=>ad .S | .A=>ad .A | .C=>ad .C | .P=>ad .P | .G y=>ad (.G y) | .B x y=>ad (.B x y)
def cC(gk:GK)(x y:Bool)(k:List Int):GK:=λx' y'=>if x'=x/\y'=y then gk x' y'++[k] else gk x' y'
theorem mem_gkN  : k'∈cC gk x y k x' y'↔k'∈gk x' y'\/(x'=x/\y'=y/\k'=k):=by
 unfold cC;split
 ·next h=>simp[h]
 ·next h=>exact⟨.inl,λz=>z.elim id λw=>absurd ⟨w.1,w.2.1⟩ h⟩
theorem Rp.new(h:Rp T g0 M g ad s gk)(hk:k∉gk x y):Rp T g0 M ((g++[GO.lst []]).set (ad (.B x y)) (GO.dcn 0 (((gk x y).map λk=>(SKd.inl k,D.ref (ad (.L x y k))))++[(SKd.inl k,D.ref g.length)]))) (oS ad x y k g.length) s (cC gk x y k):=by
 have hp:=h.push (.lst []);have hB:ad (.B x y)<g.length:=h.lt (k:=.B x y) trivial;have old:∀{k':Ky},Mu gk k'->oS ad x y k g.length k'=ad k':=λ{k'} ha=>by
  cases k' with
  |L x' y' k' =>refine Uf ?_;rintro ⟨rfl,rfl,rfl⟩;exact hk ha
  |_=>rfl
 have cas:∀k',Mu (cC gk x y k) k'->Mu gk k'\/k'=.L x y k:=λk' ha=>by
  cases k' with
  |L x' y' k'=>
   rcases mem_gkN.mp ha with z|⟨rfl,rfl,rfl⟩
   ·exact .inl z
   ·exact .inr rfl
  |_=>exact .inl trivial
 have newA:oS ad x y k g.length (.L x y k)=g.length:=Ud ⟨rfl,rfl,rfl⟩;have cts:∀k',Mu gk k'->k'≠.B x y->Pk T M (oS ad x y k g.length) s (cC gk x y k) k'=Pk T M ad s gk k':=λk' ha hne=>by
  cases k' with
  |B x' y' =>have hxy:¬(x'=x/\y'=y):=λz=>hne (by rw[z.1,z.2]);show GO.dcn 0 _=GO.dcn 0 _;unfold cC;rw[Uf hxy];congr 1;refine RN λc hc=>?_;rw[old (k':=.L x' y' c) hc]
  |_=>rfl
 refine⟨⟨by rw[UZ];exact hp.old.len,λn o hn e=>?_⟩,λk' ha=>?_,λk' ha=>?_,λk1 k2 h1 h2 e=>?_,λx' y'=>?_,λy' u hu=>mem_gkN.mpr (.inl (h.kg y' u hu)),λy' c k' hc z=>mem_gkN.mpr (.inl (h.ka y' c k' hc z))⟩
 ·have:=h.ge (.B x y) trivial;have hl:n<g0.length:=Q1 e;rw[Ui (by omega)];exact hp.old.at' n o hn e
 ·rcases cas k' ha with z|rfl
  ·rw[old z];by_cases e:k'=.B x y
   ·subst e;rw[Yt (hp.at' (.B x y) trivial)];show some (GO.dcn 0 _)=some (GO.dcn 0 _);congr 2;unfold cC;rw[Ud ⟨rfl,rfl⟩,UU];congr 1
    ·refine RN λc hc=>?_;rw[old (k':=.L x y c) hc]
    ·rw[UL,newA];rfl
   ·rw[Ui (λw=>e (h.inj k' (.B x y) z trivial w.symm)),cts k' z e];exact hp.at' k' z
  ·rw[newA,Ui (by omega),QO];show some (GO.lst [])=some (GO.lst (JR T s x y k));rw[IS h hk]
 ·rcases cas k' ha with z|rfl
  ·rw[old z];exact h.ge k' z
  ·rw[newA];exact h.old.len
 ·rcases cas k1 h1 with z1|rfl<;>rcases cas k2 h2 with z2|rfl
  ·rw[old z1,old z2]at e;exact h.inj _ _ z1 z2 e
  ·rw[old z1,newA]at e;have:=h.lt z1;omega
  ·rw[old z2,newA]at e;have:=h.lt z2;omega
  ·rfl
 ·unfold cC;split
  ·next hh =>obtain⟨rfl,rfl⟩:=hh;exact Tt.mpr ⟨h.nd _ _,by simp,λa ha b hb z=>hk (by rw[Ur.mp hb]at z;rw[<-z];exact ha)⟩
  ·exact h.nd _ _
theorem Jd(ho:o σ g=.ok (.ref n) g)(h:g[n]?=some (.ins c fs))(hc:c∈cs)(hf:fs.lookup f=some d):Qq cs f o σ g=.ok d g:=by unfold Qq;refine ZX ho ?_;dsimp only;rw[h];dsimp only;rw[Ud hc,hf]
theorem Zx(ho:o σ g=.ok (.ref n) g1)(h:g1[n]?=some (.ins cc fs))(hm:fs.lookup m=none)(ha:a σ g1=.ok xs g2):QS cc m f o a σ g=f (.ref n::xs) g2:=by unfold QS;rw[ho,Res.bind_ok];dsimp only;rw[h];dsimp only;rw[Ud ⟨rfl,hm⟩,ha,Res.bind_ok]
theorem VY:QX Z6 Qi σ g=.ok (.ref g.length) (g++[.lst []]):=by simp only[J7,LU];exact Ud (T3 _)
theorem EC(ho:o σ g=.ok (.ref n) g)(h:g[n]?=some (.dcn τ ks))(hk:k σ g=.ok y g)(hx:x σ g=.ok z g1)(h1:g1[n]?=some (.dcn τ ks))(hs:Ki τ y=some kk):Nf o k x f σ g=f n τ ks kk z g1:=by unfold Nf;rw[ho,Res.bind_ok];dsimp only;rw[h];dsimp only;rw[hk,Res.bind_ok,hx,Res.bind_ok,h1];dsimp only;rw[hs]
theorem J8(h:σ[i]?=some (some d)):Qa i σ g=.ok d g:=by unfold Qa;rw[h]
theorem VZ(ho:o σ g=.ok (.ref n) g1)(h:g1[n]?=some (.lst ds))(he:e σ g1=.ok y g1)(hz:ds.length<=1000):Zc o e σ g=.ok .non (g1.set n (.lst (ds++[y]))):=by unfold Zc;rw[ho,Res.bind_ok];dsimp only;rw[h];dsimp only;rw[he,Res.bind_ok,h];dsimp only;rw[Ud (Js hz)]
theorem Rp.atG(h:Rp T g0 M g ad s gk)(y:Bool):g[ad (.G y)]?=some (.ins 14 (VB (ad (.B false y)))):=h.at' (.G y) trivial
theorem Rp.atB(h:Rp T g0 M g ad s gk)(x y:Bool):g[ad (.B x y)]?=some (.dcn 0 ((gk x y).map λk=>(.inl k,.ref (ad (.L x y k))))):=h.at' (.B x y) trivial
theorem SD(h:Rp T g0 M g ad s gk){y:Bool}{i:Nat}(hv:σ[i]?=some (vR (ad (.G y)))):Qq [14] "by_seen" (Qa i) σ g=.ok (.ref (ad (.B false y))) g:=Jd (J8 hv) (h.atG y) (by decide) rfl
theorem cD(h:Rp T g0 M g ad s gk)(ho:o σ g=.ok (.ref (ad (.B x y))) g)(he:e σ g=.ok (Zr k) g):∃a,LG o e (QX Z6 Qi) σ g=.ok (.ref a) (g++[.lst []])/\(g++[GO.lst []])[a]?=some (.lst (JR T s x y k))/\((a=ad (.L x y k)/\k∈gk x y)\/a=g.length):=by
 have hp:=h.push (.lst []);have e1:=EC (f:=λ_ _ ks k z g=>.ok ((Jo ks k).getD z) g) ho (h.atB x y) he VY (hp.atB x y) (hU k);rw[G0]at e1;by_cases hk:k∈gk x y
 ·rw[Ud hk]at e1;exact⟨_,e1,hp.at' (.L x y k) hk,.inl ⟨rfl,hk⟩⟩
 ·rw[Uf hk]at e1;refine⟨_,e1,?_,.inr rfl⟩;rw[QO,IS h hk]
theorem IT(h:Rp T g0 M g ad s gk)(hz:(gk x y).length<=1000)(ho:o σ g=.ok (.ref (ad (.B x y))) g)(he:e σ g=.ok (Zr k) g):∃g' ad' gk',Vr o e (QX Z6 Qi) σ g=.ok (.ref (ad' (.L x y k))) g'/\Rp T g0 M g' ad' s gk'/\k∈gk' x y/\(∀k0,Mu gk k0->ad' k0=ad k0)/\(gk'=gk\/gk'=cC gk x y k):=by
 have hp:=h.push (.lst []);have e1:=EC (f:=λn τ ks k z g=>if ks.length<SZ then (match Jo ks k with|some v=>.ok v g|none=>.ok z (g.set n (.dcn τ (ks++[(k,z)])))) else .stuck) ho (h.atB x y) he VY (hp.atB x y) (hU k);have e1:Vr o e (QX Z6 Qi) σ g=_:=e1;rw[Ud (by rw[Uh];exact Js hz),G0]at e1;by_cases hk:k∈gk x y
 ·rw[Ud hk]at e1;exact⟨_,ad,gk,e1,hp,hk,λ_ _=>rfl,.inl rfl⟩
 ·rw[Uf hk]at e1;refine⟨_,oS ad x y k g.length,cC gk x y k,?_,h.new hk,mem_gkN.mpr (.inr ⟨rfl,rfl,rfl⟩),λk0 ha=>?_,.inr rfl⟩
  ·rw[e1,show oS ad x y k g.length (.L x y k)=g.length from Ud ⟨rfl,rfl,rfl⟩]
  ·cases k0 with
   |L x' y' k' =>refine Uf ?_;rintro ⟨rfl,rfl,rfl⟩;exact hk ha
   |_=>rfl
theorem ED(h:Rp T g0 M g ad s gk)(y:Bool)(k:List Int):∃a,Zm [.ref (ad (.G y)),Zr k] g=.ok (.ref a) (g++[.lst []])/\(g++[GO.lst []])[a]?=some (.lst (JR T s false y k))/\((a=ad (.L false y k)/\k∈gk false y)\/a=g.length):=by obtain⟨a,h1,h2,h3⟩:=cD (σ:=[vR (ad (.G y)),vM k]) h (x:=false) (y:=y) (k:=k) (SD h (i:=0) rfl) (e:=Qa 1) rfl;exact⟨a,QB rfl (Q6 h1),h2,h3⟩
theorem cE(h:Rp T g0 M g ad s gk)(y:Bool)(u:List Int):Yb [.ref (ad (.G y)),Zr u] g=.ok (.bl (decide (u∈s.gs y))) (g++[.lst []]):=by
 obtain⟨a,h1,h2,_⟩:=ED h y u.dropLast;refine QB rfl (Q6 (Qo (x:=Zr u) (y:=.ref a) (g1:=g) rfl ((Zx (n:=ad (.G y)) (g1:=g) (xs:=[Zr u.dropLast]) (g2:=g) rfl (h.atG y) rfl ?_).trans h1) ?_))
 ·simp only[LV,XL,JB,VX,LU];exact Rf (λr=>match r with|Res.ok x g1=>Res.ok [x] g1 | .raise e g'=>.raise e g' | .stuck=>.stuck) (BR u g)
 ·show(match (g++[GO.lst []])[a]? with|some (.lst ds)=>_|_=>_)=_;rw[h2];show(match Xx (u.map .int),YY (((s.gs y).filter λv=>decide (v.dropLast=u.dropLast)).map Zr) with|some k,some ks=>_|_,_=>_)=_;rw[XJ,LX];show Res.ok _ _=_;congr 2;exact Rb.mpr (by simp)
theorem JS:∀{l m:List α},l.Nodup->(∀x∈l,x∈m)->l.length<=m.length
 |[],_,_,_=>T3 _|a::l,m,h,hs=>by
  have h':=RC.mp h;obtain⟨p,q,e⟩:=List.append_of_mem (hs a (Ux ..));subst e;have:l.length<=(p++q).length:=JS h'.2 λx hx=>by
   have hx':=hs x (Uw _ hx);rcases UO.mp hx' with z|z
   ·exact UO.mpr (.inl z)
   ·rcases Uz.mp z with rfl|z
    ·exact absurd hx h'.1
    ·exact UO.mpr (.inr z)
  simp only[Um,UA]at this ⊢;omega
def iA(m:Nat):List Int:=(List.range m).map Int.ofNat
theorem G1{m:Nat}{x:Int}(h0:0<=x)(h1:x<m):x∈iA m:=TK.mpr ⟨x.toNat,Rw.mpr (by omega),RO h0⟩
def LY(m:Nat):Nat->List (List Int)
 |0=>[[]]|w+1=>(iA m).flatMap λx=>(LY m w).map (x :: ·)
theorem Vw{m:Nat}:∀{w:Nat}{u:List Int},okG w m u->u∈LY m w
 |0,u,h=>by rw[Bg.mp h.1];exact Ux ..
 |w+1,[],h=>by have:=h.1;simp at this
 |w+1,x::u,h=>Rv.mpr ⟨x,G1 (h.2 x (Ux ..)).1 (h.2 x (Ux ..)).2,TK.mpr ⟨u,Vw ⟨by have:=h.1;rw[UA]at this;omega,λy hy=>h.2 y (Uw _ hy)⟩,rfl⟩⟩
def A1(w n m:Nat):List Ct:=(LY m w).flatMap λl=>(iA n).flatMap λp=>(iA m).flatMap λq=>(LY m w).map λr=>(l,p,q,r)
theorem EE{w n m:Nat}{c:Ct}(h:okC w n m c):c∈A1 w n m:=by obtain⟨l,p,q,r⟩:=c;exact Rv.mpr ⟨l,Vw h.1,Rv.mpr ⟨p,G1 h.2.1.1 h.2.1.2,Rv.mpr ⟨q,G1 h.2.2.1.1 h.2.2.1.2,TK.mpr ⟨r,Vw h.2.2.2,rfl⟩⟩⟩⟩
structure Few(w n m:Nat):Prop where
 w1:1<=w
 w3:w<=3
 n1:1<=n
 n3:n<=3
 m2:1<=m
 m3:m<=3
 g:(LY m w).length<=900
 k:(LY m (w-1)).length<=900
 c:(A1 w n m).length<=900
structure okS(w n m:Nat)(T:Pj)(s:PSt):Prop where
 g:∀y u,u∈s.gs y->okG w m u
 gn:∀y,(s.gs y).Nodup
 c:∀c∈s.cs,okC w n m c
 cn:s.cs.Nodup
 p:∀c∈s.pd,c∈s.cs
 d:∀c∈s.dn,c∈s.cs/\T c.2.1 c.2.2.1≠none
 l:s.dn.length+s.pd.length<=s.cs.length
def KB(w m:Nat)(gk:GK):Prop:=∀x y k,k∈gk x y->okG (w-1) m k
theorem okS.gl(h:okS w n m T s)(f:Few w n m)(y:Bool):(s.gs y).length<=900:=Uo (JS (h.gn y) λu hu=>Vw (h.g y u hu)) f.g
theorem okS.cl(h:okS w n m T s)(f:Few w n m):s.cs.length<=900:=Uo (JS h.cn λc hc=>EE (h.c c hc)) f.c
theorem okS.contl(h:okS w n m T s)(f:Few w n m)(x y:Bool)(k:List Int):(JR T s x y k).length<=900:=by
 cases x with
 |false=>exact Uo (by show(List.map _ (List.filter _ _)).length<=_;rw[Uh];exact BH ..) (h.gl f y)|true=>exact Uo (by show(List.map _ (List.filter _ _)).length<=_;rw[Uh];exact BH ..) (Uo (Uo (Tq _ _) h.l) (h.cl f))
theorem KB.len(h:KB w m gk)(nd:∀x y,(gk x y).Nodup)(f:Few w n m)(x y:Bool):(gk x y).length<=900:=Uo (JS (nd x y) λk hk=>Vw (h x y k hk)) f.k
theorem KB.new(h:KB w m gk)(hk:okG (w-1) m k):KB w m (cC gk x y k):=λx' y' k' hh=>by
 rcases mem_gkN.mp hh with z|⟨_,_,rfl⟩
 ·exact h x' y' k' z
 ·exact hk
theorem okG.init(h:okG w m u):okG (w-1) m u.dropLast:=⟨by rw[TX,h.1],λx hx=>h.2 x (RI _ hx)⟩
theorem okG.tail(h:okG w m u):okG (w-1) m u.tail:=⟨by rw[List.length_tail,h.1],λx hx=>h.2 x (List.mem_of_mem_tail hx)⟩
def addG(s:PSt)(y:Bool)(u:List Int):PSt:={s with gs:=λy'=>if y'=y then s.gs y'++[u] else s.gs y'}
def ask(s:PSt)(c:Ct):PSt:=if c∈s.cs then s else {s with cs:=s.cs++[c],pd:=s.pd++[c]}
def V0(s:PSt)(cs:List Ct):PSt:=cs.foldl ask s
def dL(T:Pj)(c:Ct)(u:List Int):Ct:=match T c.2.1 c.2.2.1 with
 |some (i,b,j)=>SC i b j c u|none=>c
def Je(T:Pj)(s:PSt)(y:Bool)(u:List Int):PSt:=if u∈s.gs y then s else V0 (addG s y u) ((s.dn.filter (Jc T y u.dropLast)).map λc=>dL T c u)
def G2(s:PSt)(c:Ct):PSt:={s with dn:=s.dn++[c]}
def B3(s:PSt):PSt:={s with pd:=s.pd.dropLast}
def gF(s:PSt)(b:Bool)(k:List Int):List (List Int):=(s.gs b).filter λu=>decide (u.dropLast=k)
def G4(T:Pj)(s:PSt)(c:Ct)(i:Int)(b:Bool)(j:Int):PSt:=
 let s3:=G2 (Je T (B3 s) (!b) (Mt b c)) c
 V0 s3 ((gF s3 b (Kk b c).tail).map λu=>SC i b j c u)
theorem okS.addG(h:okS w n m T s)(hu:okG w m u)(hn:u∉s.gs y):okS w n m T (addG s y u):=by
 refine⟨λy' v hv=>?_,λy'=>?_,h.c,h.cn,h.p,h.d,h.l⟩
 ·have hv:v∈(if y'=y then s.gs y'++[u] else s.gs y'):=hv;split at hv
  ·rcases UO.mp hv with z|z
   ·exact h.g y' v z
   ·rw[Ur.mp z];exact hu
  ·exact h.g y' v hv
 ·show(if y'=y then s.gs y'++[u] else s.gs y').Nodup;split
  ·next e =>subst e;exact Tt.mpr ⟨h.gn _,by simp,λa ha b hb z=>hn (by rw[Ur.mp hb]at z;rw[<-z];exact ha)⟩
  ·exact h.gn _
theorem okS.ask(h:okS w n m T s){c:Ct}(hc:okC w n m c):okS w n m T (ask s c):=by
 unfold L3.ask;split
 ·exact h
 ·next hn=>
  refine⟨h.g,h.gn,λx hx=>?_,?_,λx hx=>?_,λx hx=>⟨UO.mpr (.inl (h.d x hx).1),(h.d x hx).2⟩,?_⟩
  ·rcases UO.mp hx with z|z
   ·exact h.c x z
   ·rw[Ur.mp z];exact hc
  ·exact Tt.mpr ⟨h.cn,by simp,λa ha b hb z=>hn (by rw[Ur.mp hb]at z;rw[<-z];exact ha)⟩
  ·rcases UO.mp hx with z|z
   ·exact UO.mpr (.inl (h.p x z))
   ·exact UO.mpr (.inr z)
  ·have:=h.l;simp only[Um,U8];omega
theorem BV{t:MG}{body:MS}{a:Nat}{ds:List D}{e:ME}{σ:S3}{g g1:G}(he:e σ g=.ok (.ref a) g1)(hg:g1[a]?=some (.lst ds))(I:Nat->S3->G->Prop)(h0:I 0 σ g1)(hI:∀i σ g,I i σ g->g[a]?=some (.lst ds))(step:∀i d σ g,ds[i]?=some d->I i σ g->∃σ1 σ2 g2,t d σ=some σ1/\body σ1 g=.nx σ2 g2/\I (i+1) σ2 g2):∃σ' g',Jn (Zp e) t body σ g=.nx σ' g'/\I ds.length σ' g':=by
 have es:Zp e σ g=.ok (gZ a ds.length) g1:=by unfold Zp;rw[he,Res.bind_ok];show Vd (.ref a) g1=_;unfold Vd;dsimp only;rw[hg];rfl
 rw[Jb es];refine SA (src:=gZ a ds.length) (n:=ds.length) rfl I h0 (λi σ g hi h=>?_) λσ g h=>?_
 ·obtain⟨σ1,σ2,g2,h1,h2,h3⟩:=step i ds[i] σ g (by simp[hi]) h;refine⟨ds[i],σ1,σ2,g2,?_,h1,h2,h3⟩;show(match g[a]? with|some (.lst es)=>some es[i]? | _=>none)=_;rw[hI i σ g h];simp[hi]
 ·show(match g[a]? with|some (.lst es)=>some es[ds.length]? | _=>none)=_;rw[hI _ σ g h];simp
theorem LZ(h:¬(x'=false/\y'=y/\k'=u.dropLast)):JR T (addG s y u) x' y' k'=JR T s x' y' k':=by
 cases x' with
 |true=>rfl|false=>
  show List.map _ (List.filter _ (if y'=y then s.gs y'++[u] else s.gs y'))=List.map _ (List.filter _ (s.gs y'));split
  ·next e =>rw[Rz,Bi (by simp;exact λz=>h ⟨rfl,e,z.symm⟩)];simp
  ·rfl
theorem A2  : JR T (addG s y u) false y u.dropLast=JR T s false y u.dropLast++[Zr u]:=by show List.map _ (List.filter _ (if y=y then s.gs y++[u] else s.gs y))=List.map _ (List.filter _ (s.gs y))++_;rw[Ud rfl,Rz,RX (by simp),UU];rfl
theorem A3(h:Rp T g0 M g ad s gk)(ok:okS w n m T s)(f:Few w n m)(kb:KB w m gk)(hu:okG w m u)(hn:u∉s.gs y):∃g' ad' gk',Yd [.ref (ad (.G y)),Zr u] g=.ok .non g'/\Rp T g0 M g' ad' (addG s y u) gk'/\KB w m gk'/\(∀k0,Mu gk k0->ad' k0=ad k0)/\(∀x y k,k∈gk x y->k∈gk' x y):=by
 have h1:=h.push (.lst []);obtain⟨g2,ad',gk',e1,h2,hk,old,gkc⟩:=IT (σ:=[vR (ad (.G y)),vM u]) h1 (o:=Qq [14] "by_seen" (Qa 0)) (e:=Z7 (Qa 1) JF (ZO (Qt XY (mI 1)))) (x:=false) (y:=y) (k:=u.dropLast) (Uo (kb.len h.nd f _ _) (by decide)) (SD h1 (i:=0) rfl) (by simp only[XL,JB,VX];exact BR u _);have ha:Mu gk' (.L false y u.dropLast):=hk;have hget:=h2.at' (.L false y u.dropLast) ha;have h3:=h2.set (s':=addG s y u) ha (λk' hk' hne=>by
  cases k' with
  |L x' y' k'=>exact Rf GO.lst (LZ λz=>hne (by rw[z.1,z.2.1,z.2.2]))|_=>rfl) (λy' v hv=>by
   have hv:v∈(if y'=y then s.gs y'++[u] else s.gs y'):=hv;split at hv
   ·next e=>
    rcases UO.mp hv with z|z
    ·exact h2.kg y' v z
    ·rw[Ur.mp z,e];exact hk
   ·exact h2.kg y' v hv) h2.ka
 have ap:=VZ (σ:=[vR (ad (.G y)),vM u]) (e:=Qa 1) (y:=Zr u) e1 hget rfl (Uo (ok.contl f false y u.dropLast) (by decide));rw[<-A2 (T:=T) (s:=s)]at ap;refine⟨_,ad',gk',J5 (σ:=[vR (ad (.G y)),vM u]) rfl ?_,h3,?_,old,?_⟩
 ·show Yc [vR (ad (.G y)),vM u] g=_;unfold Yc;refine FN (g++[.lst []]) ?_ (Zy (d:=.non) ap);have e2:QS 14 "has" Yb (Qa 0) (Qc (Qa 1) Qi) [vR (ad (.G y)),vM u] g=.ok (.bl false) (g++[.lst []]):=by rw[Zx (n:=ad (.G y)) (g1:=g) (xs:=[Zr u]) (g2:=g) rfl (h.atG y) rfl rfl,cE h y u,Ut hn]
  show ZS _ [vR (ad (.G y)),vM u] g=_;unfold ZS;rw[QR e2];rfl
 ·rcases gkc with rfl|rfl
  ·exact kb
  ·exact kb.new hu.init
 ·rcases gkc with rfl|rfl
  ·exact λ_ _ _ z=>z
  ·exact λ_ _ _ z=>mem_gkN.mpr (.inl z)
theorem Rp.atW(h:Rp T g0 M g ad s gk):g[ad .W]?=some (.ins 15 (wF M (ad .S) (ad .C) (ad .P) (ad .A))):=h.at' .W trivial
theorem Rp.atC(h:Rp T g0 M g ad s gk):g[ad .C]?=some (.dcn 1 (s.cs.map λc=>(.inr c,.bl true))):=h.at' .C trivial
theorem Rp.atP(h:Rp T g0 M g ad s gk):g[ad .P]?=some (.lst (s.pd.map Yi)):=h.at' .P trivial
theorem a_contexts(h:Rp T g0 M g ad s gk)(hv:σ[i]?=some (vR (ad .W))):Qq [15] "contexts" (Qa i) σ g=.ok (.ref (ad .C)) g:=Jd (J8 hv) h.atW (by decide) rfl
theorem a_pending(h:Rp T g0 M g ad s gk)(hv:σ[i]?=some (vR (ad .W))):Qq [15] "pending" (Qa i) σ g=.ok (.ref (ad .P)) g:=Jd (J8 hv) h.atW (by decide) rfl
theorem a_machine(h:Rp T g0 M g ad s gk)(hv:σ[i]?=some (vR (ad .W))):Qq [15] "machine" (Qa i) σ g=.ok (.ref M) g:=Jd (J8 hv) h.atW (by decide) rfl
theorem a_sides(h:Rp T g0 M g ad s gk)(hv:σ[i]?=some (vR (ad .W))):Qq [15] "sides" (Qa i) σ g=.ok (.ref (ad .S)) g:=Jd (J8 hv) h.atW (by decide) rfl
theorem a_asking(h:Rp T g0 M g ad s gk)(hv:σ[i]?=some (vR (ad .W))):Qq [15] "asking" (Qa i) σ g=.ok (.ref (ad .A)) g:=Jd (J8 hv) h.atW (by decide) rfl
theorem L5:∀{cs:List Ct},Jo (cs.map λc=>(SKd.inr c,D.bl true)) (.inr c)=if c∈cs then some (.bl true) else none
 |[]=>rfl|d::cs=>by
  have ih:=L5 (c:=c) (cs:=cs);unfold Jo at ih ⊢;rw[UL,Tk];by_cases e:d=c
  ·subst e;rw[Uv rfl];simp
  ·rw[Ut (λz=>e (SKd.inr.inj z))];dsimp only;rw[ih];simp[Ne.symm e]
theorem G5(h:Rp T g0 M g ad s gk)(ok:okS w n m T s)(f:Few w n m)(c:Ct):∃g',Ze [.ref (ad .W),Yi c] g=.ok .non g'/\Rp T g0 M g' ad (ask s c) gk/\(∀a,a≠ad .C->a≠ad .P->g'[a]?=g[a]?):=by
 have e0:Ql (Qd El (Qa 1) (Qq [15] "contexts" (Qa 0))) [vR (ad .W),some (Yi c)] g=.ok (!(if c∈s.cs then some (D.bl true) else none).isSome) g:=by refine QR (Qo (x:=Yi c) (y:=.ref (ad .C)) (g1:=g) (g2:=g) rfl (a_contexts h rfl) ?_);unfold El jL;dsimp only;rw[h.atC];dsimp only;rw[rH];dsimp only;rw[L5]
 by_cases hc:c∈s.cs
 ·rw[Ud hc]at e0;refine⟨g,J5 rfl (Yv g e0 rfl),?_,λ_ _ _=>rfl⟩;unfold ask;rw[Ud hc];exact h
 ·rw[Uf hc]at e0;have hne:ad .C≠ad .P:=λz=>by have:=h.inj .C .P trivial trivial z;cases this
  have s1:({s with cs:=s.cs++[c]}:PSt).cs=s.cs++[c]:=rfl;have h1:=h.set (k:=.C) trivial (s':={s with cs:=s.cs++[c]}) (λk' _ hk=>by cases k' with|C=>exact absurd rfl hk|L x y k=>cases x<;>rfl|_=>rfl) h.kg h.ka;have h2:=h1.set (k:=.P) trivial (s':={s with cs:=s.cs++[c],pd:=s.pd++[c]}) (λk' _ hk=>by cases k' with|P=>exact absurd rfl hk|L x y k=>cases x<;>rfl|_=>rfl) h.kg h.ka;refine⟨_,J5 (σ:=[vR (ad .W),some (Yi c)]) rfl ?_,by unfold ask;rw[Uf hc];exact h2,λa a1 a2=>by rw[Ui (Ne.symm a2),Ui (Ne.symm a1)]⟩;show YA [vR (ad .W),some (Yi c)] g=_;unfold YA;refine FN g e0 (Qh [vR (ad .W),some (Yi c)] (g.set (ad .C) (Pk T M ad {s with cs:=s.cs++[c]} gk .C)) ?_ (Zy (d:=.non) ?_))
  ·show Cy _ _ _ [vR (ad .W),some (Yi c)] g=_;unfold Cy;rw[show Qu (.bl true) [vR (ad .W),some (Yi c)] g=.ok (.bl true) g from rfl];dsimp only;rw[a_contexts h rfl];dsimp only;rw[show Qa 1 [vR (ad .W),some (Yi c)] g=.ok (Yi c) g from rfl];dsimp only;rw[h.atC];dsimp only;rw[rH];dsimp only;rw[Ud (by rw[Uh];exact Js (Uo (ok.cl f) (by decide)))];have:OY (s.cs.map λc=>(SKd.inr c,D.bl true)) (.inr c) (.bl true)=(s.cs++[c]).map λc=>(SKd.inr c,D.bl true):=by unfold OY;rw[L5,Uf hc,UU];rfl
   rw[this];rfl
  ·refine(VZ (o:=Qq [15] "pending" (Qa 0)) (e:=Qa 1) (n:=ad .P) (y:=Yi c) (a_pending h1 rfl) h1.atP rfl ?_).trans ?_
   ·rw[Uh];have:=ok.l;have:=ok.cl f;show s.pd.length<=1000;omega
   ·rw[show Pk T M ad {s with cs:=s.cs++[c],pd:=s.pd++[c]} gk .P=.lst (s.pd.map Yi++[Yi c]) by show GO.lst _=_;rw[UU];rfl]
def TR(rows:List (List D)):Pj:=λp q=>Pi (cA rows p q)
theorem Gm(h:g[t]?=some (.dct (F2 a b))):ZP (.ref t) (.str (wS y)) g=.ok (.ref (if y=true then b else a)) g:=by unfold ZP;dsimp only;rw[h];dsimp only;cases y<;>rfl
theorem Pl(h:Rp T g0 M g ad s gk)(hv:σ[i]?=some (vR (ad .W)))(hj:σ[j]?=some (some (.str (wS y)))):Qd ZP (Qq [15] "sides" (Qa i)) (Qa j) σ g=.ok (.ref (ad (.G y))) g:=by rw[Qo (a_sides h hv) (J8 hj) (Gm (h.at' .S trivial))];cases y<;>rfl
theorem NA(h:Rp T g0 M g ad s gk)(hv:σ[i]?=some (vR (ad .W)))(hj:σ[j]?=some (some (.str (wS y)))):Qd ZP (Qq [15] "asking" (Qa i)) (Qa j) σ g=.ok (.ref (ad (.B true y))) g:=by rw[Qo (a_asking h hv) (J8 hj) (Gm (h.at' .A trivial))];cases y<;>rfl
theorem cF(h:Rp T g0 M g ad s gk)(ha:(a=ad (.L x y k)/\k∈gk x y)\/a=g.length):a≠ad .C/\a≠ad .P:=by
 rcases ha with⟨rfl,hk⟩|rfl
 ·exact⟨λz=>(by have:=h.inj (.L x y k) .C hk trivial z;cases this),λz=>(by have:=h.inj (.L x y k) .P hk trivial z;cases this)⟩
 ·have h1:=h.lt (k:=.C) trivial;have h2:=h.lt (k:=.P) trivial;omega
theorem NB(ht:Tb rows n m)(h:okC w n m c)(hT:TR rows c.2.1 c.2.2.1≠none):∃i b j,TR rows c.2.1 c.2.2.1=some (i,b,j)/\cA rows c.2.1 c.2.2.1=Cd i b j/\0<=i/\i<m/\0<=j/\j<n:=by
 obtain⟨r,h1,h2,h3⟩:=ht.at' h.2.1.1 h.2.1.2 h.2.2.1.1 h.2.2.1.2;rcases h3.cases with⟨_,e⟩|⟨i,b,j,e1,e2,e3⟩
 ·exact absurd e hT
 ·exact⟨i,b,j,e2,e1,e3⟩
theorem NC(h:Rp (TR rows) g0 M g ad s gk)(ok:okS w n m (TR rows) s)(f:Few w n m)(ho:o σ g=.ok (.ref (ad .W)) g)(ha:a σ g=.ok [Yi c] g):∃g',Q2 (QS 15 "ask_for" Ze o a) σ g=.nx σ g'/\Rp (TR rows) g0 M g' ad (ask s c) gk/\(∀a,a≠ad .C->a≠ad .P->g'[a]?=g[a]?):=by obtain⟨g',e1,h1,k1⟩:=G5 h ok f c;exact⟨g',Zy ((Zx ho h.atW rfl ha).trans e1),h1,k1⟩
theorem BW(s:PSt)(cs:List Ct)(c:Ct):V0 s (cs++[c])=ask (V0 s cs) c:=by unfold V0;rw[List.foldl_append];rfl
theorem Vx{α:Type}{l:List α}{i:Nat}{x:α}(h:l[i]?=some x):l.take (i+1)=l.take i++[x]:=by obtain⟨hi,e⟩:=Uq.mp h;rw[U9 hi,e]
theorem NE(hM:g0[M]?=some (Z5 rows))(ht:Tb rows n m)(h:Rp (TR rows) g0 M g ad s gk)(ok:okS w n m (TR rows) s)(f:Few w n m)(kb:KB w m gk)(y:Bool){u:List Int}(hu:okG w m u):∃g' ad' gk',Yf [.ref (ad .W),.str (wS y),Zr u] g=.ok .non g'/\Rp (TR rows) g0 M g' ad' (Je (TR rows) s y u) gk'/\okS w n m (TR rows) (Je (TR rows) s y u)/\KB w m gk'/\(∀k0,Mu gk k0->ad' k0=ad k0):=by
 have h1:=h.push (.lst []);have e1:Ql (QS 14 "has" Yb (Qd ZP (Qq [15] "sides" (Qa 0)) (Qa 1)) (Qc (Qa 2) Qi)) [vR (ad .W),some (.str (wS y)),vM u,none] g=.ok (decide (u∈s.gs y)) (g++[.lst []]):=QR ((Zx (xs:=[Zr u]) (g2:=g) (Pl h rfl rfl) (h.atG y) rfl rfl).trans (cE h y u))
 by_cases hn:u∈s.gs y
 ·rw[Uv hn]at e1;refine⟨_,ad,gk,QB rfl (YO (FN _ e1 rfl)),?_,?_,kb,λ_ _=>rfl⟩
  ·unfold Je;rw[Ud hn];exact h1
  ·unfold Je;rw[Ud hn];exact ok
 ·rw[Ut hn]at e1;obtain⟨g2,ad',gk',e2,h2,kb',old,gks⟩:=A3 h1 ok f kb hu hn;have ok2:=ok.addG hu hn;have oW:ad' .W=ad .W:=old .W trivial;have oG:ad' (.G y)=ad (.G y):=old (.G y) trivial;obtain⟨a,e3,e4,e5⟩:=cD (σ:=[vR (ad .W),some (.str (wS y)),vM u,none]) h2 (o:=Qd ZP (Qq [15] "asking" (Qa 0)) (Qa 1)) (e:=Z7 (Qa 2) JF (ZO (Qt XY (mI 1)))) (x:=true) (y:=y) (k:=u.dropLast) (NA h2 (by rw[oW];rfl) rfl) (by simp only[XL,JB,VX];exact BR u _);have h3:=h2.push (.lst []);have hne:=cF h2 e5;have hL:∀c∈s.dn.filter (Jc (TR rows) y u.dropLast),okC w n m c/\∃i j,TR rows c.2.1 c.2.2.1=some (i,y,j)/\cA rows c.2.1 c.2.2.1=Cd i y j/\0<=i/\i<m/\0<=j/\j<n:=λc hc=>by obtain⟨c1,c2⟩:=Rk.mp hc;have okc:=ok.c c (ok.d c c1).1;obtain⟨i,b,j,q1,q2,q3⟩:=NB ht okc (ok.d c c1).2;unfold Jc at c2;rw[q1]at c2;have:=(UC c2).1;subst this;exact⟨okc,i,j,q1,q2,q3⟩
  obtain⟨σ',g',e6,x3,q1,q2,q3,q4⟩:=BV (t:=Qn 3) (body:=YT) e3 e4 (λi σ' g'=>∃x3,σ'=[vR (ad .W),some (.str (wS y)),vM u,x3]/\Rp (TR rows) g0 M g' ad' (V0 (addG s y u) (((s.dn.filter (Jc (TR rows) y u.dropLast)).take i).map λc=>dL (TR rows) c u)) gk'/\okS w n m (TR rows) (V0 (addG s y u) (((s.dn.filter (Jc (TR rows) y u.dropLast)).take i).map λc=>dL (TR rows) c u))/\g'[a]?=some (.lst (JR (TR rows) (addG s y u) true y u.dropLast)))
   ⟨none,rfl,h3,ok2,e4⟩ (λi σ' g' hh=>hh.elim λ_ q=>q.2.2.2) (λi d σ' g' hd hh=>by
    obtain⟨x3,q1,q2,q3,q4⟩:=hh;subst q1;have hd:((s.dn.filter (Jc (TR rows) y u.dropLast)).map Yi)[i]?=some d:=hd;rw[Uy]at hd;obtain⟨c,hc,rfl⟩:=US.mp hd;obtain⟨okc,ii,jj,t1,t2,t3,t4,t5,t6⟩:=hL c (Tg hc);have nx:dL (TR rows) c u=SC ii y jj c u:=by unfold dL;rw[t1]
    have hM':g'[M]?=some (Z5 rows):=q2.old.at' M _ (by simp) hM;obtain⟨g3,a1,a2,a3⟩:=NC (σ:=[vR (ad .W),some (.str (wS y)),vM u,some (Yi c)]) q2 q3 f (c:=SC ii y jj c u) (o:=Qa 0) (a:=Qc (Qp ZJ (Qc (Qp XG (Qc (Qq [15] "machine" (Qa 0)) (Qc (Qa 3) Qi))) (Qc (Qa 3) (Qc (Qa 2) Qi)))) Qi) (by rw[oW];rfl)
     (Qs ((Qv (ds:=[Cd ii y jj,Yi c,Zr u]) (g':=g') (Qs (g1:=g') ((Qv (ds:=[.ref M,Yi c]) (g':=g') (Qs (g1:=g') (a_machine q2 (by rw[oW];rfl)) rfl)).trans (by rw[KK hM' ht okc,t2])) rfl)).trans (Nz ii y jj c u g' f.w1 (Uo f.w3 (by decide)) okc)) rfl)
    rw[<-nx,<-BW]at a2;have e7:((s.dn.filter (Jc (TR rows) y u.dropLast)).take i).map (λc=>dL (TR rows) c u)++[dL (TR rows) c u]=((s.dn.filter (Jc (TR rows) y u.dropLast)).take (i+1)).map λc=>dL (TR rows) c u:=by rw[Vx hc,UU];rfl
    rw[e7]at a2;have ok3:=q3.ask (okc.nx (b:=y) f.w1 hu t3 t4 t5 t6);rw[<-nx,<-BW,e7]at ok3;exact⟨_,_,g3,rfl,a1,some (Yi c),rfl,a2,ok3,by rw[a3 a hne.1 hne.2];exact q4⟩)
  have fin:(s.dn.filter (Jc (TR rows) y u.dropLast)).take (JR (TR rows) (addG s y u) true y u.dropLast).length=s.dn.filter (Jc (TR rows) y u.dropLast):=Bu (by show _<=(List.map Yi _).length;rw[Uh];exact Ug _);rw[fin]at q2 q3;have pe:Je (TR rows) s y u=V0 (addG s y u) ((s.dn.filter (Jc (TR rows) y u.dropLast)).map λc=>dL (TR rows) c u):=Uf hn;refine⟨g',ad',gk',J5 (σ:=σ') rfl ?_,by rw[pe];exact q2,by rw[pe];exact q3,kb',old⟩;show Ye [vR (ad .W),some (.str (wS y)),vM u,none] g=_;unfold Ye;refine Qh [vR (ad .W),some (.str (wS y)),vM u,none] (g++[.lst []]) (Yv _ e1 rfl) ?_;refine Qh [vR (ad .W),some (.str (wS y)),vM u,none] g2 (Zy (d:=.non) ((Zx (xs:=[Zr u]) (g2:=g++[.lst []]) (Pl h1 rfl rfl) (h1.atG y) rfl rfl).trans e2)) e6
theorem okS.pop(h:okS w n m T s):okS w n m T (B3 s):=⟨h.g,h.gn,h.c,h.cn,λc hc=>h.p c (RI _ hc),h.d,by have:=h.l;show s.dn.length+s.pd.dropLast.length<=s.cs.length;rw[TX];omega⟩
theorem okS.done{T:Pj}(h:okS w n m T s){c:Ct}(hc:c∈s.cs)(hT:T c.2.1 c.2.2.1≠none)(hl:s.dn.length+s.pd.length+1<=s.cs.length):okS w n m T (G2 s c):=⟨h.g,h.gn,h.c,h.cn,h.p,λx hx=>by
 rcases UO.mp hx with z|z
 ·exact h.d x z
 ·rw[Ur.mp z];exact⟨hc,hT⟩,by
 show(s.dn++[c]).length+s.pd.length<=s.cs.length;rw[Um,U8];omega⟩
theorem iB(s:PSt)(c:Ct):(ask s c).dn=s.dn/\(ask s c).gs=s.gs/\(ask s c).cs.length+s.pd.length=s.cs.length+(ask s c).pd.length/\(∀x∈s.cs,x∈(ask s c).cs):=by
 unfold ask;split
 ·exact⟨rfl,rfl,rfl,λ_ z=>z⟩
 ·refine⟨rfl,rfl,?_,λx z=>UO.mpr (.inl z)⟩;show(s.cs++[c]).length+_=_+(s.pd++[c]).length;rw[Um,Um];simp only[U8];omega
theorem G6:∀(cs:List Ct)(s:PSt),(V0 s cs).dn=s.dn/\(V0 s cs).gs=s.gs/\(V0 s cs).cs.length+s.pd.length=s.cs.length+(V0 s cs).pd.length/\(∀x∈s.cs,x∈(V0 s cs).cs)
 |[],_=>⟨rfl,rfl,rfl,λ_ z=>z⟩|c::cs,s=>by obtain⟨a1,a2,a3,a4⟩:=iB s c;obtain⟨b1,b2,b3,b4⟩:=G6 cs (ask s c);show(V0 (ask s c) cs).dn=_/\_;refine⟨b1.trans a1,b2.trans a2,?_,λx z=>b4 x (a4 x z)⟩;show(V0 (ask s c) cs).cs.length+_=_+(V0 (ask s c) cs).pd.length;omega
theorem NF(T:Pj)(s:PSt)(y:Bool)(u:List Int):(Je T s y u).dn=s.dn/\(Je T s y u).cs.length+s.pd.length=s.cs.length+(Je T s y u).pd.length/\(∀x∈s.cs,x∈(Je T s y u).cs):=by
 unfold Je;split
 ·exact⟨rfl,rfl,λ_ z=>z⟩
 ·obtain⟨a1,_,a3,a4⟩:=G6 ((s.dn.filter (Jc T y u.dropLast)).map λc=>dL T c u) (addG s y u);exact⟨a1,a3,a4⟩
theorem L6(h:¬(x'=true/\Jc T y' k' c=true)):JR T (G2 s c) x' y' k'=JR T s x' y' k':=by
 cases x' with
 |false=>rfl|true =>show List.map _ (List.filter _ (s.dn++[c]))=List.map _ (List.filter _ s.dn);rw[Rz,Bi λz=>h ⟨rfl,z⟩];simp
theorem cG(h:Rp T g0 M g ad s gk)(hp:s.pd=r++[c])(hv:σ[i]?=some (vR (ad .W))):Qt E6 (Qq [15] "pending" (Qa i)) σ g=.ok (Yi c) (g.set (ad .P) (Pk T M ad (B3 s) gk .P)):=by refine ZX (a_pending h hv) ?_;unfold E6;dsimp only;rw[h.atP];dsimp only;rw[hp];simp only[UU,UL,List.map_nil,Um,Uh,U8,Nat.add_sub_cancel];rw[UT (by rw[Uh];exact Ug _),Uh,Nat.sub_self];show Res.ok (Yi c) (g.set (ad .P) (GO.lst (r.map Yi++[Yi c]).dropLast))=_;congr 2;show GO.lst _=GO.lst (List.map Yi s.pd.dropLast);rw[hp];simp
theorem Rp.pop(h:Rp T g0 M g ad s gk):Rp T g0 M (g.set (ad .P) (Pk T M ad (B3 s) gk .P)) ad (B3 s) gk:=h.set (k:=.P) trivial (s':=B3 s) (λk' _ hk=>by cases k' with|P=>exact absurd rfl hk|L x y k=>cases x<;>rfl|_=>rfl) h.kg h.ka
theorem A4(hM:g0[M]?=some (Z5 rows))(ht:Tb rows n m)(h:Rp (TR rows) g0 M g ad s gk)(ok:okS w n m (TR rows) s)(hp:s.pd=r++[c])(hT:TR rows c.2.1 c.2.2.1=none):∃g',Zf [.ref (ad .W)] g=.ok (.bl false) g'/\Keeps [] g0 g':=by
 have hc:c∈s.cs:=ok.p c (by rw[hp];simp);have okc:=ok.c c hc;have h1:=h.pop;obtain⟨_,_,_,h3⟩:=ht.at' okc.2.1.1 okc.2.1.2 okc.2.2.1.1 okc.2.2.1.2;have en:cA rows c.2.1 c.2.2.1=.non:=by
  rcases h3.cases with⟨e,_⟩|⟨i,b,j,_,e2,_⟩
  ·exact e
  ·exact absurd (hT.symm.trans e2) (λz=>by cases z)
 refine⟨_,QB rfl ?_,h1.old⟩;show Zs [vR (ad .W),none,none,none,none,none] g=_;unfold Zs;refine Qh [vR (ad .W),some (Yi c),none,none,none,none] _ (QF (cG h hp rfl)) ?_;refine Qh [vR (ad .W),some (Yi c),some .non,none,none,none] _ (QF ((Qv (ds:=[.ref M,Yi c]) (Qs (a_machine h1 rfl) rfl)).trans (by rw[KK (h1.old.at' M _ (by simp) hM) ht okc,en]))) ?_;exact YO (FN _ (QR (Qo (x:=.non) (y:=.non) rfl rfl rfl)) rfl)
theorem L7(hT:T c.2.1 c.2.2.1=some (i,b,j)):Jc T y k c=decide (b=y/\(Kk b c).tail=k):=by unfold Jc;rw[hT]
theorem A5(hM:g0[M]?=some (Z5 rows))(ht:Tb rows n m)(h:Rp (TR rows) g0 M g ad s gk)(ok:okS w n m (TR rows) s)(f:Few w n m)(kb:KB w m gk){c:Ct}{r:List Ct}(hp:s.pd=r++[c]){i j:Int}{b:Bool}(hT:TR rows c.2.1 c.2.2.1=some (i,b,j)):
  ∃g' ad' gk',Zf [.ref (ad .W)] g=.ok (.bl true) g'/\Rp (TR rows) g0 M g' ad' (G4 (TR rows) s c i b j) gk'/\okS w n m (TR rows) (G4 (TR rows) s c i b j)/\KB w m gk'/\ad' .W=ad .W:=by
 have hc:c∈s.cs:=ok.p c (by rw[hp];simp);have okc:=ok.c c hc;have h1:=h.pop;have ok1:=ok.pop;have hTn:TR rows c.2.1 c.2.2.1≠none:=by rw[hT];exact λz=>by cases z
 obtain⟨i',b',j',t1,t2,t3,t4,t5,t6⟩:=NB ht okc hTn;rw[hT]at t1;cases t1;have hM1:(g.set (ad .P) (Pk (TR rows) M ad (B3 s) gk .P))[M]?=some (Z5 rows):=h1.old.at' M _ (by simp) hM;have oA:=okc.a b
 -- the gram behind
 obtain⟨g2,ad2,gk2,e2,h2,ok2,kb2,old2⟩:=NE hM ht h1 ok1 f kb (!b) (okc.b b);have oW2:ad2 .W=ad .W:=old2 .W trivial;obtain⟨l1,l2,l3⟩:=NF (TR rows) (B3 s) (!b) (Mt b c)
 -- asking
 obtain⟨g3,ad3,gk3,e3,h3,hk3,old3,gkc⟩:=IT (σ:=[vR (ad .W),some (Yi c),some (Cd i b j),some (.str (wS b)),some (Zr (Kk b c).tail),none]) h2 (o:=Qd ZP (Qq [15] "asking" (Qa 0)) (Qa 3)) (e:=Qa 4) (x:=true) (y:=b) (k:=(Kk b c).tail) (Uo (kb2.len h2.nd f _ _) (by decide)) (NA h2 (by rw[oW2];rfl) rfl) rfl;have oW3:ad3 .W=ad .W:=(old3 .W trivial).trans oW2;have kb3:KB w m gk3:=by
  rcases gkc with rfl|rfl
  ·exact kb2
  ·exact kb2.new oA.tail
 have ha3:Mu gk3 (.L true b (Kk b c).tail):=hk3;have as1:Jc (TR rows) b (Kk b c).tail c=true:=by rw[L7 hT];simp
 have h4:=h3.set ha3 (s':=G2 (Je (TR rows) (B3 s) (!b) (Mt b c)) c) (λk' hk' hne=>by
  cases k' with
  |L x' y' k' =>refine Rf GO.lst (L6 λz=>hne ?_);obtain⟨z1,z2⟩:=z;rw[L7 hT]at z2;obtain⟨z3,z4⟩:=UC z2;rw[z1,<-z3,<-z4]|_=>rfl) h3.kg (λy' x k' hx hy=>by
   rcases UO.mp (show x∈_++[c] from hx) with z|z
   ·exact h3.ka y' x k' z hy
   ·rw[Ur.mp z,L7 hT]at hy;obtain⟨z3,z4⟩:=UC hy;rw[<-z3,<-z4];exact hk3)
 have ap:=VZ (σ:=[vR (ad .W),some (Yi c),some (Cd i b j),some (.str (wS b)),some (Zr (Kk b c).tail),none]) (e:=Qa 1) (y:=Yi c) e3 (h3.at' _ ha3) rfl (Uo (ok2.contl f true b _) (by decide));have ce:GO.lst (JR (TR rows) (Je (TR rows) (B3 s) (!b) (Mt b c)) true b (Kk b c).tail++[Yi c])=Pk (TR rows) M ad3 (G2 (Je (TR rows) (B3 s) (!b) (Mt b c)) c) gk3 (.L true b (Kk b c).tail):=by show _=GO.lst (List.map Yi (List.filter _ (_++[c])));rw[Rz,RX as1,UU];rfl
 rw[ce]at ap;have ok4:okS w n m (TR rows) (G2 (Je (TR rows) (B3 s) (!b) (Mt b c)) c):=ok2.done (l3 c hc) hTn (by
  rw[l1];have q1:=ok.l;have q2:s.pd.length=s.pd.dropLast.length+1:=by rw[hp];simp
  have q3:(Je (TR rows) (B3 s) (!b) (Mt b c)).cs.length+s.pd.dropLast.length=s.cs.length+(Je (TR rows) (B3 s) (!b) (Mt b c)).pd.length:=l2;show s.dn.length+_+1<=_;omega)
 generalize hs3:G2 (Je (TR rows) (B3 s) (!b) (Mt b c)) c=s3 at h4 ok4 ap;generalize hg4:g3.set (ad3 (.L true b (Kk b c).tail)) (Pk (TR rows) M ad3 s3 gk3 (.L true b (Kk b c).tail))=g4 at h4 ap
 -- the grams ahead
 obtain⟨a,e5,e6,e7⟩:=ED h4 b (Kk b c).tail;have h5:=h4.push (.lst []);have hne:=cF h4 e7;have e8:QS 14 "beginning" Zm (Qd ZP (Qq [15] "sides" (Qa 0)) (Qa 3)) (Qc (Qa 4) Qi) [vR (ad .W),some (Yi c),some (Cd i b j),some (.str (wS b)),some (Zr (Kk b c).tail),none] g4=.ok (.ref a) (g4++[.lst []]):=(Zx (xs:=[Zr (Kk b c).tail]) (g2:=g4) (Pl h4 (by rw[oW3];rfl) rfl) (h4.atG b) rfl rfl).trans e5;obtain⟨σ',g',e9,x5,q1,q2,q3,q4⟩:=BV (t:=Qn 5) (body:=Y8) e8 e6 (λk σ' g'=>∃x5,σ'=[vR (ad .W),some (Yi c),some (Cd i b j),some (.str (wS b)),some (Zr (Kk b c).tail),x5]/\Rp (TR rows) g0 M g' ad3 (V0 s3 (((gF s3 b (Kk b c).tail).take k).map λu=>SC i b j c u)) gk3/\okS w n m (TR rows) (V0 s3 (((gF s3 b (Kk b c).tail).take k).map λu=>SC i b j c u))/\g'[a]?=some (.lst (JR (TR rows) s3 false b (Kk b c).tail)))
  ⟨none,rfl,h5,ok4,e6⟩ (λi σ' g' hh=>hh.elim λ_ q=>q.2.2.2) (λk d σ' g' hd hh=>by
   obtain⟨x5,q1,q2,q3,q4⟩:=hh;subst q1;have hd:((gF s3 b (Kk b c).tail).map Zr)[k]?=some d:=hd;rw[Uy]at hd;obtain⟨u,hu,rfl⟩:=US.mp hd;have oku:okG w m u:=ok4.g b u (Rk.mp (Tg hu)).1;obtain⟨g6,a1,a2,a3⟩:=NC (σ:=[vR (ad .W),some (Yi c),some (Cd i b j),some (.str (wS b)),some (Zr (Kk b c).tail),vM u]) q2 q3 f (c:=SC i b j c u) (o:=Qa 0) (a:=Qc (Qp ZJ (Qc (Qa 2) (Qc (Qa 1) (Qc (Qa 5) Qi)))) Qi) (by rw[oW3];rfl)
    (Qs ((Qv (ds:=[Cd i b j,Yi c,Zr u]) (g':=g') rfl).trans (Nz i b j c u g' f.w1 (Uo f.w3 (by decide)) okc)) rfl)
   rw[<-BW]at a2;have e7:(((gF s3 b (Kk b c).tail).take k).map λu=>SC i b j c u)++[SC i b j c u]=(((gF s3 b (Kk b c).tail).take (k+1)).map λu=>SC i b j c u):=by rw[Vx hu,UU];rfl
   rw[e7]at a2;have ok6:=q3.ask (okc.nx (b:=b) f.w1 oku t3 t4 t5 t6);rw[<-BW,e7]at ok6;exact⟨_,_,g6,rfl,a1,vM u,rfl,a2,ok6,by rw[a3 a hne.1 hne.2];exact q4⟩)
 have fin:(gF s3 b (Kk b c).tail).take (JR (TR rows) s3 false b (Kk b c).tail).length=gF s3 b (Kk b c).tail:=Bu (by show _<=(List.map Zr _).length;rw[Uh];exact Ug _);rw[fin]at q2 q3;have pe:G4 (TR rows) s c i b j=V0 s3 ((gF s3 b (Kk b c).tail).map λu=>SC i b j c u):=by unfold G4;rw[hs3]
 refine⟨g',ad3,gk3,QB rfl ?_,by rw[pe];exact q2,by rw[pe];exact q3,kb3,oW3⟩;show Zs [vR (ad .W),none,none,none,none,none] g=_;unfold Zs;refine Qh [vR (ad .W),some (Yi c),none,none,none,none] _ (QF (cG h hp rfl)) ?_;refine Qh [vR (ad .W),some (Yi c),some (Cd i b j),none,none,none] _ (QF ((Qv (ds:=[.ref M,Yi c]) (Qs (a_machine h1 rfl) rfl)).trans (by rw[KK hM1 ht okc,t2]))) ?_;refine Qh [vR (ad .W),some (Yi c),some (Cd i b j),none,none,none] _ (Yv _ (QR (Qo (x:=Cd i b j) (y:=.non) rfl rfl rfl)) rfl) ?_;refine Qh [vR (ad .W),some (Yi c),some (Cd i b j),some (.str (wS b)),none,none] _ (QF (Qo (x:=Cd i b j) (y:=.int 1) rfl rfl nU)) ?_;refine Qh [vR (ad .W),some (Yi c),some (Cd i b j),some (.str (wS b)),none,none] g2 (Zy (d:=.non) ((Zx (xs:=[.str (wS !b),Zr (Mt b c)]) rfl h1.atW rfl (Qs ((Qv (ds:=[.str (wS b)]) rfl).trans (cB b _)) (Qs ((Qv (ds:=[Cd i b j,Yi c]) rfl).trans (IR i b j c _)) rfl))).trans e2)) ?_;refine Qh [vR (ad .W),some (Yi c),some (Cd i b j),some (.str (wS b)),some (Zr (Kk b c).tail),none] g2 (QF ?_) ?_
 ·simp only[XL,JB,VX];rw[(Qv (ds:=[Cd i b j,Yi c]) (g':=g2) rfl).trans (Ny i b j c g2)];exact hX _ g2
 refine Qh [vR (ad .W),some (Yi c),some (Cd i b j),some (.str (wS b)),some (Zr (Kk b c).tail),none] g4 (Zy (d:=.non) ap) ?_;refine Qh σ' g' e9 ?_;exact Q6 rfl
theorem Vg{g l:G}{i:Nat}{o:GO}(h:l[i]?=some o):(g++l)[g.length+i]?=some o:=by rw[UT (Tq _ _),Bj];exact h
theorem rK{g l:G}{i:Nat}{o:GO}:(g++l).set (g.length+i) o=g++l.set i o:=by rw[List.set_append_right _ _ (Tq _ _),Bj]
theorem EF  : (g++o::l)[g.length]?=some o:=by simp
theorem NG  : (g++o::l).set g.length u=g++u::l:=by simp
theorem HU:Xn [.ref g.length] (g++[.ins 14 []])=.ok .non (g++[.ins 14 (VB (g.length+1)),.dcn 0 []]):=by
 refine J5 (σ:=[vR g.length]) rfl ?_;show QJ [14] "by_seen" (Qa 0) (JX 0) [vR g.length] (g++[.ins 14 []])=_;unfold QJ JX;dsimp only;rw[show Qa 0 [vR g.length] (g++[GO.ins 14 []]++[GO.dcn 0 []])=.ok (.ref g.length) (g++[GO.ins 14 []]++[GO.dcn 0 []]) from rfl];dsimp only;rw[Tc,show [GO.ins 14 []]++[GO.dcn 0 []]=[GO.ins 14 [],.dcn 0 []] from rfl,EF];dsimp only;rw[Ud ⟨by decide,by decide⟩,NG];have e:(g++[GO.ins 14 []]).length=g.length+1:=by simp
 rw[e];rfl
theorem NH{g:G}{t:Nat}{u:List Int}(ht:g[t]?=some (.lst [Zr u])):YN [.ref t] g=.ok (.ref g.length) (g++[.ins 14 (VB (g.length+1)),.dcn 0 [(.inl u.dropLast,.ref (g.length+3))],.lst [],.lst [Zr u]]):=by
 have e1:Jq 14 Xn Qi [vR t,none,none] g=.ok (.ref g.length) (g++[.ins 14 (VB (g.length+1)),.dcn 0 []]):=by unfold Jq;rw[show Qi [vR t,none,none] g=.ok [] g from rfl,Res.bind_ok,HU,Res.bind_ok]
 have hl:(g++[GO.ins 14 (VB (g.length+1)),.dcn 0 []]).length=g.length+2:=by simp
 have hl2:(g++[GO.ins 14 (VB (g.length+1)),.dcn 0 [],.lst []]).length=g.length+3:=by simp
 have beg:Zm [.ref g.length,Zr u.dropLast] (g++[.ins 14 (VB (g.length+1)),.dcn 0 []])=.ok (.ref (g.length+2)) (g++[.ins 14 (VB (g.length+1)),.dcn 0 [],.lst []]):=by refine QB rfl (Q6 ?_);refine(EC (n:=g.length+1) (τ:=0) (ks:=[]) (y:=Zr u.dropLast) (z:=.ref (g.length+2)) (kk:=.inl u.dropLast) (g1:=g++[.ins 14 (VB (g.length+1)),.dcn 0 [],.lst []]) (Jd (n:=g.length) rfl EF (by decide) rfl) (Vg rfl) rfl ?_ (Vg rfl) (hU _)).trans rfl;rw[VY];simp[VB]
 have has:Yb [.ref g.length,Zr u] (g++[.ins 14 (VB (g.length+1)),.dcn 0 []])=.ok (.bl false) (g++[.ins 14 (VB (g.length+1)),.dcn 0 [],.lst []]):=by
  refine QB rfl (Q6 (Qo (x:=Zr u) (y:=.ref (g.length+2)) rfl ((Zx (n:=g.length) (xs:=[Zr u.dropLast]) rfl EF rfl ?_).trans beg) ?_))
  ·simp only[LV,XL,JB,VX,LU];exact Rf (λr=>match r with|Res.ok x g1=>Res.ok [x] g1 | .raise e g'=>.raise e g' | .stuck=>.stuck) (BR u _)
  ·show(match (g++[GO.ins 14 (VB (g.length+1)),.dcn 0 [],.lst []])[g.length+2]? with|some (.lst ds)=>_|_=>_)=_;rw[Vg (i:=2) rfl];show(match Xx (u.map .int),YY []with|some k,some ks=>_|_,_=>_)=_;rw[XJ];rfl
 have put:Yd [.ref g.length,Zr u] (g++[.ins 14 (VB (g.length+1)),.dcn 0 []])=.ok .non (g++[.ins 14 (VB (g.length+1)),.dcn 0 [(.inl u.dropLast,.ref (g.length+3))],.lst [],.lst [Zr u]]):=by
  refine J5 (σ:=[vR g.length,vM u]) rfl ?_;show Yc [vR g.length,vM u] _=_;unfold Yc;refine FN (g++[.ins 14 (VB (g.length+1)),.dcn 0 [],.lst []]) ?_ (Zy (d:=.non) ?_)
  ·unfold ZS;rw[QR (b:=false) ((Zx (n:=g.length) (xs:=[Zr u]) rfl EF rfl rfl).trans has)];rfl
  ·have sd:Vr (Qq [14] "by_seen" (Qa 0)) (Z7 (Qa 1) JF (ZO (Qt XY (mI 1)))) (QX Z6 Qi) [vR g.length,vM u] (g++[.ins 14 (VB (g.length+1)),.dcn 0 [],.lst []])=.ok (.ref (g.length+3)) (g++[.ins 14 (VB (g.length+1)),.dcn 0 [(.inl u.dropLast,.ref (g.length+3))],.lst [],.lst []]):=by
    refine(EC (n:=g.length+1) (τ:=0) (ks:=[]) (y:=Zr u.dropLast) (z:=.ref (g.length+3)) (kk:=.inl u.dropLast) (g1:=g++[.ins 14 (VB (g.length+1)),.dcn 0 [],.lst [],.lst []]) (Jd (n:=g.length) rfl EF (by decide) rfl) (Vg rfl) ?_ ?_ (Vg rfl) (hU _)).trans ?_
    ·simp only[XL,JB,VX];exact BR u _
    ·rw[VY];simp[VB]
    ·show Res.ok _ ((g++_).set (g.length+1) _)=_;rw[rK];rfl
   rw[VZ (n:=g.length+3) (ds:=[]) (y:=Zr u) sd (Vg rfl) rfl (by decide),rK];rfl
 refine QB rfl ?_;show CF [vR t,none,none] g=_;unfold CF;refine Qh [vR t,vR g.length,none] _ (QF e1) ?_;have ht':(g++[GO.ins 14 (VB (g.length+1)),.dcn 0 []])[t]?=some (.lst [Zr u]):=by rw[Uj (Q1 ht)];exact ht
 obtain⟨σ',g',e2,q⟩:=BV (t:=Qn 2) (body:=Cb) (e:=Qa 0) (σ:=[vR t,vR g.length,none]) (g:=g++[GO.ins 14 (VB (g.length+1)),.dcn 0 []]) rfl ht' (λi σ' g'=>(i=0/\σ'=[vR t,vR g.length,none]/\g'=g++[.ins 14 (VB (g.length+1)),.dcn 0 []])\/(i=1/\σ'=[vR t,vR g.length,vM u]/\g'=g++[.ins 14 (VB (g.length+1)),.dcn 0 [(.inl u.dropLast,.ref (g.length+3))],.lst [],.lst [Zr u]]))
  (.inl ⟨rfl,rfl,rfl⟩) (λi σ' g' hh=>by
   rcases hh with⟨_,_,rfl⟩|⟨_,_,rfl⟩
   ·exact ht'
   ·rw[Uj (Q1 ht)];exact ht) (λi d σ' g' hd hh=>by
   rcases hh with⟨rfl,rfl,rfl⟩|⟨rfl,_,_⟩
   ·cases hd;exact⟨_,_,_,rfl,Zy ((Zx (n:=g.length) (xs:=[Zr u]) rfl EF rfl rfl).trans put),.inr ⟨rfl,rfl,rfl⟩⟩
   ·cases hd)
 rcases q with⟨q,_⟩|⟨_,rfl,rfl⟩
 ·cases q
 ·exact Qh _ _ e2 (Q6 rfl)
theorem cH:Qu (.str "l") σ g=.ok (.str (wS false)) g:=by rw[sK];rfl
theorem cI:Qu (.str "r") σ g=.ok (.str (wS true)) g:=by rw[jQ];rfl
theorem iC(a b:Nat):O2 [] [(wS false,D.ref a),(wS true,.ref b)]=F2 a b:=rfl
theorem NI(a b:Nat)(l:G):GT g.length [D.str (wS false),.ref a,.str (wS true),.ref b] (g++GO.dct []::l)=.ok (.ref g.length) (g++GO.dct (F2 a b)::l):=by unfold GT;have e:Cz [D.str (wS false),.ref a,.str (wS true),.ref b]=some [(wS false,.ref a),(wS true,.ref b)]:=rfl;rw[e,EF];show(if [(wS false,D.ref a),(wS true,.ref b)].length<=15 then _ else _)=_;rw[Ud (by show 2<=15;decide),iC,NG]
theorem cJ(h3:σ[3]?=some (vM b)):VM (Qc (Qu (.str "l")) (Qc (Qp YN (Qc (QX Z6 (Qc (Qa 3) Qi)) Qi)) (Qc (Qu (.str "r")) (Qc (Qp YN (Qc (QX Z6 (Qc (Qa 3) Qi)) Qi)) Qi)))) σ g =
  .ok (.ref g.length) (g++[.dct (F2 (g.length+2) (g.length+7)),.lst [Zr b],.ins 14 (VB (g.length+3)),.dcn 0 [(.inl b.dropLast,.ref (g.length+5))],.lst [],.lst [Zr b],.lst [Zr b],.ins 14 (VB (g.length+8)),.dcn 0 [(.inl b.dropLast,.ref (g.length+10))],.lst [],.lst [Zr b]]):=by
 have one:∀(l:G),Qp YN (Qc (QX Z6 (Qc (Qa 3) Qi)) Qi) σ (g++l)=.ok (.ref (g.length+l.length+1)) (g++(l++[.lst [Zr b],.ins 14 (VB (g.length+l.length+2)),.dcn 0 [(.inl b.dropLast,.ref (g.length+l.length+4))],.lst [],.lst [Zr b]])):=λl=>by
  have e:Qc (QX Z6 (Qc (Qa 3) Qi)) Qi σ (g++l)=.ok [.ref (g.length+l.length)] (g++l++[.lst [Zr b]]):=by simp only[LV,J7,nR,LU,h3];rw[show Z6 [Zr b] (g++l)=.ok (.ref (g++l).length) (g++l++[.lst [Zr b]]) from Ud (by show 1<=_;decide),Um]
  have hl:(g++l++[GO.lst [Zr b]]).length=g.length+l.length+1:=by simp[WA]
  rw[Qv e,NH (u:=b) (by rw[show g.length+l.length=(g++l).length by simp];exact QO _),hl];simp
 have a1:=one [.dct []];have a2:=one ([.dct []]++[.lst [Zr b],.ins 14 (VB (g.length+1+2)),.dcn 0 [(.inl b.dropLast,.ref (g.length+1+4))],.lst [],.lst [Zr b]]);unfold VM;rw[Qs cH (Qs a1 (Qs cI (Qs a2 rfl))),Res.bind_ok];exact NI (g.length+2) (g.length+7) [.lst [Zr b],.ins 14 (VB (g.length+3)),.dcn 0 [(.inl b.dropLast,.ref (g.length+5))],.lst [],.lst [Zr b],.lst [Zr b],.ins 14 (VB (g.length+8)),.dcn 0 [(.inl b.dropLast,.ref (g.length+10))],.lst [],.lst [Zr b]]
theorem A6:VM (Qc (Qu (.str "l")) (Qc (JX 0) (Qc (Qu (.str "r")) (Qc (JX 0) Qi)))) σ g=.ok (.ref g.length) (g++[.dct (F2 (g.length+1) (g.length+2)),.dcn 0 [],.dcn 0 []]):=by
 have one:∀(l:G),JX 0 σ (g++l)=.ok (.ref (g.length+l.length)) (g++(l++[.dcn 0 []])):=λl=>by unfold JX;simp
 unfold VM;rw[Qs cH (Qs (one [.dct []]) (Qs cI (Qs (one [.dct [],.dcn 0 []]) rfl))),Res.bind_ok];exact NI (g.length+1) (g.length+2) [.dcn 0 [],.dcn 0 []]
theorem setattr_ok(h0:σ[0]?=some (vR n))(hv:v σ g=.ok y g1)(h:g1[n]?=some (.ins 15 fs))(hl:fs.length<100):QJ [15] f (Qa 0) v σ g=.nx σ (g1.set n (.ins 15 (HD f y fs))):=by unfold QJ;rw[hv];dsimp only;rw[J8 h0];dsimp only;rw[h];dsimp only;rw[Ud ⟨by decide,hl⟩]
theorem Ce(h:x≠f):HD f v ((x,y)::r)=(x,y)::HD f v r:=Uf h
def NJ(b:List Int):PSt:=⟨λ_=>[b],[],[],[]⟩
def Pm(b:List Int):GK:=λx _=>if x=true then [] else [b.dropLast]
def F3(N:Nat):Ky->Nat
 |.W=>N | .S=>N+1 | .A=>N+14 | .C=>N+12 | .P=>N+13|.G y=>if y=true then N+8 else N+3
 |.B x y=>if x=true then (if y=true then N+16 else N+15) else (if y=true then N+9 else N+4)
 |.L _ y _=>if y=true then N+11 else N+6
def rL(N M:Nat)(b:List Int):G:=[.ins 15 (wF M (N+1) (N+12) (N+13) (N+14)),.dct (F2 (N+3) (N+8)),.lst [Zr b],.ins 14 (VB (N+4)),.dcn 0 [(.inl b.dropLast,.ref (N+6))],.lst [],.lst [Zr b],.lst [Zr b],.ins 14 (VB (N+9)),.dcn 0 [(.inl b.dropLast,.ref (N+11))],.lst [],.lst [Zr b],.dcn 1 [],.lst [],.dct (F2 (N+15) (N+16)),.dcn 0 [],.dcn 0 []]
def vB(b:List Int):Nat->Ky
 |1=>.S|14=>.A|12=>.C|13=>.P|3=>.G false|8=>.G true|4=>.B false false|9=>.B false true|15=>.B true false|16=>.B true true|6=>.L false false b.dropLast|11=>.L false true b.dropLast|_=>.W
theorem SE(h:Mu (Pm b) k):vB b (F3 0 k)=k:=by
 cases k with
 |L x y k=>
  cases x
  ·have hk:k=b.dropLast:=Ur.mp h;subst hk;cases y<;>rfl
  ·exact absurd h (by show ¬k∈[];simp)
 |G y=>cases y<;>rfl|B x y=>cases x<;>cases y<;>rfl|_=>rfl
theorem SF(N:Nat)(k:Ky):F3 N k=N+F3 0 k:=by
 cases k with
 |L x y k=>cases y<;>simp[F3]|G y=>cases y<;>simp[F3]|B x y=>cases x<;>cases y<;>simp[F3]|_=>simp[F3]
theorem cK(T:Pj)(g0:G)(M:Nat)(b:List Int):Rp T g0 M (g0++rL g0.length M b) (F3 g0.length) (NJ b) (Pm b):=by
 refine⟨⟨by simp,λn o _ e=>by rw[Uj (Q1 e)];exact e⟩,λk ha=>?_,λk ha=>?_,λk k' ha ha' e=>?_,λx y=>?_,λy u hu=>?_,λy c k hc=>by cases hc⟩
 ·cases k with
  |W=>exact Vg (i:=0) rfl|S=>exact Vg (i:=1) rfl|A=>exact Vg (i:=14) rfl|C=>exact Vg (i:=12) rfl|P=>exact Vg (i:=13) rfl|G y=>
   cases y
   ·exact Vg (i:=3) rfl
   ·exact Vg (i:=8) rfl
  |B x y=>
   cases x<;>cases y
   ·exact Vg (i:=4) rfl
   ·exact Vg (i:=9) rfl
   ·exact Vg (i:=15) rfl
   ·exact Vg (i:=16) rfl
  |L x y k=>
   cases x
   ·have hk:k=b.dropLast:=Ur.mp ha;subst hk;have e:Pk T M (F3 g0.length) (NJ b) (Pm b) (.L false y b.dropLast)=.lst [Zr b]:=by show GO.lst (List.map Zr (List.filter _ [b]))=_;rw[RX (by simp)];rfl
    rw[e];cases y
    ·exact Vg (i:=6) rfl
    ·exact Vg (i:=11) rfl
   ·exact absurd ha (by show ¬k∈[];simp)
 ·cases k with
  |G y=>cases y<;>exact Tq _ _|B x y=>cases x<;>cases y<;>exact Tq _ _|L x y k=>cases y<;>exact Tq _ _|W=>exact Ug _|_=>exact Tq _ _
 ·rw[SF,SF _ k']at e;rw[<-SE ha,<-SE ha',Nat.add_left_cancel e]
 ·unfold Pm;cases x<;>simp
 ·rw[Ur.mp (show u∈[b] from hu)];exact Ur.mpr rfl
def XX(w:Nat):List Int:=List.replicate w 0
def dM(w:Nat):Ct:=(XX w,0,0,XX w)
theorem L8(hm:1<=m):okG w m (XX w):=⟨by simp[XX],λx hx=>by rw[List.eq_of_mem_replicate hx];omega⟩
section
variable{w n m:Nat}{T:Pj}
theorem nW(f:Few w n m):okC w n m (dM w):=⟨L8 (by have:=f.m2;omega),⟨RJ 0,by have:=f.n1;show(0:Int)<n;omega⟩,⟨RJ 0,by have:=f.m2;show(0:Int)<m;omega⟩,L8 (by have:=f.m2;omega)⟩
theorem cL(f:Few w n m):okS w n m T (NJ (XX w)):=⟨λy u hu=>(by rw[Ur.mp (show u∈[XX w] from hu)];exact L8 (by have:=f.m2;omega)),λy=>(by show [XX w].Nodup;simp),λc hc=>(by cases hc),.nil,λc hc=>(by cases hc),λc hc=>(by cases hc),Ug _⟩
theorem nX(f:Few w n m):KB w m (Pm (XX w)):=λx y k hk=>by
 cases x
 ·rw[Ur.mp (show k∈[(XX w).dropLast] from hk)];exact(L8 (by have:=f.m2;omega)).init
 ·exact absurd (show k∈[] from hk) (by simp)
theorem iD(g:G)(h1:1<=w)(h2:w<=100):Ss (.tup [.int 0]) (.int w) g=.ok (Zr (XX w)) g:=by show(if 1<=(w:Int)/\(w:Int)<=1000 then Res.ok (D.tup (List.replicate (w:Int).toNat (.int 0))) g else .stuck)=_;rw[Ud ⟨by omega,by omega⟩];show Res.ok (D.tup (List.replicate w (.int 0))) g=Res.ok (D.tup ((List.replicate w 0).map .int)) g;rw[List.map_replicate]
theorem cN(f:Few w n m):∃g',Yr [.ref g0.length,.ref M,.int w] (g0++[.ins 15 []])=.ok .non g'/\Rp T g0 M g' (F3 g0.length) (ask (NJ (XX w)) (dM w)) (Pm (XX w)):=by
 obtain⟨g',e1,h1,_⟩:=G5 (cK T g0 M (XX w)) (cL f) f (dM w);refine⟨g',J5 (σ:=[vR g0.length,vR M,vI w,vM (XX w)]) rfl ?_,h1⟩;show JA [vR g0.length,vR M,vI w,none] (g0++[.ins 15 []])=_;unfold JA;refine Qh [vR g0.length,vR M,vI w,vM (XX w)] (g0++[.ins 15 []]) (QF (Qo (x:=.tup [.int 0]) (y:=.int w) (by simp) rfl (iD _ f.w1 (Uo f.w3 (by decide))))) ?_;refine Qh [vR g0.length,vR M,vI w,vM (XX w)] (g0++[.ins 15 [("machine",.ref M)]]) ((setattr_ok (y:=.ref M) (fs:=[]) rfl rfl EF (by decide)).trans (by rw[NG];rfl)) ?_;have hl:(g0++[GO.ins 15 [("machine",D.ref M)]]).length=g0.length+1:=by simp
 refine Qh [vR g0.length,vR M,vI w,vM (XX w)] (g0++[.ins 15 [("machine",.ref M),("sides",.ref (g0.length+1))],.dct (F2 (g0.length+3) (g0.length+8)),.lst [Zr (XX w)],.ins 14 (VB (g0.length+4)),.dcn 0 [(.inl (XX w).dropLast,.ref (g0.length+6))],.lst [],.lst [Zr (XX w)],.lst [Zr (XX w)],.ins 14 (VB (g0.length+9)),.dcn 0 [(.inl (XX w).dropLast,.ref (g0.length+11))],.lst [],.lst [Zr (XX w)]]) ?_ ?_
 ·refine(setattr_ok (n:=g0.length) (fs:=[("machine",.ref M)]) rfl (cJ (b:=XX w) rfl) ?_ (by show 1<100;decide)).trans ?_
  ·rw[Tc];exact EF
  ·rw[Tc,hl];show Out.nx _ ((g0++_::_).set g0.length _)=_;rw[NG,Ce (by decide +kernel)];rfl
 have hl2:∀l:G,(g0++l).length=g0.length+l.length:=λl=>by simp
 refine Qh [vR g0.length,vR M,vI w,vM (XX w)] (g0++[.ins 15 [("machine",.ref M),("sides",.ref (g0.length+1)),("contexts",.ref (g0.length+12))],.dct (F2 (g0.length+3) (g0.length+8)),.lst [Zr (XX w)],.ins 14 (VB (g0.length+4)),.dcn 0 [(.inl (XX w).dropLast,.ref (g0.length+6))],.lst [],.lst [Zr (XX w)],.lst [Zr (XX w)],.ins 14 (VB (g0.length+9)),.dcn 0 [(.inl (XX w).dropLast,.ref (g0.length+11))],.lst [],.lst [Zr (XX w)],.dcn 1 []]) ?_ ?_
 ·refine(setattr_ok (n:=g0.length) (fs:=[("machine",.ref M),("sides",.ref (g0.length+1))]) rfl rfl ?_ (by show 2<100;decide)).trans ?_
  ·rw[Tc];exact EF
  ·rw[hl2,Tc];show Out.nx _ ((g0++_::_).set g0.length _)=_;rw[NG,Ce (by decide +kernel),Ce (by decide +kernel)];rfl
 refine Qh [vR g0.length,vR M,vI w,vM (XX w)] (g0++[.ins 15 [("machine",.ref M),("sides",.ref (g0.length+1)),("contexts",.ref (g0.length+12)),("pending",.ref (g0.length+13))],.dct (F2 (g0.length+3) (g0.length+8)),.lst [Zr (XX w)],.ins 14 (VB (g0.length+4)),.dcn 0 [(.inl (XX w).dropLast,.ref (g0.length+6))],.lst [],.lst [Zr (XX w)],.lst [Zr (XX w)],.ins 14 (VB (g0.length+9)),.dcn 0 [(.inl (XX w).dropLast,.ref (g0.length+11))],.lst [],.lst [Zr (XX w)],.dcn 1 [],.lst []]) ?_ ?_
 ·refine(setattr_ok (n:=g0.length) (fs:=[("machine",.ref M),("sides",.ref (g0.length+1)),("contexts",.ref (g0.length+12))]) rfl VY ?_ (by show 3<100;decide)).trans ?_
  ·rw[Tc];exact EF
  ·rw[hl2,Tc];show Out.nx _ ((g0++_::_).set g0.length _)=_;rw[NG,Ce (by decide +kernel),Ce (by decide +kernel),Ce (by decide +kernel)];rfl
 refine Qh [vR g0.length,vR M,vI w,vM (XX w)] (g0++rL g0.length M (XX w)) ?_ ?_
 ·refine(setattr_ok (n:=g0.length) (fs:=[("machine",.ref M),("sides",.ref (g0.length+1)),("contexts",.ref (g0.length+12)),("pending",.ref (g0.length+13))]) rfl A6 ?_ (by show 4<100;decide)).trans ?_
  ·rw[Tc];exact EF
  ·rw[hl2,Tc];show Out.nx _ ((g0++_::_).set g0.length _)=_;rw[NG,Ce (by decide +kernel),Ce (by decide +kernel),Ce (by decide +kernel),Ce (by decide +kernel)];rfl
 refine Zy (d:=.non) ((Zx (n:=g0.length) (xs:=[Yi (dM w)]) rfl (cK T g0 M (XX w)).atW rfl ?_).trans e1);refine Qs (x:=Yi (dM w)) ?_ rfl;simp[Yi,dM]
theorem cO(f:Few w n m)(ha:a σ g0=.ok [.ref M,.int w] g0):∃g',Jq 15 Yr a σ g0=.ok (.ref g0.length) g'/\Rp T g0 M g' (F3 g0.length) (ask (NJ (XX w)) (dM w)) (Pm (XX w)):=by obtain⟨g',e1,h1⟩:=cN (T:=T) (g0:=g0) (M:=M) f;refine⟨g',?_,h1⟩;unfold Jq;rw[ha,Res.bind_ok,e1,Res.bind_ok]
end
theorem FO{g:G}{Gr B:Nat}{ks:List (List Int)}{adr:List Int->Nat}{cont:List Int->List (List Int)}{w m:Nat}(hw:1<=w)(hG:g[Gr]?=some (.ins 14 (VB B)))(hB:g[B]?=some (.dcn 0 (ks.map λk=>(.inl k,.ref (adr k)))))(hL:∀k∈ks,g[adr k]?=some (.lst ((cont k).map Zr)))(hz:(ks.flatMap cont).length<64)(hn:(ks.flatMap cont).Nodup)(ho:∀u∈ks.flatMap cont,okG w m u):∃a g',Yq [.ref Gr] g=.ok (.ref a) g'/\g'[a]?=some .unk/\g.length<=a/\(∀n,n≠B->n<g.length->g'[n]?=g[n]?):=by
 have lB:=Q1 hB
 let g1:G:=g++[.lst []]
 let g2:G:=g1.set B (.dcf 0 (ks.map λk=>(.inl k,.ref (adr k))))
 have e1:bG (Qq [14] "by_seen" (Qa 0)) [vR Gr,vR g.length,none] g1=.ok ⟨λ_ i=>some (ks.map λk=>D.ref (adr k))[i]?,(ks.map λk=>D.ref (adr k)).length⟩ g2:=by unfold bG bF;rw[Jd (n:=Gr) (d:=.ref B) rfl (by show g1[Gr]?=_;rw[Uj (Q1 hG)];exact hG) (by decide) rfl,Res.bind_ok];unfold Su;dsimp only;rw[show g1[B]?=some (.dcn 0 (ks.map λk=>(.inl k,.ref (adr k)))) by rw[Uj lB];exact hB];dsimp only;rw[Wj,Uh,Uh];rfl
 obtain⟨σ',g',e2,x2,q1,q2,q3,q4⟩:=AU (t:=Qn 2) (body:=Xh) (ds:=ks.map λk=>D.ref (adr k)) (σ:=[vR Gr,vR g.length,none]) (g:=g2) (λi σ' g'=>∃x2,σ'=[vR Gr,vR g.length,x2]/\g'[g.length]?=some (.lst (((ks.take i).flatMap cont).map Zr))/\(∀n,n≠B->n<g.length->g'[n]?=g[n]?)/\g'.length=g.length+1)
  ⟨none,rfl,by show(g1.set B _)[g.length]?=_;rw[Ui (by omega)];exact QO _,λn hn hl=>by show(g1.set B _)[n]?=_;rw[Ui (Ne.symm hn),Uj hl],by show(g1.set B _).length=_;rw[UZ];show(g++[GO.lst []]).length=_;simp⟩ (λi d σ' g' hd hh=>by
   obtain⟨x2,q1,q2,q3,q4⟩:=hh;subst q1;rw[Uy]at hd;obtain⟨k,hk,rfl⟩:=US.mp hd;have hk':=hL k (Tg hk);have lk:=Q1 hk';have nB:adr k≠B:=λz=>by rw[z,hB]at hk';cases hk'
   have tl:(ks.take (i+1)).flatMap cont=(ks.take i).flatMap cont++cont k:=by rw[Vx hk,List.flatMap_append];simp
   have len:((ks.take (i+1)).flatMap cont).length<=63:=by
    refine Uo ?_ (Nat.le_of_lt_succ hz)
    conv=>rhs;rw[<-BI (i+1) ks,List.flatMap_append]
    rw[Um];exact Tq _ _
   refine⟨_,[vR Gr,vR g.length,vR (adr k)],g'.set g.length (.lst (((ks.take (i+1)).flatMap cont).map Zr)),rfl,Zy (d:=.non) ?_,vR (adr k),rfl,Yt q2,λn hn hl=>by rw[Ui (by omega)];exact q3 n hn hl,by rw[UZ];exact q4⟩;show Gj (Qa 1) (Qa 2) [vR Gr,vR g.length,vR (adr k)] g'=_;unfold Gj;rw[show Qa 1 [vR Gr,vR g.length,vR (adr k)] g'=.ok (.ref g.length) g' from rfl,Res.bind_ok];dsimp only;rw[q2];dsimp only;rw[show Qa 2 [vR Gr,vR g.length,vR (adr k)] g'=.ok (.ref (adr k)) g' from rfl,Res.bind_ok];dsimp only;rw[q2,q3 _ nB lk,hk'];dsimp only;rw[Ud ⟨by omega,by rw[tl,Um]at len;rw[Uh,Uh];exact Uo len (by decide)⟩,tl,UU])
 have fin:ks.take (ks.map λk=>D.ref (adr k)).length=ks:=by rw[Uh];exact Rc
 rw[fin]at q2;subst q1;refine⟨g'.length,g'++[.unk],QB rfl ?_,QO _,by omega,λn hn hl=>by rw[Uj (by omega)];exact q3 n hn hl⟩;show Jz [vR Gr,none,none] g=_;unfold Jz;refine Qh [vR Gr,vR g.length,none] g1 (QF VY) ?_;refine Qh _ g' ((Jb e1).trans e2) (Q6 (ZX (x:=.ref g.length) rfl ?_));unfold Et;dsimp only;rw[q2];dsimp only;rw[LX];exact Ud ⟨hz,hn,λz=>by have:=(ho _ z).1;simp at this;omega⟩
theorem Fk(h:Rp T g0 M g ad s gk)(ok:okS w n m T s)(y:Bool):((gk false y).flatMap (gF s y)).Nodup:=by
 have nd:=h.nd false y;generalize gk false y=ks at nd;induction ks with
 |nil=>exact .nil|cons k ks ih =>have nd':=RC.mp nd;rw[List.flatMap_cons];refine Tt.mpr ⟨(ok.gn y).filter _,ih nd'.2,λa ha b hb z=>?_⟩;subst z;obtain⟨k',hk',hb'⟩:=Rv.mp hb;have e1:=UC (Rk.mp ha).2;have e2:=UC (Rk.mp hb').2;exact nd'.1 (by rw[<-e1,e2];exact hk')
theorem SG:∀cs:List Ct,LH (cs.map .inr)=some cs
 |[]=>rfl|c::cs=>by show(LH (cs.map .inr)).map (c :: ·)=_;rw[SG cs];rfl
theorem cQ(h:Rp T g0 M g ad s gk)(ok:okS w n m T s)(f:Few w n m)(h64:s.cs.length<64)(hg:(LY m w).length<64):∃a b c g',Z4 [.ref (ad .W),.int w] g=.ok (.tup [.str "wall",.int w,.ref a,.ref b,.ref c]) g'/\Keeps [] g0 g':=by
 have lenG:=h.old.len;have og:∀y,∀u∈(gk false y).flatMap (gF s y),okG w m u:=λy u hu=>ok.g y u (Rv.mp hu |>.elim λ_ z=>(Rk.mp z.2).1);have zl:∀y,((gk false y).flatMap (gF s y)).length<64:=λy=>RS (JS (Fk h ok y) λu hu=>Vw (og y u hu)) hg;obtain⟨a,g1,e1,a1,a2,a3⟩:=FO (g:=g) (Gr:=ad (.G false)) (B:=ad (.B false false)) (ks:=gk false false) (adr:=λk=>ad (.L false false k)) (cont:=gF s false) f.w1 (h.atG false) (h.atB false false) (λk hk=>h.at' (.L false false k) hk) (zl false) (Fk h ok false) (og false);have lg1:g.length<=g1.length:=by have:=Q1 a1;omega
 have tr:∀k,Mu gk k->k≠.B false false->g1[ad k]?=some (Pk T M ad s gk k):=λk hk hne=>by rw[a3 _ (λz=>hne (h.inj _ (.B false false) hk trivial z)) (h.lt hk)];exact h.at' k hk
 obtain⟨b,g2,e2,b1,b2,b3⟩:=FO (g:=g1) (Gr:=ad (.G true)) (B:=ad (.B false true)) (ks:=gk false true) (adr:=λk=>ad (.L false true k)) (cont:=gF s true) f.w1 (tr (.G true) trivial (λz=>by cases z)) (tr (.B false true) trivial (λz=>by cases z)) (λk hk=>tr (.L false true k) hk (λz=>by cases z)) (zl true) (Fk h ok true) (og true);have lg2:g1.length<=g2.length:=by have:=Q1 b1;omega
 have hC:g2[ad .C]?=some (.dcn 1 (s.cs.map λc=>(.inr c,.bl true))):=by rw[b3 _ (λz=>by have:=h.inj .C (.B false true) trivial trivial z;cases this) (Uu (h.lt (k:=.C) trivial) lg1)];exact tr .C trivial (λz=>by cases z)
 have hBt:ad (.B false true)<g.length:=h.lt (k:=.B false true) trivial;refine⟨a,b,g2.length,g2++[.unk],QB rfl (Q6 ?_),⟨by rw[Um];show g0.length<=_+1;omega,λk o hk e=>?_⟩⟩
 ·have oL:Qd ZP (Qq [15] "sides" (Qa 0)) (Qu (.str "l")) [vR (ad .W),vI w] g=.ok (.ref (ad (.G false))) g:=Qo (a_sides h rfl) cH ((Gm (y:=false) (h.at' .S trivial)).trans rfl);have hW:g1[ad .W]?=some (.ins 15 (wF M (ad .S) (ad .C) (ad .P) (ad .A))):=tr .W trivial (λz=>by cases z);have oR:Qd ZP (Qq [15] "sides" (Qa 0)) (Qu (.str "r")) [vR (ad .W),vI w] g1=.ok (.ref (ad (.G true))) g1:=Qo (Jd (n:=ad .W) rfl hW (by decide) rfl) cI ((Gm (y:=true) (tr .S trivial (λz=>by cases z))).trans rfl);have hW2:g2[ad .W]?=some (.ins 15 (wF M (ad .S) (ad .C) (ad .P) (ad .A))):=by rw[b3 _ (λz=>by have:=h.inj .W (.B false true) trivial trivial z;cases this) (Uu (h.lt (k:=.W) trivial) lg1)];exact hW
  have oC:Qt Es (Qq [15] "contexts" (Qa 0)) [vR (ad .W),vI w] g2=.ok (.ref g2.length) (g2++[.unk]):=by refine ZX (Jd (n:=ad .W) rfl hW2 (by decide) rfl) ?_;unfold Es oQ;dsimp only;rw[hC];dsimp only;rw[Ud (by rw[Uh];exact Uo (ok.cl f) (by decide)),Wj,show((λx:SKd×D=>x.1)∘λc:Ct=>((SKd.inr c,D.bl true):SKd×D))=SKd.inr from rfl,SG];exact Ud ⟨h64,ok.cn⟩
  have:=Qs (x:=.str "wall") (σ:=[vR (ad .W),vI w]) (a:=Qu (.str "wall")) (g:=g) (g1:=g) rfl (Qs (x:=.int w) (a:=Qa 1) (g1:=g) rfl (Qs ((Zx (m:="in_order") (xs:=[]) (g2:=g) oL (h.atG false) rfl (show Qi _ g=_ from rfl)).trans e1) (Qs ((Zx (m:="in_order") (xs:=[]) (g2:=g1) oR (tr (.G true) trivial (λz=>by cases z)) rfl (show Qi _ g1=_ from rfl)).trans e2) (Qs oC (show Qi _ _=.ok [] _ from rfl)))));show QX ZQ _ [vR (ad .W),vI w] g=_;rw[J7,this];exact nV _ _ (by show 5<=100;decide)
 ·have hl:=Q1 e;have:=h.ge (.B false false) trivial;have:=h.ge (.B false true) trivial;rw[Uj (by omega),b3 k (by omega) (by omega),a3 k (by omega) (by omega)];exact h.old.at' k o hk e
theorem EG(h:Rp T g0 M g ad s gk)(ok:okS w n m T s)(f:Few w n m)(hv:σ[i]?=some (vR (ad .W))):Qt Er (Qq [15] "contexts" (Qa i)) σ g=.ok (.int s.cs.length) g:=by refine ZX (a_contexts h hv) ?_;unfold Er oQ;dsimp only;rw[h.atC];dsimp only;rw[Uh,Ud (Uo (ok.cl f) (by decide))]
theorem NL(h:Rp T g0 M g ad s gk)(hv:σ[i]?=some (vR (ad .W))):Ql (Qd Lk (Qt Zv (Qq [15] "pending" (Qa i))) (mI 0)) σ g=.ok (decide (s.pd≠[])) g:=by
 refine QR (Qo (x:=.int (s.pd.map Yi).length) (y:=.int 0) (ZX (a_pending h hv) (Fj h.atP)) rfl ?_);rw[jR,Uh];congr 2;refine Rb.mpr ?_;cases s.pd with
 |nil=>simp|cons _ _=>simp
def IU(T:Pj):Nat->PSt->Option PSt
 |0,_=>none|f+1,s=>match s.pd.getLast? with
  |none=>some s|some c=>match T c.2.1 c.2.2.1 with
   |none=>none|some (i,b,j)=>IU T f (G4 T s c i b j)
theorem IV(hM:g0[M]?=some (Z5 rows))(ht:Tb rows n m)(f:Few w n m)(hC:(A1 w n m).length<=64):∀(fuel:Nat)(g:G)(ad:Ky->Nat)(s:PSt)(gk:GK),Rp (TR rows) g0 M g ad s gk->okS w n m (TR rows) s->KB w m gk->ad .W=W->900-s.dn.length<fuel->(IU (TR rows) fuel s=none/\∃g',Zo (Ql (Qd Lk (Qt Zv (Qq [15] "pending" (Qa 3))) (mI 0))) Ys fuel [vR M,vI w,vI 200,vR W] g=.rt .non g'/\Keeps [] g0 g')\/(∃g' ad' s' gk',IU (TR rows) fuel s=some s'/\Zo (Ql (Qd Lk (Qt Zv (Qq [15] "pending" (Qa 3))) (mI 0))) Ys fuel [vR M,vI w,vI 200,vR W] g=.nx [vR M,vI w,vI 200,vR W] g'/\Rp (TR rows) g0 M g' ad' s' gk'/\okS w n m (TR rows) s'/\ad' .W=W)
 |0,_,_,_,_,_,_,_,_,h=>by omega
 |fuel+1,g,ad,s,gk,h,ok,kb,hW,hf=>by
  subst hW;unfold Zo IU;rw[NL h (σ:=[vR M,vI w,vI 200,vR (ad .W)]) (i:=3) rfl];by_cases hp:s.pd=[]
  ·rw[Ut (λz=>z hp),hp];exact .inr ⟨g,ad,s,gk,rfl,rfl,h,ok,rfl⟩
  ·rw[Uv hp];dsimp only;obtain⟨r,c,hpc⟩:∃r c,s.pd=r++[c]:=⟨_,_,(List.dropLast_concat_getLast hp).symm⟩;rw[show s.pd.getLast?=some c by rw[hpc];simp];dsimp only;have hcl:s.cs.length<=64:=Uo (JS ok.cn λc hc=>EE (ok.c c hc)) hC;have e1:Ql (Qd Lk (Qt Er (Qq [15] "contexts" (Qa 3))) (Qa 2)) [vR M,vI w,vI 200,vR (ad .W)] g=.ok false g:=by refine QR (Qo (x:=.int s.cs.length) (y:=.int 200) (EG h ok f rfl) rfl ?_);rw[jR,Ut (by omega)]
   have eb:∀{t:Bool}{g':G},Zf [.ref (ad .W)] g=.ok (.bl t) g'->Ys [vR M,vI w,vI 200,vR (ad .W)] g=if t=true then .nx [vR M,vI w,vI 200,vR (ad .W)] g' else .rt .non g':=λ{t g'} he=>by
    have e2:BZ (Ql (Qd Lk (Qt Er (Qq [15] "contexts" (Qa 3))) (Qa 2))) (ZS (Ql (QS 15 "went_on" Zf (Qa 3) Qi))) [vR M,vI w,vI 200,vR (ad .W)] g=.ok (!t) g':=by rw[LW,e1];dsimp only;rw[Uf Ue,Gk,QR ((Zx (n:=ad .W) (xs:=[]) (g2:=g) rfl h.atW rfl rfl).trans he)]
    unfold Ys;cases t
    ·exact FN _ e2 rfl
    ·exact Yv _ e2 rfl
   cases hT:TR rows c.2.1 c.2.2.1 with
   |none =>obtain⟨g',e2,k2⟩:=A4 hM ht h ok hpc hT;rw[eb e2];exact .inl ⟨rfl,g',rfl,k2⟩|some e=>
    obtain⟨i,b,j⟩:=e;obtain⟨g',ad',gk',e2,h2,ok2,kb2,oW⟩:=A5 hM ht h ok f kb hpc hT;rw[eb e2,Ud rfl];have hdn:(G4 (TR rows) s c i b j).dn=s.dn++[c]:=by unfold G4;dsimp only;rw[(G6 _ _).1];show(Je (TR rows) (B3 s) (!b) (Mt b c)).dn++[c]=_;rw[(NF _ _ _ _).1];rfl
    have l1:=ok2.l;have l2:=ok2.cl f;rw[hdn,Um,U8]at l1;exact IV hM ht f hC fuel g' ad' _ gk' h2 ok2 kb2 oW (by rw[hdn,Um,U8];omega)
def Cg(rows:List (List D))(w:Nat):Option PSt:=IU (TR rows) 1000 (ask (NJ (XX w)) (dM w))
theorem iE(hM:g0[M]?=some (Z5 rows))(ht:Tb rows n m)(f:Few w n m)(hC:(A1 w n m).length<=64)(hg:(LY m w).length<64)(h64:∀s,Cg rows w=some s->okS w n m (TR rows) s->s.cs.length<64):∃d g',Vu [.ref M,.int w,.int 200] g0=.ok d g'/\Keeps [] g0 g'/\((Cg rows w=none/\d=.non)\/((Cg rows w).isSome=true/\∃ds,d=.tup (.str "wall"::ds))):=by
 obtain⟨g1,e1,h1⟩:=cO (T:=TR rows) (g0:=g0) (M:=M) (σ:=[vR M,vI w,vI 200,none]) (a:=Qc (Qa 0) (Qc (Qa 1) Qi)) f rfl;have ok1:okS w n m (TR rows) (ask (NJ (XX w)) (dM w)):=(cL f).ask (nW f);have c1:Ql (Qd HF (Qa 1) (mI 1)) [vR M,vI w,vI 200,none] g0=.ok false g0:=by refine QR (Qo (x:=.int w) (y:=.int 1) rfl rfl ?_);rw[rE,Ut (by have:=f.w1;omega)]
 have st:∀{R:Out},Qr (Kp (Ql (Qd Lk (Qt Zv (Qq [15] "pending" (Qa 3))) (mI 0))) Ys) (QM (Vc (Ql (Qd Oq (Qt Er (Qq [15] "contexts" (Qa 3))) (Qa 2))) (QS 15 "paper" Z4 (Qa 3) (Qc (Qa 1) Qi)) (Qu .non))) [vR M,vI w,vI 200,vR g0.length] g1=R->Fd [vR M,vI w,vI 200,none] g0=R:=λ{R} hR=>by unfold Fd;refine Qh [vR M,vI w,vI 200,none] g0 (Yv _ c1 rfl) ?_;exact Qh [vR M,vI w,vI 200,vR g0.length] g1 (QF e1) hR
 rcases IV hM ht f hC (W:=g0.length) 1000 g1 (F3 g0.length) _ _ h1 ok1 (nX f) rfl (by omega) with⟨lp,g',e2,k2⟩|⟨g',ad',s',gk',lp,e2,h2,ok2,oW⟩
 ·exact⟨.non,g',QB rfl (st (YO (EB e2 (λz=>by cases z)))),k2,.inl ⟨lp,rfl⟩⟩
 ·have hcl:s'.cs.length<64:=h64 s' lp ok2;have c2:Ql (Qd Oq (Qt Er (Qq [15] "contexts" (Qa 3))) (Qa 2)) [vR M,vI w,vI 200,vR g0.length] g'=.ok true g':=by refine QR (Qo (x:=.int s'.cs.length) (y:=.int 200) (EG h2 ok2 f (by rw[oW];rfl)) rfl ?_);rw[rF,Uv (by omega)]
  obtain⟨a,b,c,g2,e3,k3⟩:=cQ h2 ok2 f hcl hg;rw[oW]at e3;refine⟨_,g2,QB rfl (st (Qh _ g' (EB e2 (λz=>by cases z)) (Q6 (d:=.tup [.str "wall",.int w,.ref a,.ref b,.ref c]) (g':=g2) ?_))),k3,.inr ⟨by unfold Cg;rw[lp];rfl,_,rfl⟩⟩;rw[nS,c2];dsimp only;rw[Ud rfl,Zx (n:=g0.length) (xs:=[.int w]) (g2:=g') rfl (by rw[<-oW];exact h2.atW) rfl rfl,e3]
def cR(t s p l r:D):List (Str×D):=[("table",t),("state",s),("place",p),("left_marks",l),("right_marks",r)]
def YE(L:List (Int×Nat)):List D:=L.map λp=>D.tup [.int p.1,.int (p.2:Nat)]
def Vy(rows:List (List D))(st:Nat)(pl:Int)(l r:Nat):GO:=.ins 12 (cR (.tup (rows.map .tup)) (.int st) (.int pl) (.ref l) (.ref r))
structure WRep(rows:List (List D))(w l r:Nat)(g:G)(st:Nat)(pl:Int)(L R:List (Int×Nat)):Prop where
 w':g[w]?=some (Vy rows st pl l r)
 l':g[l]?=some (.lst (YE L))
 r':g[r]?=some (.lst (YE R))
 wl:w≠l
 wr:w≠r
 lr:l≠r
theorem EH(hv:σ[i]?=some (some (.ref w)))(h:g[w]?=some (.ins c fs))(hc:c∈cs)(hf:fs.lookup f=some d):Qq cs f (Qa i) σ g=.ok d g:=by unfold Qq Qt Qa;rw[hv];dsimp only;rw[Res.bind_ok];dsimp only;rw[h];dsimp only;rw[Ud hc,hf]
theorem WRep.place(W:WRep rows w l r g st pl L R)(hv:σ[i]?=some (some (.ref w))):Qq [12] "place" (Qa i) σ g=.ok (.int pl) g:=EH hv W.w' (by simp) rfl
theorem WRep.state(W:WRep rows w l r g st pl L R)(hv:σ[i]?=some (some (.ref w))):Qq [12] "state" (Qa i) σ g=.ok (.int st) g:=EH hv W.w' (by simp) rfl
theorem WRep.table(W:WRep rows w l r g st pl L R)(hv:σ[i]?=some (some (.ref w))):Qq [11,12] "table" (Qa i) σ g=.ok (.tup (rows.map .tup)) g:=EH hv W.w' (by simp) rfl
theorem WRep.left(W:WRep rows w l r g st pl L R)(hv:σ[i]?=some (some (.ref w))):Qq [12] "left_marks" (Qa i) σ g=.ok (.ref l) g:=EH hv W.w' (by simp) rfl
theorem WRep.right(W:WRep rows w l r g st pl L R)(hv:σ[i]?=some (some (.ref w))):Qq [12] "right_marks" (Qa i) σ g=.ok (.ref r) g:=EH hv W.w' (by simp) rfl
theorem YM(hv:σ[i]?=some (some (.ref w)))(h:g[w]?=some (.ins 12 fs))(hm:fs.lookup m=none)(ha:a σ g=.ok xs g2):QS 12 m f (Qa i) a σ g=f (.ref w::xs) g2:=by unfold QS Qa;rw[hv];dsimp only;rw[Res.bind_ok];dsimp only;rw[h];dsimp only;rw[Ud ⟨rfl,hm⟩,ha,Res.bind_ok]
def Q9(L:List (Int×Nat))(x:Int):Option Nat:=match L.getLast? with
 |some (y,s)=>if y=x then some s else none
 |none=>none
theorem Jf(L:List (Int×Nat)):(YE L).length=L.length:=by simp[YE]
theorem cT(h:L.getLast?=some p):Ll (YE L) (-1)=some (.tup [.int p.1,.int (p.2:Nat)]):=by
 have hne:L≠[]:=λz=>by rw[z]at h;cases h
 have hpos:0<L.length:=WP.mpr hne;unfold Ll An;rw[Uf (by decide),Jf,Ud (by omega)];show(YE L)[((-1:Int)+(L.length:Int)).toNat]?=_;rw[show((-1:Int)+(L.length:Int)).toNat=L.length-1 by omega];rw[W6]at h;simp[YE,h]
theorem cU(h:L.getLast?=none):L=[]:=by simpa using h
theorem cV(ha:a σ g=.ok (.ref x) g)(hx:g[x]?=some (.lst (YE L))):Qd Lk (Qt Zv a) (mI 0) σ g=.ok (.bl (decide (0<L.length))) g:=by refine Qo (x:=.int L.length) (g1:=g) (ZX ha (by simp[Zv,hx,Jf])) rfl ?_;show Res.ok (D.bl (decide ((0:Int)<(L.length:Int)))) g=_;rw[show decide ((0:Int)<(L.length:Int))=decide (0<L.length) from Rb.mpr (by omega)]
theorem G7(ha:a σ g=.ok (.ref x) g)(hx:g[x]?=some (.lst (YE L)))(h:L.getLast?=some p)(hk:k=0\/k=1):Qd QZ (Qd QZ a (Qt XY (mI 1))) (Qu (.int k)) σ g=.ok (.int (if k=0 then p.1 else (p.2:Nat))) g:=by
 refine Qo (x:=.tup [.int p.1,.int (p.2:Nat)]) (g1:=g) (Qo (x:=.ref x) (y:=.int (-1)) (g1:=g) (g2:=g) ha rfl ?_) rfl ?_
 ·unfold QZ;dsimp only;rw[hx];dsimp only;rw[cT h]
 ·rcases hk with rfl|rfl<;>rfl
theorem SH(ha:a σ g=.ok (.ref x) g)(hx:g[x]?=some (.lst (YE L)))(hb:b σ g=.ok (.int y) g):
  JV (Qd Lk (Qt Zv a) (mI 0)) (Qd Vp (Qd QZ (Qd QZ a (Qt XY (mI 1))) (mI 0)) b) σ g=.ok (.bl (Q9 L y).isSome) g:=by
 unfold JV;rw[cV ha hx,Res.bind_ok];dsimp only;cases h:L.getLast? with
 |none =>have:=cU h;subst this;rfl|some p=>
  have hne:L≠[]:=λz=>by rw[z]at h;cases h
  rw[Uv (WP.mpr hne),Ud rfl,Qo (G7 ha hx h (.inl rfl)) hb rfl,Ud rfl,eq_int];unfold Q9;rw[h];obtain⟨z,s⟩:=p;dsimp only;by_cases e:z=y
  ·rw[Ud e,e];simp
  ·rw[Uf e,U2.mpr e];rfl
theorem Pn(W:WRep rows w l r g st pl L R):Q4 [.ref w] g=.ok (.bl (Q9 R pl).isSome) g:=QB rfl (Q6 (SH (W.right rfl) W.r' (W.place rfl)))
theorem EI(W:WRep rows w l r g st pl L R)(hv:σ[i]?=some (some (.ref w))):Ql (QS 12 "is_on_mark" Q4 (Qa i) Qi) σ g=.ok (Q9 R pl).isSome g:=QR (by rw[YM hv W.w' rfl rfl];exact Pn W)
theorem NM(W:WRep rows w l r g st pl L R)(hr:rows[st]?=some row)(hd:row[(Q9 R pl).getD 0]?=some d):Ym [.ref w] g=.ok d g:=by
 have hst:st<rows.length:=(Uq.mp hr).1;have hs:(Q9 R pl).getD 0<row.length:=(Uq.mp hd).1;refine QB rfl ?_;show VO [vR w,none] g=_;unfold VO;refine Qh [vR w,vI ((Q9 R pl).getD 0:Nat)] g (QF ?_) (Q6 ?_)
 ·unfold Vc;rw[EI W rfl,Res.bind_ok];cases h:Q9 R pl with
  |none=>rfl|some s=>
   have hl:R.getLast?=some (pl,s):=by
    unfold Q9 at h;cases hq:R.getLast? with
    |none=>rw[hq]at h;cases h|some p=>
     obtain⟨z,s'⟩:=p;rw[hq]at h;dsimp only at h;by_cases e:z=pl
     ·rw[Ud e]at h;cases h;rw[e]
     ·rw[Uf e]at h;cases h
   rw[show(some s).isSome=true from rfl,Ud rfl,G7 (W.right rfl) W.r' hl (.inr rfl)];rfl
 ·have e1:QZ (.tup (rows.map .tup)) (.int st) g=.ok (.tup row) g:=by unfold QZ;dsimp only;unfold Ll An;rw[Ud (by omega),Ud (by simp;omega)];simp[hr]
  have e2:QZ (.tup row) (.int ((Q9 R pl).getD 0:Nat)) g=.ok d g:=by unfold QZ;dsimp only;unfold Ll An;rw[Ud (by omega),Ud (by omega)];simp[hd]
  exact Qo (Qo (W.table rfl) (W.state rfl) e1) rfl e2
theorem BX(h:Q9 R pl=some s):R.getLast?=some (pl,s):=by
 unfold Q9 at h;cases hq:R.getLast? with
 |none=>rw[hq]at h;cases h|some p=>
  obtain⟨z,s'⟩:=p;rw[hq]at h;dsimp only at h;by_cases e:z=pl
  ·rw[Ud e]at h;cases h;rw[e]
  ·rw[Uf e]at h;cases h
theorem SI(ha:a σ g=.ok (.ref x) g)(hx:g[x]?=some (.lst (YE L)))(h:L.getLast?=some p):Qt E6 a σ g=.ok (.tup [.int p.1,.int (p.2:Nat)]) (g.set x (.lst (YE L.dropLast))):=by
 refine ZX ha ?_;unfold E6;dsimp only;rw[hx];dsimp only;have e:(YE L)[(YE L).length-1]?=some (.tup [.int p.1,.int (p.2:Nat)]):=by rw[W6]at h;rw[Jf];simp[YE,h]
 rw[e];dsimp only;have:(YE L).dropLast=YE L.dropLast:=by simp[YE,List.map_dropLast]
 rw[this]
theorem NN(L:List (Int×Nat))(x:Int)(s:Nat):YE L++[.tup [.int x,.int s]]=YE (L++[(x,s)]):=by simp[YE]
theorem WRep.setR(W:WRep rows w l r g st pl L R):WRep rows w l r (g.set r (.lst (YE R'))) st pl L R':=⟨by rw[Ui (Ne.symm W.wr)];exact W.w',by rw[Ui (Ne.symm W.lr)];exact W.l',Yt W.r',W.wl,W.wr,W.lr⟩
theorem WRep.setL(W:WRep rows w l r g st pl L R):WRep rows w l r (g.set l (.lst (YE L'))) st pl L' R:=⟨by rw[Ui (Ne.symm W.wl)];exact W.w',Yt W.l',by rw[Ui W.lr];exact W.r',W.wl,W.wr,W.lr⟩
theorem WRep.setW(W:WRep rows w l r g st pl L R):WRep rows w l r (g.set w (Vy rows st' pl' l r)) st' pl' L R:=⟨Yt W.w',by rw[Ui W.wl];exact W.l',by rw[Ui W.wr];exact W.r',W.wl,W.wr,W.lr⟩
abbrev KW(w l r:Nat)(g g':G):Prop:=Keeps [w,l,r] g g'
theorem V1(h:x=w\/x=l\/x=r):KW w l r g (g.set x o):=(Keeps.set x o).mono λn hn=>by rw[Ur.mp hn];rcases h with rfl|rfl|rfl<;>simp
def YI(R:List (Int×Nat))(pl:Int):List (Int×Nat):=if (Q9 R pl).isSome=true then R.dropLast else R
def Os(R:List (Int×Nat))(pl:Int)(s:Nat):List (Int×Nat):=YI R pl++(if s=0 then [] else [(pl,s)])
theorem cW{s:Nat}(W:WRep rows w l r g st pl L R)(hz:R.length<1000):∃g',Xm [.ref w,.int s] g=.ok .non g'/\WRep rows w l r g' st pl L (Os R pl s)/\KW w l r g g':=by
 have a1:∃g1,YV (Ql (QS 12 "is_on_mark" Q4 (Qa 0) Qi)) (Q2 (Qt E6 (Qq [12] "right_marks" (Qa 0)))) QV [vR w,vI s] g=.nx [vR w,vI s] g1/\WRep rows w l r g1 st pl L (YI R pl)/\KW w l r g g1:=by
  unfold YI;cases h:Q9 R pl with
  |none=>exact⟨g,Yv g ((EI W rfl).trans (by rw[h];rfl)) rfl,by simpa using W,.refl⟩|some s'=>exact⟨_,FN g ((EI W rfl).trans (by rw[h];rfl)) (Zy (SI (W.right rfl) W.r' (BX h))),by simpa using W.setR,V1 (.inr (.inr rfl))⟩
 obtain⟨g1,e1,W1,k1⟩:=a1;have hz1:(YI R pl).length<1000:=by
  unfold YI;split
  ·rw[TX];omega
  ·exact hz
 by_cases hs:s=0
 ·refine⟨g1,J5 (σ:=[vR w,vI s]) rfl ?_,by unfold Os;rw[Ud hs,UY];exact W1,k1⟩;show Y3 [vR w,vI s] g=_;unfold Y3;exact Qh _ _ e1 (Yv g1 (QR (Qo (x:=.int s) (y:=.int 0) (g1:=g1) (g2:=g1) rfl rfl (by rw[ne_int,hs];rfl))) rfl)
 ·refine⟨g1.set r (.lst (YE (YI R pl++[(pl,s)]))),J5 (σ:=[vR w,vI s]) rfl ?_,by unfold Os;rw[Uf hs];exact W1.setR,k1.trans (V1 (.inr (.inr rfl)))⟩;show Y3 [vR w,vI s] g=_;unfold Y3;refine Qh _ _ e1 (FN g1 (QR (Qo (x:=.int s) (y:=.int 0) (g1:=g1) (g2:=g1) rfl rfl (by rw[ne_int,U2.mpr (by omega)];rfl))) ?_);rw[<-NN];refine Fi (W1.right rfl) W1.r' ?_ (Js (by rw[Jf];omega));have:(Qc (Qq [12] "place" (Qa 0)) (Qc (Qa 1) Qi)) [vR w,vI s] g1=.ok [.int pl,.int s] g1:=Qs (W1.place rfl) rfl;unfold QX;rw[this,Res.bind_ok];rfl
theorem NO(W:WRep rows w l r g st pl L R)(hv:σ[0]?=some (some (.ref w)))(he:e σ g=.ok (.int v) g):QJ [12] "place" (Qa 0) e σ g=.nx σ (g.set w (Vy rows st v l r)):=by unfold QJ Qa;rw[he];dsimp only;rw[hv];dsimp only;rw[W.w'];unfold Vy;dsimp only;rw[Ud ⟨by simp,by simp[cR]⟩];rfl
theorem cX(W:WRep rows w l r g st pl L R)(hv:σ[0]?=some (some (.ref w)))(he:e σ g=.ok (.int v) g):QJ [12] "state" (Qa 0) e σ g=.nx σ (g.set w (Vy rows v pl l r)):=by unfold QJ Qa;rw[he];dsimp only;rw[hv];dsimp only;rw[W.w'];unfold Vy;dsimp only;rw[Ud ⟨by simp,by simp[cR]⟩];rfl
def putAt(L:List (Int×Nat))(x:Int):Option Nat->List (Int×Nat)
 |some s=>L++[(x,s)]|none=>L
theorem NP(ho:o σ g=.ok (.ref x) g)(ha:a σ g=.ok (.ref y) g)(hx:g[x]?=some (.lst (YE A)))(hy:g[y]?=some (.lst (YE B)))(hxy:x≠y)(h:B.getLast?=some p)(hz:A.length<1000):
  Q2 (Zc o (Qt E6 a)) σ g=.nx σ ((g.set y (.lst (YE B.dropLast))).set x (.lst (YE (A++[p])))):=by
 refine Zy (d:=.non) ?_;have hx1:(g.set y (.lst (YE B.dropLast)))[x]?=some (.lst (YE A)):=by rw[Ui (Ne.symm hxy)];exact hx
 have hz':(YE A).length<SZ:=Js (by rw[Jf];omega);unfold Zc;rw[ho,Res.bind_ok];dsimp only;rw[hx];dsimp only;rw[SI ha hy h,Res.bind_ok];rw[hx1];dsimp only;rw[Ud hz',NN]
theorem NQ(W:WRep rows w l r g st pl L R)(hz:L.length<1000):∃g',YJ [.ref w] g=.ok .non g'/\WRep rows w l r g' st (pl+1) (putAt L pl (Q9 R pl)) (YI R pl)/\KW w l r g g':=by
 have a1:∃g1,YV (Ql (QS 12 "is_on_mark" Q4 (Qa 0) Qi)) (Q2 (Zc (Qq [12] "left_marks" (Qa 0)) (Qt E6 (Qq [12] "right_marks" (Qa 0))))) QV [vR w] g=.nx [vR w] g1/\WRep rows w l r g1 st pl (putAt L pl (Q9 R pl)) (YI R pl)/\KW w l r g g1:=by
  unfold YI;cases h:Q9 R pl with
  |none=>exact⟨g,Yv g ((EI W rfl).trans (by rw[h];rfl)) rfl,by simpa[putAt]using W,.refl⟩|some s'=>exact⟨_,FN g ((EI W rfl).trans (by rw[h];rfl)) (NP (W.left rfl) (W.right rfl) W.l' W.r' W.lr (BX h) hz),by simpa[putAt]using (W.setR (R':=R.dropLast)).setL,(V1 (.inr (.inr rfl))).trans (V1 (.inr (.inl rfl)))⟩
 obtain⟨g1,e1,W1,k1⟩:=a1;refine⟨_,J5 (σ:=[vR w]) rfl ?_,W1.setW,k1.trans (V1 (.inl rfl))⟩;show JY [vR w] g=_;unfold JY;exact Qh _ _ e1 (NO W1 rfl (Qo (W1.place rfl) rfl rfl))
theorem Po(W:WRep rows w l r g st pl L R)(hz:R.length<1000):∃g',Y4 [.ref w] g=.ok .non g'/\WRep rows w l r g' st (pl-1) (YI L (pl-1)) (putAt R (pl-1) (Q9 L (pl-1)))/\KW w l r g g':=by
 have W1:WRep rows w l r (g.set w (Vy rows st (pl-1) l r)) st (pl-1) L R:=W.setW;have k1:KW w l r g (g.set w (Vy rows st (pl-1) l r)):=V1 (.inl rfl);have e1:QJ [12] "place" (Qa 0) (Qd YW (Qq [12] "place" (Qa 0)) (mI 1)) [vR w] g=.nx [vR w] (g.set w (Vy rows st (pl-1) l r)):=NO W rfl (Qo (W.place rfl) rfl rfl);generalize g.set w (Vy rows st (pl-1) l r)=g1 at W1 k1 e1;have t1:YR (Ql (Qd Lk (Qt Zv (Qq [12] "left_marks" (Qa 0))) (mI 0))) (Ql (Qd Vp (Qd QZ (Qd QZ (Qq [12] "left_marks" (Qa 0)) (Qt XY (mI 1))) (mI 0)) (Qq [12] "place" (Qa 0)))) [vR w] g1=.ok (Q9 L (pl-1)).isSome g1:=by
  have:=SH (σ:=[vR w]) (W1.left (i:=0) rfl) W1.l' (W1.place (i:=0) rfl);unfold JV at this;unfold YR Ql;rw[cV (W1.left rfl) W1.l',Res.bind_ok]at this ⊢;dsimp only at this ⊢;rw[Res.bind_ok];by_cases hp:0<L.length
  ·rw[Uv hp,Ud rfl]at this ⊢;rw[this,Res.bind_ok]
  ·rw[Ut hp,Uf Ue]at this ⊢;injection this with a b;injection a with a;rw[<-a]
 have a2:∃g2,XD [vR w] g=.nx [vR w] g2/\WRep rows w l r g2 st (pl-1) (YI L (pl-1)) (putAt R (pl-1) (Q9 L (pl-1)))/\KW w l r g g2:=by
  unfold XD YI;cases h:Q9 L (pl-1) with
  |none=>exact⟨g1,Qh _ _ e1 (Yv g1 (t1.trans (by rw[h];rfl)) rfl),by simpa[putAt]using W1,k1⟩|some s'=>exact⟨_,Qh _ _ e1 (FN g1 (t1.trans (by rw[h];rfl)) (NP (W1.right rfl) (W1.left rfl) W1.r' W1.l' (Ne.symm W1.lr) (BX h) hz)),by simpa[putAt]using (W1.setL (L':=L.dropLast)).setR,k1.trans ((V1 (.inr (.inl rfl))).trans (V1 (.inr (.inr rfl))))⟩
 obtain⟨g2,e2,W2,k2⟩:=a2;exact⟨g2,J5 rfl e2,W2,k2⟩
def jS(d:D)(pl:Int)(L R:List (Int×Nat)):Option (Nat×Int×List (Int×Nat)×List (Int×Nat)):=match d with
 |.tup [.int a,.str y,.int b]=>some (if y=rS then (b.toNat,pl+1,putAt L pl (Q9 (Os R pl a.toNat) pl),YI (Os R pl a.toNat) pl) else (b.toNat,pl-1,YI L (pl-1),putAt (Os R pl a.toNat) (pl-1) (Q9 L (pl-1))))|_=>none
theorem SJ(R:List (Int×Nat))(pl:Int)(s:Nat):(Os R pl s).length<=R.length+1:=by unfold Os YI;rw[Um];split<;>split<;>simp<;>omega
theorem G8{row:List D}{d:D}{n m:Nat}(W:WRep rows w l r g st pl L R)(hr:rows[st]?=some row)(hd:row[(Q9 R pl).getD 0]?=some d)(ho:entOk d n m)(hzL:L.length<900)(hzR:R.length<900):
  (d=.non/\QL [.ref w] g=.ok (.bl false) g)\/∃st' pl' L' R' g',jS d pl L R=some (st',pl',L',R')/\QL [.ref w] g=.ok (.bl true) g'/\WRep rows w l r g' st' pl' L' R'/\KW w l r g g':=by
 have e0:QK (Qn 1) (QS 12 "entry" Ym (Qa 0) Qi) [vR w,none] g=.nx [vR w,some d] g:=QF (by rw[YM rfl W.w' rfl rfl];exact NM W hr hd);rcases ho with rfl|⟨a,b,y,rfl,a1,a2,b1,b2,yy⟩
 ·refine .inl ⟨rfl,QB rfl ?_⟩;show Ya [vR w,none] g=_;unfold Ya;exact Qh _ _ e0 (YO (FN g rfl rfl))
 ·right;obtain⟨g1,e1,W1,k1⟩:=cW (s:=a.toNat) W (by omega);have ea:((a.toNat:Nat):Int)=a:=by omega
  have eb:((b.toNat:Nat):Int)=b:=by omega
  rw[ea]at e1;have hl1:=SJ R pl a.toNat;have hw:Q2 (QS 12 "write" Xm (Qa 0) (Qc (Qd QZ (Qa 1) (mI 0)) Qi)) [vR w,some (.tup [.int a,.str y,.int b])] g=.nx [vR w,some (.tup [.int a,.str y,.int b])] g1:=Zy (d:=.non) (by rw[YM rfl W.w' rfl (xs:=[.int a]) (g2:=g) rfl];exact e1);have fin:∀{pl' L' R' g2},YV (Ql (Qd Vp (Qd QZ (Qa 1) (mI 1)) (Qu (.str "r")))) (Q2 (QS 12 "go_right" YJ (Qa 0) Qi)) (Q2 (QS 12 "go_left" Y4 (Qa 0) Qi)) [vR w,some (.tup [.int a,.str y,.int b])] g1=.nx [vR w,some (.tup [.int a,.str y,.int b])] g2->WRep rows w l r g2 st pl' L' R'->KW w l r g1 g2->∃g',QL [.ref w] g=.ok (.bl true) g'/\WRep rows w l r g' b.toNat pl' L' R'/\KW w l r g g':=λ{pl' L' R' g2} h W2 k2=>by refine⟨g2.set w (Vy rows b.toNat pl' l r),QB rfl ?_,W2.setW,(k1.trans k2).trans (V1 (.inl rfl))⟩;show Ya [vR w,none] g=_;unfold Ya;refine Qh _ _ e0 (Qh _ g (Yv g rfl rfl) (Qh _ _ hw (Qh _ _ h (Qh _ _ (cX W2 rfl ?_) rfl))));rw[eb];rfl
  have t:Ql (Qd Vp (Qd QZ (Qa 1) (mI 1)) (Qu (.str "r"))) [vR w,some (.tup [.int a,.str y,.int b])] g1=.ok (y==rS) g1:=by rw[jQ];exact QR (Qo (x:=.str y) (Qo rfl rfl rfl) rfl rfl)
  by_cases hy:y=rS
  ·obtain⟨g2,e2,W2,k2⟩:=NQ W1 (by omega);obtain⟨g',e3,W3,k3⟩:=fin (FN g1 (t.trans (by simp[hy])) (Zy (d:=.non) (by rw[YM rfl W1.w' rfl rfl];exact e2))) W2 k2;exact⟨_,_,_,_,g',by unfold jS;dsimp only;rw[Ud hy],e3,W3,k3⟩
  ·obtain⟨g2,e2,W2,k2⟩:=Po W1 (by omega);obtain⟨g',e3,W3,k3⟩:=fin (Yv g1 (t.trans (by simp[hy])) (Zy (d:=.non) (by rw[YM rfl W1.w' rfl rfl];exact e2))) W2 k2;exact⟨_,_,_,_,g',by unfold jS;dsimp only;rw[Uf hy],e3,W3,k3⟩
structure Cf where
 st:Nat
 pl:Int
 L:List (Int×Nat)
 R:List (Int×Nat)
def cY(rows:List (List D))(s c:Nat):Option D:=(rows[s]?).bind λr=>r[c]?
def Jg(rows:List (List D))(c:Cf):Option Cf:=((cY rows c.st ((Q9 c.R c.pl).getD 0)).bind λd=>jS d c.pl c.L c.R).map λx=>⟨x.1,x.2.1,x.2.2.1,x.2.2.2⟩
def JT(rows:List (List D)):Nat->Cf->Cf×Nat
 |0,c=>(c,0)|k+1,c=>match Jg rows c with
  |none=>(c,0)|some c'=>((JT rows k c').1,(JT rows k c').2+1)
theorem A7{rows:List (List D)}{k:Nat}{c c':Cf}(h:Jg rows c=some c'):JT rows (k+1) c=((JT rows k c').1,(JT rows k c').2+1):=by show(match Jg rows c with|none=>(c,0)|some c'=>((JT rows k c').1,(JT rows k c').2+1))=_;rw[h]
theorem A8{rows:List (List D)}{k:Nat}{c:Cf}(h:Jg rows c=none):JT rows (k+1) c=(c,0):=by show(match Jg rows c with|none=>(c,0)|some c'=>((JT rows k c').1,(JT rows k c').2+1))=_;rw[h]
structure OkC(n m:Nat)(c:Cf):Prop where
 st:c.st<n
 L:∀p∈c.L,p.2<m
 R:∀p∈c.R,p.2<m
theorem OkC.sg{n m:Nat}{c:Cf}(h:OkC n m c)(hm:0<m):(Q9 c.R c.pl).getD 0<m:=by
 cases e:Q9 c.R c.pl with
 |none=>exact hm|some s=>exact h.R _ (WE (BX e))
theorem L9{R:List (Int×Nat)}{x:Int}{p:Int×Nat}(h:p∈YI R x):p∈R:=by
 unfold YI at h;split at h
 ·exact RI _ h
 ·exact h
theorem SL{L:List (Int×Nat)}{x:Int}{o:Option Nat}{p:Int×Nat}(h:p∈putAt L x o):p∈L\/o=some p.2:=by
 cases o with
 |none=>exact .inl h|some s=>
  rcases UO.mp h with z|z
  ·exact .inl z
  ·rw[Ur.mp z];exact .inr rfl
theorem iF{R:List (Int×Nat)}{x:Int}{s:Nat}{p:Int×Nat}(h:p∈Os R x s):p∈R\/p=(x,s):=by
 unfold Os at h;rcases UO.mp h with z|z
 ·exact .inl (L9 z)
 ·split at z
  ·cases z
  ·exact .inr (Ur.mp z)
theorem Ma{rows:List (List D)}{n m:Nat}{c c':Cf}{d:D}(h:OkC n m c)(ho:entOk d n m)(hg:(jS d c.pl c.L c.R).map (λx=>(⟨x.1,x.2.1,x.2.2.1,x.2.2.2⟩:Cf))=some c'):OkC n m c'/\c'.L.length+c'.R.length<=c.L.length+c.R.length+1:=by
 rcases ho with rfl|⟨a,b,y,rfl,a1,a2,b1,b2,yy⟩
 ·cases hg
 ·have hw:∀p∈Os c.R c.pl a.toNat,p.2<m:=λp hp=>by
   rcases iF hp with z|z
   ·exact h.R p z
   ·rw[z];show a.toNat<m;omega
  have hwl:=SJ c.R c.pl a.toNat;have lens:∀(A B:List (Int×Nat))(x:Int),(putAt A x (Q9 B x)).length+(YI B x).length=A.length+B.length:=λA B x=>by
   unfold YI;cases e:Q9 B x with
   |none=>simp[putAt]|some s=>
    have hne:B≠[]:=λz=>by rw[z]at e;cases e
    have:=WP.mpr hne;simp[putAt];omega
  unfold jS at hg;dsimp only at hg;by_cases hy:y=rS
  ·rw[Ud hy]at hg;cases hg;refine⟨⟨by show b.toNat<n;omega,λp hp=>?_,λp hp=>hw p (L9 hp)⟩,by have:=lens c.L (Os c.R c.pl a.toNat) c.pl;show(putAt c.L c.pl (Q9 (Os c.R c.pl a.toNat) c.pl)).length+(YI (Os c.R c.pl a.toNat) c.pl).length<=_;omega⟩;rcases SL hp with z|z
   ·exact h.L p z
   ·exact hw (c.pl,p.2) (WE (BX z))
  ·rw[Uf hy]at hg;cases hg;refine⟨⟨by show b.toNat<n;omega,λp hp=>h.L p (L9 hp),λp hp=>?_⟩,by have:=lens (Os c.R c.pl a.toNat) c.L (c.pl-1);show(YI c.L (c.pl-1)).length+(putAt (Os c.R c.pl a.toNat) (c.pl-1) (Q9 c.L (c.pl-1))).length<=_;omega⟩;rcases SL hp with z|z
   ·exact hw p z
   ·exact h.L (c.pl-1,p.2) (WE (BX z))
theorem Tb.at{rows:List (List D)}{n m s c:Nat}(T:Tb rows n m)(hs:s<n)(hc:c<m):∃row d,rows[s]?=some row/\row[c]?=some d/\entOk d n m/\cY rows s c=some d:=by
 have h1:s<rows.length:=by rw[T.ln];exact hs
 have hm:=Tr h1;have h2:c<rows[s].length:=by rw[T.lm _ hm];exact hc
 refine⟨rows[s],rows[s][c],by simp,by simp,T.ok _ hm _ (Tr h2),?_⟩;unfold cY;simp[h1,h2]
def G9(rows:List (List D))(w l r:Nat)(g:G)(c:Cf):Prop:=WRep rows w l r g c.st c.pl c.L c.R
theorem NR{rows:List (List D)}{n m w l r:Nat}{steps:Int}(T:Tb rows n m):∀(k:Nat)(c:Cf)(g:G)(done:Int),done+k=steps->OkC n m c->c.L.length+c.R.length+k<800->G9 rows w l r g c->∃g',Zo (YR (Ql (Qd HF (Qa 2) (Qa 1))) (Ql (QS 12 "stepped" QL (Qa 0) Qi))) Vf (k+1) [vR w,vI steps,vI done] g=.nx [vR w,vI steps,vI (done+(JT rows k c).2)] g'/\G9 rows w l r g' (JT rows k c).1/\KW w l r g g'/\OkC n m (JT rows k c).1
 |0,c,g,done,hd,ho,hz,W=>by
  refine⟨g,?_,W,.refl,ho⟩;unfold Zo;have t:YR (Ql (Qd HF (Qa 2) (Qa 1))) (Ql (QS 12 "stepped" QL (Qa 0) Qi)) [vR w,vI steps,vI done] g=.ok false g:=by have:Ql (Qd HF (Qa 2) (Qa 1)) [vR w,vI steps,vI done] g=.ok (decide (done<steps)) g:=rfl;unfold YR;rw[this,Res.bind_ok,Ut (by omega)];rfl
  rw[t];simp[JT]
 |k+1,c,g,done,hd,ho,hz,W=>by
  obtain⟨row,d,hr,hdd,hent,hat⟩:=T.at ho.st (ho.sg T.m0);have lt:Ql (Qd HF (Qa 2) (Qa 1)) [vR w,vI steps,vI done] g=.ok true g:=by have:Ql (Qd HF (Qa 2) (Qa 1)) [vR w,vI steps,vI done] g=.ok (decide (done<steps)) g:=rfl;rw[this,Uv (by omega)]
  have tt:∀b g1,QL [.ref w] g=.ok (.bl b) g1->YR (Ql (Qd HF (Qa 2) (Qa 1))) (Ql (QS 12 "stepped" QL (Qa 0) Qi)) [vR w,vI steps,vI done] g=.ok b g1:=λb g1 h=>by unfold YR;rw[lt,Res.bind_ok,Ud rfl];exact QR (by rw[YM rfl W.w' rfl rfl];exact h)
  rcases G8 W hr hdd hent (by omega) (by omega) with⟨rfl,e⟩|⟨st',pl',L',R',g1,eg,e,W1,k1⟩
  ·have hs:Jg rows c=none:=by unfold Jg;rw[hat];rfl
   rw[A8 hs];refine⟨g,?_,W,.refl,ho⟩;unfold Zo;rw[tt false g e];simp
  ·have hs:Jg rows c=some ⟨st',pl',L',R'⟩:=by unfold Jg;rw[hat];show(jS d c.pl c.L c.R).map _=_;rw[eg];rfl
   obtain⟨ho',hl'⟩:=Ma (rows:=rows) ho hent (c':=⟨st',pl',L',R'⟩) (by rw[eg];rfl);obtain⟨g2,e2,W2,k2,o2⟩:=NR (w:=w) (l:=l) (r:=r) (steps:=steps) T k ⟨st',pl',L',R'⟩ g1 (done+1) (by omega) ho' (by show L'.length+R'.length+k<800;have:L'.length+R'.length<=c.L.length+c.R.length+1:=hl';omega) W1;rw[A7 hs];refine⟨g2,?_,W2,k1.trans k2,o2⟩;unfold Zo;rw[tt true g1 e];have eb:Vf [vR w,vI steps,vI done] g1=.nx [vR w,vI steps,vI (done+1)] g1:=rfl;dsimp only;rw[eb];dsimp only;rw[e2];rw[show done+1+((JT rows k ⟨st',pl',L',R'⟩).2:Int)=done+(((JT rows k ⟨st',pl',L',R'⟩).2+1:Nat):Int) by omega]
theorem nY{rows:List (List D)}{n m w l r k:Nat}{c:Cf}{g:G}(T:Tb rows n m)(ho:OkC n m c)(hz:c.L.length+c.R.length+k<800)(W:G9 rows w l r g c):
  ∃g',CB [.ref w,.int k] g=.ok (.int (JT rows k c).2) g'/\G9 rows w l r g' (JT rows k c).1/\KW w l r g g'/\OkC n m (JT rows k c).1:=by
 obtain⟨g',e,W',k',o'⟩:=NR (w:=w) (l:=l) (r:=r) (steps:=k) T k c g 0 (by omega) ho hz W;rw[Int.zero_add]at e;refine⟨g',QB rfl ?_,W',k',o'⟩;show CA [vR w,vI k,none] g=_;unfold CA;exact Qh [vR w,vI k,vI 0] g rfl (Qh _ g' (EB e (by intro z;cases z)) rfl)
def Qx(c:Cf):D:=.tup [.int c.st,.int c.pl,.tup (YE (c.L++c.R.reverse))]
theorem SM{rows:List (List D)}{w l r:Nat}{c:Cf}{g:G}(hz:c.L.length+c.R.length<=1000)(W:G9 rows w l r g c):X4 [.ref w] g=.ok (Qx c) g:=by
 refine QB rfl (Q6 ?_);have hz':(YE c.L).length+((YE c.R).reverse).length<=SZ:=TJ (Js (by rw[Rt,Jf,Jf];exact hz));have e1:Qd ZL (Qt Jv (Qq [12] "left_marks" (Qa 0))) (Qt Xt (Qq [12] "right_marks" (Qa 0))) [vR w] g=.ok (.tup (YE (c.L++c.R.reverse))) g:=by
  refine Qo (x:=.tup (YE c.L)) (y:=.tup (YE c.R).reverse) (g1:=g) (g2:=g) (ZX (W.left rfl) (by simp[Jv,W.l'])) (ZX (W.right rfl) ?_) ?_
  ·unfold Xt;rw[VV W.r']
  ·unfold ZL;dsimp only;rw[Ud hz'];simp[YE,List.map_reverse]
 have e2:(Qc (Qq [12] "state" (Qa 0)) (Qc (Qq [12] "place" (Qa 0)) (Qc (Qd ZL (Qt Jv (Qq [12] "left_marks" (Qa 0))) (Qt Xt (Qq [12] "right_marks" (Qa 0)))) Qi))) [vR w] g=.ok [.int c.st,.int c.pl,.tup (YE (c.L++c.R.reverse))] g:=Qs (W.state rfl) (Qs (W.place rfl) (Qs e1 rfl));unfold QX;show(Qc _ _ [vR w] g).bind ZQ=_;rw[e2,Res.bind_ok];rfl
def c0:Cf:=⟨0,0,[],[]⟩
def Ha:D:=.tup [.int 0,.int 0,.tup []]
theorem Pp(he:e σ g=.ok v g1)(hv:σ[0]?=some (some (.ref w)))(h:g1[w]?=some (.ins c fs))(hc:c∈cs)(hl:fs.length<100):QJ cs f (Qa 0) e σ g=.nx σ (g1.set w (.ins c (HD f v fs))):=by unfold QJ Qa;rw[he];dsimp only;rw[hv];dsimp only;rw[h];dsimp only;rw[Ud ⟨hc,hl⟩]
theorem NS(h1:it σ g=.ok src g)(h2:src.top=0)(h3:src.at' g 0=some none):ZN it n cap t c e σ g=.ok (.ref g.length) (g++[.lst []]):=by refine BM h1 (by rw[h2];exact T3 _) rfl ?_;rw[h2];unfold YS;rw[h3]
theorem IW(ha:a σ g0=.ok [.ref M,Ha] g)(hM:g[M]?=some (Z5 rows)):
  ∃w l r g',Jq 12 JP a σ g0=.ok (.ref w) g'/\G9 rows w l r g' c0/\Keeps [] g g'/\g.length<=w/\g.length<=l/\g.length<=r:=by
 have st:∀{cs:List Nat}{f:Str}{e:ME}{fs:List (Str×D)}{l l':G}{v:D},e [vR g.length,vR M,some Ha] (g++.ins 12 fs::l)=.ok v (g++.ins 12 fs::l')->12∈cs->fs.length<100->QJ cs f (Qa 0) e [vR g.length,vR M,some Ha] (g++.ins 12 fs::l)=.nx [vR g.length,vR M,some Ha] (g++.ins 12 (HD f v fs)::l'):=λhe hc hl=>(Pp he rfl EF hc hl).trans (by rw[NG]);have e1:=st (cs:=[11,12]) (f:="table") (l:=[]) (fs:=[]) (GZ (i:=1) rfl (by rw[Uj (Q1 hM)];exact hM)) (by decide) (by decide);refine⟨g.length,g.length+1,g.length+2,g++[Vy rows 0 0 (g.length+1) (g.length+2),.lst [],.lst []],?_,⟨EF,Vg (i:=1) rfl,Vg (i:=2) rfl,by omega,by omega,by omega⟩,⟨by simp,λn o _ e=>by rw[Uj (Q1 e)];exact e⟩,by omega,by omega,by omega⟩;have:JP [.ref g.length,.ref M,Ha] (g++[.ins 12 []])=.ok .non (g++[Vy rows 0 0 (g.length+1) (g.length+2),.lst [],.lst []]):=by
  refine J5 (σ:=[vR g.length,vR M,some Ha]) rfl ?_;show KF [vR g.length,vR M,some Ha] _=_;unfold KF;refine Qh _ _ e1 (Qh _ _ (st (v:=.int 0) rfl (by decide) (UC rfl)) (Qh _ _ (st (v:=.int 0) rfl (by decide) (UC rfl)) (Qh _ _ (st (l':=[.lst []]) (v:=.ref (g.length+1)) ?_ (by decide) (UC rfl)) (st (l':=[.lst [],.lst []]) (v:=.ref (g.length+2)) ?_ (by decide) (UC rfl)))))
  ·exact(NS (src:=⟨λ_ i=>some ([]:List D)[i]?,0⟩) rfl rfl rfl).trans (by simp)
  ·exact(NS rfl rfl rfl).trans (by simp)
 unfold Jq;rw[ha,Res.bind_ok,this,Res.bind_ok]
theorem sQ(T:Tb rows n m):OkC n m c0:=⟨T.n0,λp hp=>(List.not_mem_nil hp).elim,λp hp=>(List.not_mem_nil hp).elim⟩
theorem KW.old(k:KW w l r g g')(k0:Keeps [] g0 g)(h1:g0.length<=w)(h2:g0.length<=l)(h3:g0.length<=r):Keeps [] g0 g':=⟨Uo k0.len k.len,λb o hb eb=>by have:b<g0.length:=Q1 eb;exact k.at' b o (by simp;omega) (k0.at' b o hb eb)⟩
def IX(rows:List (List D))(k:Nat):D:=if (Jg rows (JT rows k c0).1).isNone=true then .int (JT rows k c0).2 else .non
theorem cZ{rows:List (List D)}{n m M k:Nat}{g:G}(T:Tb rows n m)(hk:k<700)(hM:g[M]?=some (Z5 rows)):
  ∃g',VQ [.ref M,.int k] g=.ok (IX rows k) g'/\Keeps [] g g':=by
 obtain⟨w,l,r,g1,e1,W1,k1,h1,h2,h3⟩:=IW (a:=Qc (Qa 0) (Qc (Qu (.tup [(.int 0),(.int 0),(.tup [])])) Qi)) (σ:=[vR M,vI k,none,none]) (g0:=g) (g:=g) rfl hM;obtain⟨g2,e2,W2,k2,o2⟩:=nY (k:=k) (c:=c0) T (sQ T) (show 0+0+k<800 by omega) W1;have k02:Keeps [] g g2:=KW.old k2 k1 h1 h2 h3;obtain⟨row,d,hr,hdd,hent,hat⟩:=T.at o2.st (o2.sg T.m0);have hiff:(Jg rows (JT rows k c0).1).isNone=isNon d:=by
  unfold Jg;rw[hat];rcases hent with rfl|⟨a,b,y,rfl,_⟩
  ·rfl
  ·rfl
 refine⟨g2,QB rfl ?_,k02⟩;show CC [vR M,vI k,none,none] g=_;unfold CC;refine Qh [vR M,vI k,vR w,none] g1 (QF e1) (Qh [vR M,vI k,vR w,vI ((JT rows k c0).2)] g2 (QF (by rw[YM rfl W1.w' rfl (xs:=[.int k]) (g2:=g1) rfl];exact e2)) (Q6 ?_));have t1:Ql (Qd lN (Qa 1) (mI 0)) [vR M,vI k,vR w,vI ((JT rows k c0).2)] g2=.ok true g2:=by have:Ql (Qd lN (Qa 1) (mI 0)) [vR M,vI k,vR w,vI ((JT rows k c0).2)] g2=.ok (decide ((0:Int)<=(k:Int))) g2:=rfl;rw[this,Uv (by omega)]
 have t2:Ql (Qd P3 (QS 12 "entry" Ym (Qa 2) Qi) (Qu .non)) [vR M,vI k,vR w,vI ((JT rows k c0).2)] g2=.ok (isNon d) g2:=QR (Qo (x:=d) (g1:=g2) (by rw[YM rfl W2.w' rfl rfl];exact NM W2 hr hdd) rfl rfl);unfold Vc YR;rw[t1,Res.bind_ok,Ud rfl,t2,Res.bind_ok];unfold IX;rw[hiff];cases isNon d<;>rfl
abbrev rM:=List (Int×Nat)
def Q7(c:Cf):rM:=c.L++c.R.reverse
def jT(rows:List (List D)):Nat->Cf->List Cf
 |0,c=>[c]|k+1,c=>c::(match Jg rows c with
  |none=>[]|some c'=>jT rows k c')
theorem A9(T:Tb rows n m)(h:OkC n m c)(hz:c.L.length+c.R.length<900)(W:G9 rows w l r g c):(Jg rows c=none/\QL [.ref w] g=.ok (.bl false) g)\/∃c' g',Jg rows c=some c'/\(OkC n m c'/\c'.L.length+c'.R.length<=c.L.length+c.R.length+1)/\QL [.ref w] g=.ok (.bl true) g'/\G9 rows w l r g' c'/\KW w l r g g':=by
 obtain⟨row,d,hr,hdd,hent,hat⟩:=T.at h.st (h.sg T.m0);rcases G8 W hr hdd hent (by omega) (by omega) with⟨rfl,e⟩|⟨st',pl',L',R',g1,eg,e,W1,k1⟩
 ·exact .inl ⟨by unfold Jg;rw[hat];rfl,e⟩
 ·exact .inr ⟨⟨st',pl',L',R'⟩,g1,by unfold Jg;rw[hat];show(jS d c.pl c.L c.R).map _=_;rw[eg];rfl,Ma (rows:=rows) h hent (by rw[eg];rfl),e,W1,k1⟩
theorem Mb(T:Tb rows n m):∀(k:Nat)(c:Cf),OkC n m c->(∀c'∈jT rows k c,(Q7 c').length<=c.L.length+c.R.length+k)/\(jT rows k c).length<=k+1
 |0,c,_=>⟨λc' h=>by rw[Ur.mp h];unfold Q7;rw[Um,Rt];omega,Ug _⟩|k+1,c,h=>by
  unfold jT;cases hs:Jg rows c with
  |none=>exact⟨λc' h=>by rw[Ur.mp h];unfold Q7;rw[Um,Rt];omega,by simp⟩|some c'=>
   obtain⟨row,d,hr,hdd,hent,hat⟩:=T.at h.st (h.sg T.m0);obtain⟨o',l'⟩:=Ma (rows:=rows) h hent (c':=c') (by unfold Jg at hs;rw[hat]at hs;exact hs);obtain⟨a,b⟩:=Mb T k c' o';refine⟨λx hx=>?_,by simp;exact b⟩;rcases Uz.mp hx with rfl|hx
   ·unfold Q7;rw[Um,Rt];omega
   ·have:=a x hx;omega
theorem dA{w q M:Nat}{most:Int}{g:G}{ds:List D}(hq:g[q]?=some (.lst ds)):Ql (Qd Oq (Qt Zv (Qa 3)) (Qa 1)) [vR M,vI most,vR w,vR q] g=.ok (decide ((ds.length:Int)<=most)) g:=QR (Qo (y:=.int most) (ZX (x:=.ref q) rfl (Fj hq)) rfl rfl)
theorem Hb(T:Tb rows n m)(hqw:q≠w)(hqa:q≠a)(hqb:q≠b):∀(k:Nat)(c:Cf)(g:G)(acc:List D),most=((acc.length+k:Nat):Int)->acc.length+k<200->OkC n m c->c.L.length+c.R.length<=acc.length->G9 rows w a b g c->g[q]?=some (.lst (acc++[Qx c]))->∃g',Zo (YR (Ql (Qd Oq (Qt Zv (Qa 3)) (Qa 1))) (Ql (QS 12 "stepped" QL (Qa 2) Qi))) CD (k+1) [vR M,vI most,vR w,vR q] g=.nx [vR M,vI most,vR w,vR q] g'/\Keeps [w,a,b,q] g g'/\g'[q]?=some (.lst (acc++(jT rows k c).map Qx))
 |0,c,g,acc,hm,hz,ho,hc,W,hq=>by refine⟨g,?_,.refl,hq⟩;unfold Zo YR;rw[dA hq,Ut (by simp;omega)];rfl
 |k+1,c,g,acc,hm,hz,ho,hc,W,hq=>by
  have t1:Ql (Qd Oq (Qt Zv (Qa 3)) (Qa 1)) [vR M,vI most,vR w,vR q] g=.ok true g:=by rw[dA hq,Uv (by simp;omega)]
  unfold jT;rcases A9 T ho (by omega) W with⟨hs,e⟩|⟨c',g1,hs,⟨ho',hl'⟩,e,W1,k1⟩
  ·rw[hs];refine⟨g,?_,.refl,hq⟩;unfold Zo YR;rw[t1,Res.bind_ok,Ud rfl,QR (b:=false) (by rw[YM rfl W.w' rfl rfl];exact e)]
  ·rw[hs];have hq1:g1[q]?=some (.lst (acc++[Qx c])):=k1.at' _ _ (by simp;exact⟨hqw,hqa,hqb⟩) hq;have b1:CD [vR M,vI most,vR w,vR q] g1=.nx [vR M,vI most,vR w,vR q] (g1.set q (.lst ((acc++[Qx c])++[Qx c']))):=Fi rfl hq1 (by rw[YM rfl W1.w' rfl rfl];exact SM (by omega) W1) (Js (by rw[Um];simp;omega));have W2:G9 rows w a b (g1.set q (.lst ((acc++[Qx c])++[Qx c']))) c':=⟨by rw[Ui hqw];exact W1.w',by rw[Ui hqa];exact W1.l',by rw[Ui hqb];exact W1.r',W1.wl,W1.wr,W1.lr⟩;have hq2:=Yt (u:=.lst ((acc++[Qx c])++[Qx c'])) hq1;have k2:Keeps [w,a,b,q] g (g1.set q (.lst ((acc++[Qx c])++[Qx c']))):=(k1.mono (by simp)).trans ((Keeps.set _ _).mono (by simp));generalize g1.set q (.lst ((acc++[Qx c])++[Qx c']))=g2 at b1 W2 hq2 k2;obtain⟨g',e5,k5,h5⟩:=Hb (M:=M) (most:=most) T hqw hqa hqb k c' g2 (acc++[Qx c]) (by rw[Um,hm];simp;omega) (by rw[Um];simp;omega) ho' (by rw[Um];simp;omega) W2 hq2;refine⟨g',?_,k2.trans k5,by rw[h5];simp⟩;unfold Zo;rw[show YR (Ql (Qd Oq (Qt Zv (Qa 3)) (Qa 1))) (Ql (QS 12 "stepped" QL (Qa 2) Qi)) [vR M,vI most,vR w,vR q] g=.ok true g1 by unfold YR;rw[t1,Res.bind_ok,Ud rfl,QR (b:=true) (by rw[YM rfl W.w' rfl rfl];exact e)]];dsimp only;rw[b1];exact e5
abbrev SN(rows:List (List D))(k:Nat):List Cf:=jT rows k c0
theorem NT{M k:Nat}{g:G}(T:Tb rows n m)(hM:g[M]?=some (Z5 rows))(hz:k<200):
  ∃p g',Bz [.ref M,.int k] g=.ok (.ref p) g'/\Keeps [] g g'/\g'[p]?=some (.lst ((SN rows k).map Qx)):=by
 obtain⟨w,a,b,g1,e1,W1,k1,h1,h2,h3⟩:=IW (a:=Qc (Qa 0) (Qc (Qu (.tup [(.int 0),(.int 0),(.tup [])])) Qi)) (σ:=[vR M,vI k,none,none]) (g0:=g) (g:=g) rfl hM;have k2:Keeps [] g1 (g1++[.lst [Qx c0]]):=.push _;have hq:(g1++[GO.lst [Qx c0]])[g1.length]?=some (.lst ([]++[Qx c0])):=QO _;have W2:G9 rows w a b (g1++[.lst [Qx c0]]) c0:=⟨k2.at' _ _ (by simp) W1.w',k2.at' _ _ (by simp) W1.l',k2.at' _ _ (by simp) W1.r',W1.wl,W1.wr,W1.lr⟩;have hw:=Q1 W1.w';have hl:=Q1 W1.l';have hr:=Q1 W1.r';obtain⟨g',e3,k3,h4⟩:=Hb (M:=M) (most:=k) (q:=g1.length) T (by omega) (by omega) (by omega) k c0 _ [] (by simp) (by simpa using hz) (sQ T) (Ug 0) W2 hq;have hgl:=k1.len;refine⟨g1.length,g',QB rfl ?_,⟨Uo hgl (Uo k2.len k3.len),λz o hz e=>?_⟩,h4⟩
 ·show LM [vR M,vI k,none,none] g=_;unfold LM;refine Qh [vR M,vI k,vR w,none] g1 (QF e1) ?_;refine Qh [vR M,vI k,vR w,vR g1.length] (g1++[.lst [Qx c0]]) (QF ?_) (Qh _ g' (EB e3 (by simp)) rfl);rw[J7,Qs (g1:=g1) (by rw[YM rfl W1.w' rfl rfl];exact SM (c:=c0) (by decide) W1) rfl];exact Ud (by decide)
 ·have:=Q1 e;exact k3.at' z o (by simp;omega) ((k1.trans k2).at' z o (by simp) e)
def sR(c:Cf):SKd:=.sh (c.st,c.pl,(Q7 c).map λp=>[p.1,(p.2:Int)])
theorem SO:∀M:rM,YY (YE M)=some (M.map λp=>[p.1,(p.2:Int)])
 |[]=>rfl|p::r=>by
  show(match some [p.1,(p.2:Int)],YY (YE r) with
   |some x,some y=>some (x::y)|_,_=>none)=_
  rw[SO r];rfl
theorem SQ(c:Cf):Ki 2 (Qx c)=some (sR c):=by show(YY (YE (Q7 c))).bind _=_;rw[SO];rfl
def Pq(tr:List Cf)(j:Nat):List (SKd×D):=(List.range j).map λi=>(sR (tr.getD i c0),.int i)
def Hc(tr:List Cf)(i:Nat):Option D:=Jo (Pq tr i) (sR (tr.getD i c0))
def nZ(p K:Nat):Src:=⟨λg i=>(match QN g (.ref p) with
  |some (_,es)=>(match es[i]? with
   |some x=>some (some (.tup [.int i,x]))|none=>some none)
  |none=>none),K⟩
theorem SR(h:g[p]?=some (.lst ds)):(nZ p K).at' g i=some (ds[i]?.map λx=>.tup [.int i,x]):=by
 show(match QN g (.ref p) with
  |some (_,es)=>(match es[i]? with
   |some x=>some (some (D.tup [.int i,x]))|none=>some none)
  |none=>none)=_
 rw[VV h];dsimp only;cases ds[i]? <;> rfl
def SS(tr:List Cf):Prop:=∃i<tr.length,(Hc tr i).isSome=true
theorem Pr{M k:Nat}{g:G}(T:Tb rows n m)(hM:g[M]?=some (Z5 rows))(hz:k<200):
  ∃x g',Vt [.ref M,.int k] g=.ok x g'/\Keeps [] g g'/\((SS (SN rows k)/\∃ds,x=.tup (.str "same"::ds))\/(¬SS (SN rows k)/\x=.non)):=by
 obtain⟨p,g2,e2,k2,hp⟩:=NT (g:=g++[.dcn 2 []]) T (by rw[Uj (Q1 hM)];exact hM) hz;have hl:(SN rows k).length<=k+1:=(Mb T k c0 (sQ T)).2;generalize SN rows k=tr at hp hl ⊢;have k0:Keeps [] g g2:=(Keeps.push _).trans k2;have hd:g2[g.length]?=some (.dcn 2 (Pq tr 0)):=k2.at' _ _ (by simp) (QO _);have hpd:p≠g.length:=λz=>by rw[z,hd]at hp;cases hp
 have kk:∀{g3:G},Keeps [g.length] g2 g3->Keeps [] g g3:=λh=>⟨Uo k0.len h.len,λb o hb eb=>h.at' b o (by simp;exact UH (Q1 eb)) (k0.at' b o hb eb)⟩;have L:=Y9 (src:=nZ p tr.length) (t:=Jp [Qn 3,Qn 4]) (body:=Yo) (n:=tr.length)
  (λi σ g3=>(∃y3 y4,σ=[vR M,vI k,vR g.length,y3,y4])/\Keeps [g.length] g2 g3/\g3[g.length]?=some (.dcn 2 (Pq tr i))/\∀j<i,(Hc tr j).isSome=false)
  (λo=>∃x g3,o=.rt (.tup (.str "same"::x)) g3/\Keeps [] g g3/\SS tr) (λi σ g3 hi hQ=>by
   obtain⟨⟨y3,y4,rfl⟩,i2,i3,i4⟩:=hQ;have hx:tr.getD i c0=tr[i]:=KJ hi;have hp3:=i2.at' _ _ (by simpa using hpd) hp;refine⟨.tup [.int i,Qx tr[i]],[vR M,vI k,vR g.length,vI i,some (Qx tr[i])],by rw[SR hp3];simp[hi],rfl,?_⟩;have nat:∀{F},jL (Qx tr[i]) (.ref g.length) g3 F=F (Pq tr i) (sR tr[i]):=λ{F}=>by unfold jL;dsimp only;rw[i3];dsimp only;rw[SQ]
   have t1:Ql (Qd aU (Qa 4) (Qa 2)) [vR M,vI k,vR g.length,vI i,some (Qx tr[i])] g3=.ok (Hc tr i).isSome g3:=QR (Qo (x:=Qx tr[i]) (y:=.ref g.length) rfl rfl (by unfold aU;rw[nat];unfold Hc;rw[hx]));cases hm:Hc tr i with
   |some v=>
    rw[hm]at t1;have eb:Yo [vR M,vI k,vR g.length,vI i,some (Qx tr[i])] g3=.rt (.tup [.str "same",v,.int i]) g3:=by unfold Yo;refine YO (FN g3 t1 (Q6 ?_));rw[J7,Qs (g1:=g3) rfl (Qs (x:=v) (g1:=g3) (Qo (x:=.ref g.length) (y:=Qx tr[i]) rfl rfl (by unfold gC;rw[nat];unfold Hc at hm;rw[hx]at hm;rw[hm])) (Qs (x:=.int i) (g1:=g3) rfl rfl))];exact Ud (show 3<=SZ by decide)
    exact .inr ⟨by rw[eb];trivial,_,g3,eb,kk i2,i,hi,by rw[hm];rfl⟩
   |none=>
    rw[hm]at t1;refine .inl ⟨[vR M,vI k,vR g.length,vI i,some (Qx tr[i])],g3.set g.length (.dcn 2 (Pq tr (i+1))),.inl ?_,⟨_,_,rfl⟩,i2.trans (.set _ _),Yt i3,λj hj=>?_⟩
    ·unfold Yo;refine Qh _ g3 (Yv g3 t1 rfl) ?_;unfold Cy;rw[show Qa 3 [vR M,vI k,vR g.length,vI i,some (Qx tr[i])] g3=.ok (.int i) g3 from rfl];dsimp only;rw[show Qa 2 [vR M,vI k,vR g.length,vI i,some (Qx tr[i])] g3=.ok (.ref g.length) g3 from rfl];dsimp only;rw[show Qa 4 [vR M,vI k,vR g.length,vI i,some (Qx tr[i])] g3=.ok (Qx tr[i]) g3 from rfl];dsimp only;rw[i3];dsimp only;rw[SQ];dsimp only;rw[Ud (Js (by unfold Pq;rw[Uh,RF];omega))];unfold Hc at hm;rw[hx]at hm;unfold OY;rw[hm,Uf (by simp)];congr 4;unfold Pq;rw[BD,UU];simp[hi]
    ·by_cases z:j=i
     ·subst z;rw[hm];rfl
     ·exact i4 j (by omega)) (λσ g3 hQ=>by
   obtain⟨_,i2,_⟩:=hQ;rw[SR (i2.at' _ _ (by simpa using hpd) hp)];simp) (tr.length+1) 0 [vR M,vI k,vR g.length,none,none] g2 (by omega) (by omega) ⟨⟨_,_,rfl⟩,.refl,hd,λj hj=>by omega⟩
 have hit:Bn (Qp Bz (Qc (Qa 0) (Qc (Qa 1) Qi))) [vR M,vI k,vR g.length,none,none] (g++[.dcn 2 []])=.ok (nZ p tr.length) g2:=by unfold Bn;rw[Qv (ds:=[.ref M,.int k]) (g':=g++[.dcn 2 []]) rfl,e2,Res.bind_ok];unfold LE;rw[VV hp];dsimp only;rw[Uh];rfl
 have start:∀{x:D}{g':G},Qr (Jn (Bn (Qp Bz (Qc (Qa 0) (Qc (Qa 1) Qi)))) (Jp [Qn 3,Qn 4]) Yo) (QM (Qu .non)) [vR M,vI k,vR g.length,none,none] (g++[.dcn 2 []])=.rt x g'->Vt [.ref M,.int k] g=.ok x g':=λh=>QB rfl (Qh [vR M,vI k,vR g.length,none,none] _ rfl h);rcases L with⟨σ',g3,e3,_,i2,_,i4⟩|⟨_,x,g3,e3,k3,h3⟩
 ·exact⟨.non,g3,start (Qh _ g3 ((Jb hit).trans e3) rfl),kk i2,.inr ⟨λ⟨i,h1,h2⟩=>(by rw[i4 i h1]at h2;cases h2),rfl⟩⟩
 ·exact⟨_,g3,start (YO ((Jb hit).trans e3)),k3,.inl ⟨h3,x,rfl⟩⟩
theorem NU:∀M N:rM,HG lO (YE M) (YE N)=some (decide (M=N))
 |[],[]=>rfl|[],_::_=>rfl|_::_,[]=>rfl| (a,b)::M,(c,d)::N=>by
  show(match some (decide ([a,(b:Int)]=[c,(d:Int)])),HG lO (YE M) (YE N) with
   |some a,some b=>some (a&&b)|_,_=>none)=_
  rw[NU M N];show some _=some _;rw[<-BB];congr 1;refine Rb.mpr ?_;simp
  intros;omega
def seen(M:rM)(pl:Int)(P:Int->Bool):rM:=(M.filter λp=>P (p.1-pl)).map λp=>(p.1-pl,p.2)
theorem IY(hC:∀(p:Int×Nat),C [vI p.1,vI (p.2:Nat),some (Qx c),some x] g=.ok (P (p.1-c.pl)) g)(hz:(Q7 c).length<=1000):
  ZN (Zp (Qd QZ (Qa 0) (mI 2))) 2 [0,1] (Jp [(Qn 0),(Qn 1)]) C (QX ZQ (Qc (Qd YW (Qa 0) (Qd QZ (Qa 2) (mI 1))) (Qc (Qa 1) Qi))) [some (Qx c),some x] g=.ok (.ref g.length) (g++[.lst (YE (seen (Q7 c) c.pl P))]):=by
 have hit:Zp (Qd QZ (Qa 0) (mI 2)) [some (Qx c),some x] g=.ok ⟨λ_ i=>some (YE (Q7 c))[i]?,(YE (Q7 c)).length⟩ g:=rfl;obtain⟨xs,σ',g',h1,h2,h3,h4⟩:=Yu (src:=⟨λ_ i=>some (YE (Q7 c))[i]?,(YE (Q7 c)).length⟩) (t:=Jp [Qn 0,Qn 1]) (c:=C) (e:=QX ZQ (Qc (Qd YW (Qa 0) (Qd QZ (Qa 2) (mI 1))) (Qc (Qa 1) Qi))) (n:=(Q7 c).length)
  (λi σ' g1 acc=>acc=YE (seen ((Q7 c).take i) c.pl P)/\g1=g/\∃u v,σ'=[u,v,some (Qx c),some x]) (λi σ' g1 acc hi hQ=>by
   obtain⟨h1,h2,u,v,h3⟩:=hQ;subst h2 h3;refine⟨.tup [.int (Q7 c)[i].1,.int ((Q7 c)[i].2:Nat)],[vI ((Q7 c)[i].1),vI ((Q7 c)[i].2:Nat),some (Qx c),some x],g1,by show some (YE (Q7 c))[i]?=_;simp[YE,hi],rfl,?_⟩;have hs:=U9 hi;cases hP:P ((Q7 c)[i].1-c.pl) with
   |true=>exact .inl ⟨.tup [.int ((Q7 c)[i].1-c.pl),.int ((Q7 c)[i].2:Nat)],g1,by rw[hC,hP],rfl,by rw[h1,hs];generalize (Q7 c)[i]=q at hP ⊢;simp[seen,YE,hP],rfl,_,_,rfl⟩|false=>exact .inr ⟨by rw[hC,hP],by rw[h1,hs];generalize (Q7 c)[i]=q at hP ⊢;simp[seen,YE,hP],rfl,_,_,rfl⟩) (λσ g1 acc hQ=>by show some (YE (Q7 c))[(Q7 c).length]?=_;simp[YE]) ((Q7 c).length+1) 0 [none,none,some (Qx c),some x] g [] (by omega) (by omega) ⟨rfl,rfl,none,none,rfl⟩
 rw[Rc]at h2;subst h2 h3;exact BM hit (by show(YE (Q7 c)).length<=SZ;rw[Jf];exact TJ (Js hz)) rfl (by rw[<-Jf (Q7 c)]at h1;exact h1)
theorem ST(g:G)(hz:(Q7 c).length<=1000):Yn [Qx c,.int low] g=.ok (.ref g.length) (g++[.lst (YE (seen (Q7 c) c.pl λx=>decide (-low<=x)))]):=QB rfl (Q6 (IY (P:=λx=>decide (-low<=x)) (λ_=>rfl) hz))
theorem NV(g:G)(hz:(Q7 c).length<=1000):ZU [Qx c,.int high] g=.ok (.ref g.length) (g++[.lst (YE (seen (Q7 c) c.pl λx=>decide (x<=high)))]):=QB rfl (Q6 (IY (P:=λx=>decide (x<=high)) (λ_=>rfl) hz))
theorem IZ(hA:∀g,A σ g=.ok (.ref g.length) (g++[.lst (YE x)]))(hB:∀g,B σ g=.ok (.ref g.length) (g++[.lst (YE y)])):∃g',Qd Vp A B σ g=.ok (.bl (decide (x=y))) g'/\Keeps [] g g':=by
 refine⟨g++[.lst (YE x)]++[.lst (YE y)],Qo (hA g) (hB _) ?_,(Keeps.push (S:=[]) _).trans (.push _)⟩;unfold Vp uA;dsimp only;rw[(Keeps.push (S:=[]) (.lst (YE y))).at' _ _ (by simp) (QO _),QO];dsimp only;rw[Jf,Jf,NU];by_cases h:x.length=y.length
 ·rw[Ud h]
 ·rw[Uf h,Ut (λz=>h (by rw[z]))]
def vC(c c':Cf)(low high:Int):Bool:=if c.st=c'.st/\c.pl≠c'.pl then (if c.pl<c'.pl then decide (seen (Q7 c) c.pl (λx=>decide (-low<=x))=seen (Q7 c') c'.pl (λx=>decide (-low<=x))) else decide (seen (Q7 c) c.pl (λx=>decide (x<=high))=seen (Q7 c') c'.pl (λx=>decide (x<=high)))) else false
theorem HV(g:G)(hz:(Q7 c).length<=1000)(hz':(Q7 c').length<=1000):∃g2,Y5 [Qx c,Qx c',.int low,.int high] g=.ok (.bl (vC c c' low high)) g2/\Keeps [] g g2:=by
 have t1:BZ (Ql (Qd MK (Qd QZ (Qa 0) (mI 0)) (Qd QZ (Qa 1) (mI 0)))) (Ql (Qd Vp (Qd QZ (Qa 0) (mI 1)) (Qd QZ (Qa 1) (mI 1)))) [some (Qx c),some (Qx c'),vI low,vI high] g=.ok (decide ¬(c.st=c'.st/\c.pl≠c'.pl)) g:=by rw[LW,show Ql (Qd MK (Qd QZ (Qa 0) (mI 0)) (Qd QZ (Qa 1) (mI 0))) [some (Qx c),some (Qx c'),vI low,vI high] g=.ok (!((c.st:Int)==c'.st)) g from rfl];dsimp only;rw[show Ql (Qd Vp (Qd QZ (Qa 0) (mI 1)) (Qd QZ (Qa 1) (mI 1))) [some (Qx c),some (Qx c'),vI low,vI high] g=.ok (c.pl==c'.pl) g from rfl];by_cases h1:c.st=c'.st<;>by_cases h2:c.pl=c'.pl<;>simp[h1,h2]<;>(intro z;exact absurd (by omega) h1)
 have t3:Ql (Qd HF (Qd QZ (Qa 0) (mI 1)) (Qd QZ (Qa 1) (mI 1))) [some (Qx c),some (Qx c'),vI low,vI high] g=.ok (decide (c.pl<c'.pl)) g:=rfl;unfold vC;by_cases h:c.st=c'.st/\c.pl≠c'.pl
 ·rw[Ut (λz=>z h)]at t1;rw[Ud h];by_cases hlt:c.pl<c'.pl
  ·obtain⟨g2,e2,k2⟩:=IZ (A:=Qp Yn (Qc (Qa 0) (Qc (Qa 2) Qi))) (B:=Qp Yn (Qc (Qa 1) (Qc (Qa 2) Qi))) (σ:=[some (Qx c),some (Qx c'),vI low,vI high]) (g:=g) (λg=>by rw[Qv (ds:=[Qx c,.int low]) (g':=g) rfl];exact ST g hz) (λg=>by rw[Qv (ds:=[Qx c',.int low]) (g':=g) rfl];exact ST g hz');exact⟨g2,QB rfl (Qh _ g (Yv g t1 rfl) (YO (FN g (t3.trans (by rw[Uv hlt])) (Q6 (e2.trans (by rw[Ud hlt])))))),k2⟩
  ·obtain⟨g2,e2,k2⟩:=IZ (A:=Qp ZU (Qc (Qa 0) (Qc (Qa 3) Qi))) (B:=Qp ZU (Qc (Qa 1) (Qc (Qa 3) Qi))) (σ:=[some (Qx c),some (Qx c'),vI low,vI high]) (g:=g) (λg=>by rw[Qv (ds:=[Qx c,.int high]) (g':=g) rfl];exact NV g hz) (λg=>by rw[Qv (ds:=[Qx c',.int high]) (g':=g) rfl];exact NV g hz');exact⟨g2,QB rfl (Qh _ g (Yv g t1 rfl) (Qh _ g (Yv g (t3.trans (by rw[Ut hlt])) rfl) (Q6 (e2.trans (by rw[Uf hlt]))))),k2⟩
 ·rw[Uv h]at t1;rw[Uf h];exact⟨g,QB rfl (YO (FN g t1 rfl)),.refl⟩
def ext(tr:List Cf)(l:Nat):Nat->Int×Int
 |0=>((tr.getD l c0).pl,(tr.getD l c0).pl)|k+1=>(if (tr.getD (l - (k+1)) c0).pl<(ext tr l k).1 then (tr.getD (l - (k+1)) c0).pl else (ext tr l k).1,if (ext tr l k).2<(tr.getD (l - (k+1)) c0).pl then (tr.getD (l - (k+1)) c0).pl else (ext tr l k).2)
def Ps(tr:List Cf)(l k:Nat):Bool:=vC (tr.getD (l - (k+1)) c0) (tr.getD l c0) ((tr.getD (l - (k+1)) c0).pl - (ext tr l (k+1)).1) ((ext tr l (k+1)).2 - (tr.getD (l - (k+1)) c0).pl)
def Mc(tr:List Cf):Prop:=∃l,1<=l/\l<tr.length/\∃k<l,Ps tr l k=true
theorem Fm{tr:List Cf}{p l:Nat}{g:G}(hp:g[p]?=some (.lst (tr.map Qx)))(hm:∀c∈tr,(Q7 c).length<=1000)(hl:l<tr.length)(hK:tr.length<=200):
  ∃y g',YK [.ref p,.int l] g=.ok y g'/\Keeps [] g g'/\((∃k<l,Ps tr l k=true)↔y≠.non):=by
 have at':∀{i:Nat}{g:G},i<tr.length->g[p]?=some (.lst (tr.map Qx))->QZ (.ref p) (.int i) g=.ok (Qx (tr.getD i c0)) g:=λhi hp=>Pg hp (by rw[KJ hi];simp[hi]);have mk:∀{i:Nat},i<tr.length->(Q7 (tr.getD i c0)).length<=1000:=λhi=>by rw[KJ hi];exact hm _ (Tr hi)
 have hit:Vs (Qd YW (Qa 1) (mI 1)) (Qt XY (mI 1)) [vR p,vI l,some (Qx (tr.getD l c0)),vI ((tr.getD l c0).pl),vI ((tr.getD l c0).pl),some .non,none,none] g=.ok ⟨λ_ k=>some (if (k:Int)<(l:Int) - 1 - (-1) then some (.int ((l:Int) - 1-k)) else none),l⟩ g:=by have hr:HE (l:Int):=Ff (by omega);unfold Vs;rw[show Qd YW (Qa 1) (mI 1) [vR p,vI l,some (Qx (tr.getD l c0)),vI ((tr.getD l c0).pl),vI ((tr.getD l c0).pl),some .non,none,none] g=.ok (.int ((l:Int) - 1)) g from rfl,Res.bind_ok,show Qt XY (mI 1) [vR p,vI l,some (Qx (tr.getD l c0)),vI ((tr.getD l c0).pl),vI ((tr.getD l c0).pl),some .non,none,none] g=.ok (.int (-1)) g from rfl,Res.bind_ok];dsimp only;rw[Ud ⟨by unfold HE at hr ⊢;omega,by unfold HE;omega⟩,show((l:Int) - 1 - (-1)).toNat=l by omega]
 obtain⟨σ',g3,e3,⟨y,x6,x7,rfl,i2⟩,k3⟩:=SA (src:=⟨λ_ k=>some (if (k:Int)<(l:Int) - 1 - (-1) then some (.int ((l:Int) - 1-k)) else none),l⟩) (t:=Qn 6) (body:=ZR) (n:=l) (σ:=[vR p,vI l,some (Qx (tr.getD l c0)),vI ((tr.getD l c0).pl),vI ((tr.getD l c0).pl),some .non,none,none]) (g:=g) rfl
  (λk σ g3=>(∃y x6 x7,σ=[vR p,vI l,some (Qx (tr.getD l c0)),vI ((ext tr l k).1),vI ((ext tr l k).2),some y,x6,x7]/\((∃j<k,Ps tr l j=true)↔y≠.non))/\Keeps [] g g3) ⟨⟨.non,none,none,rfl,⟨λ⟨_,h,_⟩=>absurd h (Nat.not_lt_zero _),λh=>absurd rfl h⟩⟩,.refl⟩ (λk σ g3 hk hQ=>by
   obtain⟨⟨y,x6,x7,rfl,i2⟩,k3⟩:=hQ;obtain⟨g4,e4,k4⟩:=HV (c:=tr.getD (l - (k+1)) c0) (c':=tr.getD l c0) (low:=(tr.getD (l - (k+1)) c0).pl - (ext tr l (k+1)).1) (high:=(ext tr l (k+1)).2 - (tr.getD (l - (k+1)) c0).pl) g3 (mk (by omega)) (mk hl);have st:∀{o:Out},YV (Ql (Qp Y5 (Qc (Qa 7) (Qc (Qa 2) (Qc (Qd YW (Qd QZ (Qa 7) (mI 1)) (Qa 3)) (Qc (Qd YW (Qa 4) (Qd QZ (Qa 7) (mI 1))) Qi)))))) (QK (Qn 5) (Qa 6)) QV [vR p,vI l,some (Qx (tr.getD l c0)),vI ((ext tr l (k+1)).1),vI ((ext tr l (k+1)).2),some y,vI ((l - (k+1):Nat):Int),some (Qx (tr.getD (l - (k+1)) c0))] g3=o->ZR [vR p,vI l,some (Qx (tr.getD l c0)),vI ((ext tr l k).1),vI ((ext tr l k).2),some y,vI ((l - (k+1):Nat):Int),x7] g3=o:=λh=>
    Qh [vR p,vI l,some (Qx (tr.getD l c0)),vI ((ext tr l k).1),vI ((ext tr l k).2),some y,vI ((l - (k+1):Nat):Int),some (Qx (tr.getD (l - (k+1)) c0))] g3 (QF (Qo (x:=.ref p) (y:=.int ((l - (k+1):Nat):Int)) rfl rfl (at' (by omega) (k3.at' _ _ (by simp) hp)))) (Qh [vR p,vI l,some (Qx (tr.getD l c0)),vI ((ext tr l (k+1)).1),vI ((ext tr l k).2),some y,vI ((l - (k+1):Nat):Int),some (Qx (tr.getD (l - (k+1)) c0))] g3 rfl (Qh _ g3 rfl h))
   have t4:Ql (Qp Y5 (Qc (Qa 7) (Qc (Qa 2) (Qc (Qd YW (Qd QZ (Qa 7) (mI 1)) (Qa 3)) (Qc (Qd YW (Qa 4) (Qd QZ (Qa 7) (mI 1))) Qi))))) [vR p,vI l,some (Qx (tr.getD l c0)),vI ((ext tr l (k+1)).1),vI ((ext tr l (k+1)).2),some y,vI ((l - (k+1):Nat):Int),some (Qx (tr.getD (l - (k+1)) c0))] g3=.ok (Ps tr l k) g4:=QR (by rw[Qv (ds:=[Qx (tr.getD (l - (k+1)) c0),Qx (tr.getD l c0),.int ((tr.getD (l - (k+1)) c0).pl - (ext tr l (k+1)).1),.int ((ext tr l (k+1)).2 - (tr.getD (l - (k+1)) c0).pl)]) (g':=g3) rfl];exact e4);have fin:∃y',ZR [vR p,vI l,some (Qx (tr.getD l c0)),vI ((ext tr l k).1),vI ((ext tr l k).2),some y,vI ((l - (k+1):Nat):Int),x7] g3=.nx [vR p,vI l,some (Qx (tr.getD l c0)),vI ((ext tr l (k+1)).1),vI ((ext tr l (k+1)).2),some y',vI ((l - (k+1):Nat):Int),some (Qx (tr.getD (l - (k+1)) c0))] g4/\((∃j<k+1,Ps tr l j=true)↔y'≠.non):=by
    cases hb:Ps tr l k with
    |true=>rw[hb]at t4;exact⟨.int ((l - (k+1):Nat):Int),st (FN g4 t4 (QF rfl)),⟨λ_ z=>(by cases z),λ_=>⟨k,TB _,hb⟩⟩⟩|false=>
     rw[hb]at t4;refine⟨y,st (Yv g4 t4 rfl),⟨λ⟨j,h1,h2⟩=>i2.mp ⟨j,?_,h2⟩,λh=>let ⟨j,h1,h2⟩:=i2.mpr h;⟨j,W9 h1,h2⟩⟩⟩;by_cases z:j=k
     ·subst z;rw[hb]at h2;cases h2
     ·omega
   obtain⟨y',f1,f2⟩:=fin;exact⟨.int ((l - (k+1):Nat):Int),_,_,g4,by dsimp only;rw[Ud (by omega)];congr 3;omega,rfl,f1,⟨y',_,_,rfl,f2⟩,k3.trans k4⟩) (λσ g3 hQ=>by
   dsimp only;rw[Uf (by omega)])
 exact⟨y,g3,QB rfl (Qh [vR p,vI l,some (Qx (tr.getD l c0)),none,none,none,none,none] g (QF (Qo (x:=.ref p) (y:=.int l) rfl rfl (at' hl hp))) (Qh [vR p,vI l,some (Qx (tr.getD l c0)),vI ((tr.getD l c0).pl),none,none,none,none] g rfl (Qh [vR p,vI l,some (Qx (tr.getD l c0)),vI ((tr.getD l c0).pl),vI ((tr.getD l c0).pl),none,none,none] g rfl (Qh [vR p,vI l,some (Qx (tr.getD l c0)),vI ((tr.getD l c0).pl),vI ((tr.getD l c0).pl),some .non,none,none] g rfl (Qh _ g3 ((Jb hit).trans e3) rfl))))),k3,i2⟩
theorem HW{rows:List (List D)}{n m M k:Nat}{g:G}(T:Tb rows n m)(hM:g[M]?=some (Z5 rows))(hz:k<199):
  ∃x g',Y6 [.ref M,.int k] g=.ok x g'/\Keeps [] g g'/\((Mc (SN rows k)/\∃ds,x=.tup (.str "shifted"::ds))\/(¬Mc (SN rows k)/\x=.non)):=by
 obtain⟨p,g2,e2,k2,hp⟩:=NT T hM (by omega:k<200);obtain⟨hm,hl⟩:=Mb T k c0 (sQ T);have hm:∀c∈SN rows k,(Q7 c).length<=1000:=λc h=>Uo (hm c h) (by show 0+0+k<=1000;omega);have h1:1<=(SN rows k).length:=by cases k<;>simp[SN,jT]
 have hl:(SN rows k).length<=k+1:=hl;generalize SN rows k=tr at hp hl hm h1 ⊢;have L:=Y9 (src:=Q0 1 (tr.length-1)) (t:=Qn 3) (body:=YL) (n:=tr.length-1)
  (λi σ g3=>(∃y3 y4,σ=[vR M,vI k,vR p,y3,y4])/\Keeps [] g2 g3/\∀l,1<=l->l<=i->¬ ∃k<l,Ps tr l k=true)
  (λo=>∃x g3,o=.rt (.tup (.str "shifted"::x)) g3/\Keeps [] g2 g3/\Mc tr) (λi σ g3 hi' hQ=>by
   obtain⟨⟨y3,y4,rfl⟩,i2,i4⟩:=hQ;obtain⟨y,g4,e4,k4,h4⟩:=Fm (l:=i+1) (i2.at' _ _ (by simp) hp) hm (by omega) (by omega);refine⟨.int ((i+1:Nat):Int),[vR M,vI k,vR p,vI ((i+1:Nat):Int),y4],by simp[Q0,hi'];omega,rfl,?_⟩;have a1:QK (Qn 4) (Qp YK (Qc (Qa 2) (Qc (Qa 3) Qi))) [vR M,vI k,vR p,vI ((i+1:Nat):Int),y4] g3=.nx [vR M,vI k,vR p,vI ((i+1:Nat):Int),some y] g4:=QF (by rw[Qv (ds:=[.ref p,.int ((i+1:Nat):Int)]) (g':=g3) rfl];exact e4);by_cases hy:y=.non
   ·subst hy;refine .inl ⟨_,g4,.inl (Qh _ g4 a1 (Yv g4 rfl rfl)),⟨_,_,rfl⟩,i2.trans k4,λl l1 l2 z=>?_⟩;by_cases e:l=i+1
    ·subst e;exact h4.mp z rfl
    ·exact i4 l l1 (by omega) z
   ·have eb:YL [vR M,vI k,vR p,vI ((i+1:Nat):Int),y4] g3=.rt (.tup [.str "shifted",y,.int ((i+1:Nat):Int)]) g4:=Qh _ g4 a1 (FN g4 (by cases y<;>first|exact absurd rfl hy|rfl) rfl);exact .inr ⟨by rw[eb];trivial,_,g4,eb,i2.trans k4,i+1,by omega,by omega,h4.mpr hy⟩) (λσ g3 hQ=>by simp[Q0]) (tr.length-1+1) 0 [vR M,vI k,vR p,none,none] g2 (by omega) (by omega) ⟨⟨_,_,rfl⟩,.refl,λl a b=>by omega⟩
 have hit:Zu (mI 1) (Qt Zv (Qa 2)) [vR M,vI k,vR p,none,none] g2=.ok (Q0 1 (tr.length-1)) g2:=by unfold Zu;rw[show(mI 1) [vR M,vI k,vR p,none,none] g2=Res.ok (D.int 1) g2 from rfl,Res.bind_ok,show Qt Zv (Qa 2) [vR M,vI k,vR p,none,none] g2=.ok (.int (tr.length:Nat)) g2 from ZX (x:=.ref p) rfl (by rw[Fj hp,Uh]),Res.bind_ok];dsimp only;rw[Ud ⟨by unfold HE;omega,Ff (by omega)⟩,show((tr.length:Int) - 1).toNat=tr.length-1 by omega]
 have start:∀{x:D}{g':G},Qr (Jn (Zu (mI 1) (Qt Zv (Qa 2))) (Qn 3) YL) (QM (Qu .non)) [vR M,vI k,vR p,none,none] g2=.rt x g'->Y6 [.ref M,.int k] g=.ok x g':=λh=>QB rfl (Qh [vR M,vI k,vR p,none,none] g2 (QF (by rw[Qv (ds:=[.ref M,.int k]) (g':=g) rfl];exact e2)) h);rcases L with⟨σ',g3,e3,_,i2,i4⟩|⟨_,x,g3,e3,k3,h3⟩
 ·exact⟨.non,g3,start (Qh _ g3 ((Jb hit).trans e3) rfl),k2.trans i2,.inr ⟨λ⟨l,l1,l2,z⟩=>i4 l l1 (by omega) z,rfl⟩⟩
 ·exact⟨_,g3,start (YO ((Jb hit).trans e3)),k2.trans k3,.inl ⟨h3,x,rfl⟩⟩
structure Sml(rows:List (List D))(n m:Nat):Prop where
 tb:Tb rows n m
 n2:n<=2
 m2:m<=2
 h:∀s,Cg rows 2=some s->okS 2 n m (TR rows) s->s.cs.length<64
section
variable{rows:List (List D)}{n m M k:Nat}{g:G}
theorem iG(S:Sml rows n m)(hM:g[M]?=some (Z5 rows)){w:Nat}(h1:1<=w)(h2:w<=2):∃d g',Vu [.ref M,.int w,.int 200] g=.ok d g'/\Keeps [] g g'/\((Cg rows w=none/\d=.non)\/((Cg rows w).isSome=true/\∃ds,d=.tup (.str "wall"::ds))):=by
 have fw:∀{w n m:Nat},1<=w->w<=2->0<n->n<=2->0<m->m<=2->Few w n m/\(A1 w n m).length<=64/\(LY m w).length<64/\(A1 1 n m).length<64:=λ{w n m} a b c d e f=>by
  obtain rfl|rfl:w=1\/w=2:=by omega
  all_goals obtain rfl|rfl:n=1\/n=2:=by omega
  all_goals obtain rfl|rfl:m=1\/m=2:=by omega
  all_goals exact⟨⟨by decide,by decide,by decide,by decide,by decide,by decide,by decide,by decide,by decide⟩,by decide,by decide,by decide⟩
 obtain⟨f,hC,hg,h3⟩:=fw h1 h2 S.tb.n0 S.n2 S.tb.m0 S.m2;refine iE hM S.tb f hC hg λs hs ok=>?_;obtain rfl|rfl:w=1\/w=2:=by omega
 ·exact RS (JS ok.cn λc hc=>EE (ok.c c hc)) h3
 ·exact S.h s hs ok
def SU(rows:List (List D))(width:Nat):Prop:=∃w,1<=w/\w<=width/\(Cg rows w).isSome=true
theorem HX(S:Sml rows n m)(hM:g[M]?=some (Z5 rows)){width:Nat}(hw:width<=2):∃x g',VS [.ref M,.int width] g=.ok x g'/\Keeps [] g g'/\((SU rows width/\∃ds,x=.tup (.str "wall"::ds))\/(¬SU rows width/\x=.non)):=by
 have L:=Y9 (src:=Q0 1 width) (t:=Qn 2) (body:=J4) (n:=width)
  (λi σ g3=>(∃y3 y4,σ=[vR M,vI width,y3,y4])/\Keeps [] g g3/\∀l,1<=l->l<=i->(Cg rows l).isSome=false)
  (λo=>∃x g3,o=.rt (.tup (.str "wall"::x)) g3/\Keeps [] g g3/\SU rows width) (λi σ g3 hi hQ=>by
   obtain⟨⟨y3,y4,rfl⟩,i2,i4⟩:=hQ;obtain⟨d,g4,e4,k4,h4⟩:=iG (w:=i+1) S (i2.at' _ _ (by simp) hM) (by omega) (by omega);have a1:QK (Qn 3) (Qp Vu (Qc (Qa 0) (Qc (Qa 2) (Qc (mI 200) Qi)))) [vR M,vI width,vI ((i+1:Nat):Int),y4] g3=.nx [vR M,vI width,vI ((i+1:Nat):Int),some d] g4:=QF (by rw[Qv (ds:=[.ref M,.int ((i+1:Nat):Int),.int 200]) (g':=g3) rfl];exact e4);refine⟨.int ((i+1:Nat):Int),[vR M,vI width,vI ((i+1:Nat):Int),y4],by simp[Q0,hi];omega,rfl,?_⟩;rcases h4 with⟨h4,rfl⟩|⟨h4,ds,rfl⟩
   ·refine .inl ⟨_,g4,.inl (Qh _ g4 a1 (Yv g4 rfl rfl)),⟨_,_,rfl⟩,i2.trans k4,λl l1 l2=>?_⟩;by_cases e:l=i+1
    ·subst e;rw[h4];rfl
    ·exact i4 l l1 (by omega)
   ·have eb:J4 [vR M,vI width,vI ((i+1:Nat):Int),y4] g3=.rt (.tup (.str "wall"::ds)) g4:=Qh _ g4 a1 (FN g4 rfl rfl);exact .inr ⟨by rw[eb];trivial,_,g4,eb,i2.trans k4,i+1,by omega,by omega,h4⟩) (λσ g3 hQ=>by simp[Q0]) (width+1) 0 [vR M,vI width,none,none] g (by omega) (by omega) ⟨⟨_,_,rfl⟩,.refl,λl a b=>by omega⟩
 have hit:Zu (mI 1) (Qd ZL (Qa 1) (mI 1)) [vR M,vI width,none,none] g=.ok (Q0 1 width) g:=by unfold Zu;rw[show(mI 1) [vR M,vI width,none,none] g=Res.ok (D.int 1) g from rfl,Res.bind_ok,show Qd ZL (Qa 1) (mI 1) [vR M,vI width,none,none] g=.ok (.int ((width:Int)+1)) g from rfl,Res.bind_ok];dsimp only;rw[Ud ⟨by unfold HE;omega,by unfold HE;omega⟩,show((width:Int)+1-1).toNat=width by omega]
 rcases L with⟨σ',g3,e3,_,i2,i4⟩|⟨_,x,g3,e3,k3,h3⟩
 ·exact⟨.non,g3,QB rfl (Qh _ g3 ((Jb hit).trans e3) rfl),i2,.inr ⟨λ⟨w,a,b,c⟩=>(by rw[i4 w a b]at c;cases c),rfl⟩⟩
 ·exact⟨_,g3,QB rfl (YO ((Jb hit).trans e3)),k3,.inl ⟨h3,x,rfl⟩⟩
open Classical in
def Vz(rows:List (List D))(k width:Nat):String:=if IX rows k≠.non then "stops" else if SS (SN rows k) then "same" else if Mc (SN rows k) then "shifted" else if SU rows width then "wall" else "open"
theorem iH(σ:S3)(g:G){i:Nat}{x:D}(h:σ[i]?=some (some x))(hx:x≠.non):Ql (Qd Kq (Qa i) (Qu .non)) σ g=.ok true g:=QR (Qo (x:=x) (J8 h) rfl (by cases x<;>first|exact absurd rfl hx|rfl))
theorem NW(S:Sml rows n m)(hM:g[M]?=some (Z5 rows))(hk:k<199){width:Nat}(hw:width<=2):∃a b g',VT [.ref M,.int k,.int width] g=.ok (.tup [.str (Str.ofString a),b]) g'/\Keeps [] g g'/\((a ="stops"/\Vz rows k width ="stops")\/(a ="open"/\Vz rows k width ="open")\/(a ="never"/\∃ds,b=.tup (.str (Str.ofString (Vz rows k width))::ds))):=by
 obtain⟨g1,e1,k1⟩:=cZ S.tb (by omega:k<700) hM;have a1:QK (Qn 3) (Qp VQ (Qc (Qa 0) (Qc (Qa 1) Qi))) [vR M,vI k,vI width,none,none] g=.nx [vR M,vI k,vI width,some (IX rows k),none] g1:=QF (by rw[Qv (ds:=[.ref M,.int k]) (g':=g) rfl];exact e1);unfold Vz;by_cases hs:IX rows k=.non
 ·rw[hs]at a1;rw[Uf (λz=>z hs)];have st:∀{x:D}{g2 g3:G}{o:D},JH [.ref M,.int k,.int width] g1=.ok x g2->QM (Vc (Ql (Qd P3 (Qa 4) (Qu .non))) (QX ZQ (Qc (Qu (.str "open")) (Qc (Qu .non) Qi))) (QX ZQ (Qc (Qu (.str "never")) (Qc (Qa 4) Qi)))) [vR M,vI k,vI width,some .non,some x] g2=.rt o g3->VT [.ref M,.int k,.int width] g=.ok o g3:=λ{x g2 g3 o} hx ho=>QB rfl (Qh _ g1 a1 (Qh _ g1 (Yv g1 rfl rfl) (Qh [vR M,vI k,vI width,some .non,some x] g2 (QF (by rw[Qv (ds:=[.ref M,.int k,.int width]) (g':=g1) rfl];exact hx)) ho)));obtain⟨x2,g2,e2,k2,h2⟩:=Pr S.tb (k1.at' _ _ (by simp) hM) (by omega:k<200);have a2:QK (Qn 3) (Qp Vt (Qc (Qa 0) (Qc (Qa 1) Qi))) [vR M,vI k,vI width,none,none] g1=.nx [vR M,vI k,vI width,some x2,none] g2:=QF (by rw[Qv (ds:=[.ref M,.int k]) (g':=g1) rfl];exact e2);rcases h2 with⟨q2,ds,rfl⟩|⟨q2,rfl⟩
  ·rw[Ud q2];exact⟨"never",_,g2,st (QB rfl (Qh _ g2 a2 (YO (FN g2 rfl rfl)))) rfl,k1.trans k2,.inr (.inr ⟨rfl,ds,rfl⟩)⟩
  rw[Uf q2];obtain⟨x3,g3,e3,k3,h3⟩:=HW S.tb ((k1.trans k2).at' _ _ (by simp) hM) hk;have a3:QK (Qn 4) (Qp Y6 (Qc (Qa 0) (Qc (Qa 1) Qi))) [vR M,vI k,vI width,some .non,none] g2=.nx [vR M,vI k,vI width,some .non,some x3] g3:=QF (by rw[Qv (ds:=[.ref M,.int k]) (g':=g2) rfl];exact e3);rcases h3 with⟨q3,ds,rfl⟩|⟨q3,rfl⟩
  ·rw[Ud q3];exact⟨"never",_,g3,st (QB rfl (Qh _ g2 a2 (Qh _ g2 (Yv g2 rfl rfl) (Qh _ g3 a3 (YO (FN g3 rfl rfl)))))) rfl,(k1.trans k2).trans k3,.inr (.inr ⟨rfl,ds,rfl⟩)⟩
  rw[Uf q3];obtain⟨x4,g4,e4,k4,h4⟩:=HX S (((k1.trans k2).trans k3).at' _ _ (by simp) hM) hw;have e5:JH [.ref M,.int k,.int width] g1=.ok x4 g4:=QB rfl (Qh _ g2 a2 (Qh _ g2 (Yv g2 rfl rfl) (Qh _ g3 a3 (Qh _ g3 (Yv g3 rfl rfl) (Q6 (by rw[Qv (ds:=[.ref M,.int width]) (g':=g3) rfl];exact e4))))));rcases h4 with⟨q4,ds,rfl⟩|⟨q4,rfl⟩
  ·rw[Ud q4];exact⟨"never",_,g4,st e5 rfl,((k1.trans k2).trans k3).trans k4,.inr (.inr ⟨rfl,ds,rfl⟩)⟩
  ·rw[Uf q4];exact⟨"open",.non,g4,st e5 rfl,((k1.trans k2).trans k3).trans k4,.inr (.inl ⟨rfl,rfl⟩)⟩
 ·rw[Ud hs];exact⟨"stops",IX rows k,g1,QB rfl (Qh _ g1 a1 (YO (FN g1 (iH _ _ rfl hs) rfl))),k1,.inl ⟨rfl,rfl⟩⟩
theorem CI(s t:Str)(g:G):Vp (.str s) (.str t) g=.ok (.bl (s==t)) g:=rfl
theorem Hd{a:String}{b:D}{k width:Nat}(g:G)(h:(a ="stops"/\Vz rows k width ="stops")\/(a ="open"/\Vz rows k width ="open")\/(a ="never"/\∃ds,b=.tup (.str (Str.ofString (Vz rows k width))::ds))):BE [.tup [.str (Str.ofString a),b]] g=.ok (.str (Str.ofString (Vz rows k width))) g/\Vc (Ql (Qd Vp (Qa 3) (Qu (.str "never")))) (Qd QZ (Qa 4) (mI 0)) (Qa 3) [vR M,vI k,vI width,some (.str (Str.ofString a)),some b] g=.ok (.str (Str.ofString (Vz rows k width))) g:=by
 have e1:(Str.ofString "stops"==Str.ofString "never")=false:=by decide +kernel
 have e2:(Str.ofString "open"==Str.ofString "never")=false:=by decide +kernel
 rcases h with⟨rfl,h⟩|⟨rfl,h⟩|⟨rfl,ds,rfl⟩
 ·rw[h];exact⟨QB rfl (Q6 (by simp[CI,e1])),by simp[CI,e1]⟩
 ·rw[h];exact⟨QB rfl (Q6 (by simp[CI,e2])),by simp[CI,e2]⟩
 ·exact⟨QB rfl (Q6 (by simp[CI])),by simp[CI]⟩
theorem Da(S:Sml rows n m)(hM:g[M]?=some (Z5 rows))(hk:k<199){width:Nat}(hw:width<=2):∃g',EA [.ref M,.int k,.int width] g=.ok (.str (Str.ofString (Vz rows k width))) g'/\Keeps [] g g':=by obtain⟨a,b,g',e,k',h⟩:=NW S hM hk hw;refine⟨g',QB rfl (Qh [vR M,vI k,vI width,some (.str (Str.ofString a)),some b] g' ?_ (Q6 (Hd g' h).2)),k'⟩;unfold QK;rw[Qv (ds:=[.ref M,.int k,.int width]) (g':=g) rfl,e];rfl
end
def F4(c n:Int):D:=if c=0 then .non else .tup [.int ((c-1) / n/2),.str (Str.ofString (if (c-1) / n%2=1 then "r" else "l")),.int ((c-1) % n)]
theorem NX(c:Int){n:Int}(g:G)(h:0<n)(h2:n<=1000000):VR [.int c,.int n] g=.ok (F4 c n) g:=by
 unfold F4;by_cases hc:c=0
 ·rw[Ud hc];exact QB rfl (YO (FN g (by simp[hc]) rfl))
 ·rw[Uf hc];refine QB rfl (Qh _ g (Yv g (by simp[hc]) rfl) (Qh [vI c,vI n,vI ((c-1) / n),none] g (QF (by simp[Fg h h2])) (Qh [vI c,vI n,vI ((c-1) / n),some (.str (Str.ofString (if (c-1) / n%2=1 then "r" else "l")))] g (QF ?_) (Q6 ?_))))
  ·by_cases z:(c-1) / n%2=1<;>simp[CH,z]
  ·simp[CH h,Fg]
def vl(n m:Nat):Int:=2*(n:Int)*m+1
theorem La{n m:Nat}(hn:n<=2)(hm:m<=2)(g:G):Z3 [.int n,.int m] g=.ok (.int (vl n m)) g:=QB rfl (Q6 (by simp[nO (XI (i:=2) (by decide) (by decide)),AZ (XI (i:=(m:Int)) (by omega) (by omega)),vl]))
theorem Pt{n m:Nat}(hn:n<=2)(g:G):ZE (.int n) (.int m) g=.ok (.int ((n*m:Nat):Int)) g:=by rw[nO (XI (by omega) (by omega))];simp
theorem sS{n m:Nat}(hn:n<=2)(hm:m<=2):n*m<=4:=Nat.mul_le_mul hn hm
def VA(n m:Nat)(v:Int)(i:Nat):List D:=(List.range i).map λj=>F4 (v/vl n m^j%vl n m) n
def Ch(n m:Nat)(v:Int):List (List D):=(List.range n).map λs:Nat=>C8 (VA n m v (n*m)) (some ((s:Int)*m)) (some (((s:Int)+1)*m))
theorem iI{n m:Nat}{c:Int}(h0:0<n)(hn:n<=2)(h1:0<m)(hm:m<=2)(hc:0<=c)(hv:c<vl n m):entOk (F4 c n) n m:=by
 unfold F4;by_cases z:c=0
 ·rw[Ud z];exact .inl rfl
 ·rw[Uf z];have hv:c<2*(n:Int)*m+1:=hv;refine .inr ⟨_,_,_,rfl,?_⟩;have w:Str.ofString (if (c-1) / n%2=1 then "r" else "l")=⟨#[108]⟩\/Str.ofString (if (c-1) / n%2=1 then "r" else "l")=⟨#[114]⟩:=by
   by_cases z:(c-1) / n%2=1
   ·rw[Ud z];exact .inr jQ
   ·rw[Uf z];exact .inl sK
  obtain rfl|rfl:n=1\/n=2:=by omega
  all_goals obtain rfl|rfl:m=1\/m=2:=by omega
  all_goals exact⟨by omega,by omega,by omega,by omega,w⟩
theorem SV{n m:Nat}(h0:0<n)(hn:n<=2)(h1:0<m)(hm:m<=2)(v:Int):Tb (Ch n m v) n m:=by
 have vp:0<vl n m:=by
  unfold vl;obtain rfl|rfl:n=1\/n=2:=by omega
  all_goals obtain rfl|rfl:m=1\/m=2:=by omega
  all_goals decide
 have ok:∀d∈VA n m v (n*m),entOk d n m:=λd hd=>by obtain⟨j,_,rfl⟩:=TK.mp hd;exact iI h0 hn h1 hm (RD _ (Int.ne_of_gt vp)) (Ri _ vp)
 refine⟨by unfold Ch;rw[Uh,RF],λr hr=>?_,λr hr d hd=>?_,h0,h1⟩
 ·obtain⟨s,hs,rfl⟩:=TK.mp hr;have hs:=Rw.mp hs;obtain rfl|rfl:n=1\/n=2:=by omega
  all_goals obtain rfl|rfl:m=1\/m=2:=by omega
  all_goals (rcases s with _|_|s<;>first|omega|rfl)
 ·obtain⟨s,hs,rfl⟩:=TK.mp hr;exact ok d (List.mem_of_mem_drop (List.mem_of_mem_take hd))
theorem F5{n m:Nat}(h0:0<n)(hn:n<=2)(hm:m<=2)(v:Int)(g:G):∃σ' g',Jn (Zl (Qd ZE (Qa 0) (Qa 1))) (Qn 6) J0 [vI n,vI m,vI v,vI (vl n m),vI v,vR g.length,none] (g++[.lst []])=.nx σ' g'/\(∃x,σ'=[vI n,vI m,vI v,vI (vl n m),vI (v/vl n m ^ (n*m)),vR g.length,x])/\g'=g++[.lst (VA n m v (n*m))]:=by
 have h4:=sS hn hm;have vp:0<vl n m/\vl n m<=9:=by
  unfold vl;have:(n:Int)*m<=4:=by exact_mod_cast h4
  have:0<=(n:Int)*m:=by exact_mod_cast T3 _
  rw[B7];omega
 obtain⟨σ',g',e,hx⟩:=BJ (t:=Qn 6) (body:=J0) (lo:=0) (n:=n*m) (σ:=[vI n,vI m,vI v,vI (vl n m),vI v,vR g.length,none]) (g:=g++[.lst []])
  (λi σ' g'=>(∃x,σ'=[vI n,vI m,vI v,vI (vl n m),vI (v/vl n m^i),vR g.length,x])/\g'=g++[.lst (VA n m v i)]) ⟨⟨none,by rw[Int.pow_zero,Int.ediv_one]⟩,rfl⟩ (λi σ' g' hi hQ=>by obtain⟨⟨x,rfl⟩,rfl⟩:=hQ;refine⟨[vI n,vI m,vI v,vI (vl n m),vI (v/vl n m^i),vR g.length,vI (0+i)],[vI n,vI m,vI v,vI (vl n m),vI (v/vl n m^i/vl n m),vR g.length,vI (0+i)],g++[.lst (VA n m v (i+1))],rfl,Qh [vI n,vI m,vI v,vI (vl n m),vI (v/vl n m^i),vR g.length,vI (0+i)] (g++[.lst (VA n m v (i+1))]) ?_ (QF (Qo (x:=.int (v/vl n m^i)) (y:=.int (vl n m)) rfl rfl (Fg vp.1 (Int.le_trans vp.2 (by decide))))),⟨_,by rw[Int.pow_succ,Int.ediv_ediv_of_nonneg (Int.pow_nonneg (Int.le_of_lt vp.1))]⟩,rfl⟩;have:=Fi (σ:=[vI n,vI m,vI v,vI (vl n m),vI (v/vl n m^i),vR g.length,vI (0+i)]) (o:=Qa 5) (e:=Qp VR (Qc (Qd ZM (Qa 4) (Qa 3)) (Qc (Qa 0) Qi))) (y:=F4 (v/vl n m^i%vl n m) n) (g:=g++[.lst (VA n m v i)]) rfl (QO _) (by rw[Qv (ds:=[.int (v/vl n m^i%vl n m),.int n]) (g':=g++[.lst (VA n m v i)]) (by simp[CH vp.1])];exact NX _ _ (by omega) (by omega)) (Js (by unfold VA;rw[Uh,RF];omega));rw[this,Nx];unfold VA;rw[BD,UU];rfl)
 refine⟨σ',g',(Jb (BL (Qo (x:=.int n) (y:=.int m) rfl rfl (Pt hn _)) (Ff (by omega)))).trans e,hx⟩
theorem He(c:Nat)(d:D)(σ:S3)(g:G):Ko c (Qc (Qu d) Qi) σ g=.raise (c,none) σ g:=by unfold Ko;exact Ud (show 1<=SZ by decide)
section
variable{n m:Nat}
theorem Ci(h0:0<n)(hn:n<=2)(h1:0<m)(hm:m<=2){v:Int}(hv:0<=v)(g:G):∃x,∀{o:Out},Qr (YV (Ql (Qd MK (Qa 4) (mI 0))) (Ko 3 (Qc (Qu (.str "the number is beyond that of the last machine")) Qi)) QV)
      (QM (Jq 11 ZI (Qc (ZN (Zl (Qa 0)) 1 [5,1] (Qn 0) Yw (Z7 (Qa 1) (ZO (Qd ZE (Qa 0) (Qa 2))) (ZO (Qd ZE (Qd ZL (Qa 0) (mI 1)) (Qa 2))))) Qi))) [vI n,vI m,vI v,vI (vl n m),vI (v/vl n m ^ (n*m)),vR g.length,x] (g++[.lst (VA n m v (n*m))])=o->Yp [vI n,vI m,vI v,none,none,none,none] g=o:=by
  obtain⟨σ',g',e,⟨x,rfl⟩,rfl⟩:=F5 h0 hn hm v g;refine⟨x,λ{o} ho=>?_⟩;unfold Yp;refine Qh _ g (Yv g ?_ rfl) ?_
  · have:¬(n:Int)<1:=by omega
    have:¬(m:Int)<1:=by omega
    simp[*]
  refine Qh _ g (Yv g ?_ rfl) ?_
  · have:¬v<0:=by omega
    simp[*]
  refine Qh [vI n,vI m,vI v,vI (vl n m),none,none,none] g (QF (by rw[Qv (ds:=[.int n,.int m]) (g':=g) rfl];exact La hn hm g)) ?_;refine Qh [vI n,vI m,vI v,vI (vl n m),vI v,none,none] g (QF rfl) ?_;refine Qh [vI n,vI m,vI v,vI (vl n m),vI v,vR g.length,none] (g++[.lst []]) (QF VY) ?_;exact Qh _ _ e ho
theorem HY(h0:0<n)(hn:n<=2)(h1:0<m)(hm:m<=2){v:Int}(hv:0<=v)(hl:vl n m ^ (n*m)<=v)(hp:0<vl n m ^ (n*m))(g:G):∃g',QY [.int n,.int m,.int v] g=.raise (3,none) g'/\Keeps [] g g':=by
 obtain⟨x,st⟩:=Ci h0 hn h1 hm hv g;refine⟨g++[.lst (VA n m v (n*m))],Fh (σ:=[vI n,vI m,vI v,vI (vl n m),vI (v/vl n m ^ (n*m)),vR g.length,x]) rfl (st (BK (FN _ ?_ (He ..)))),.push _⟩;have:v/vl n m ^ (n*m)≠0:=λz=>by have:=Int.lt_mul_ediv_self_add (x:=v) hp;rw[z,Int.mul_zero,Int.zero_add]at this;omega
 simp[this]
theorem XM{n m v:Int}(g:G)(h:n<1\/m<1\/v<0):∃g',QY [.int n,.int m,.int v] g=.raise (3,none) g'/\Keeps [] g g':=by
 refine⟨g,Fh (σ:=[vI n,vI m,vI v,none,none,none,none]) rfl ?_,.refl⟩;show Yp [vI n,vI m,vI v,none,none,none,none] g=_;unfold Yp;by_cases h1:n<1\/m<1
 ·refine BK (FN g ?_ (He ..));by_cases z:n<1
  ·simp[z]
  ·have:=h1.resolve_left z;simp[*]
 ·refine Qh _ g (Yv g ?_ rfl) (BK (FN g ?_ (He ..)))
  ·have a:¬n<1:=λz=>h1 (.inl z);have b:¬m<1:=λz=>h1 (.inr z);simp[a,b]
  ·have:v<0:=by omega
   simp[this]
theorem Vh(h0:0<n)(hn:n<=2)(h1:0<m)(hm:m<=2){v:Int}(hv:0<=v)(hl:v<vl n m ^ (n*m))(g:G):∃M g',QY [.int n,.int m,.int v] g=.ok (.ref M) g'/\Keeps [] g g'/\g'[M]?=some (Z5 (Ch n m v)):=by
 obtain⟨x,st⟩:=Ci h0 hn h1 hm hv g;have hz:v/vl n m ^ (n*m)=0:=Int.ediv_eq_zero_of_lt hv hl;rw[hz]at st;have T:=SV h0 hn h1 hm v;have h4:=sS hn hm;generalize hE:VA n m v (n*m)=E at st;have k1:Keeps [] g (g++[.lst E]):=.push _;have hg1:(g++[GO.lst E])[g.length]?=some (.lst E):=QO _;generalize g++[GO.lst E]=g1 at k1 hg1 st;obtain⟨ls,g2,e2,k2,l2,_,q2⟩:=A0 (src:=Q0 0 n) (ds:=(List.range n).map λs:Nat=>D.int s) (e:=Z7 (Qa 1) (ZO (Qd ZE (Qa 0) (Qa 2))) (ZO (Qd ZE (Qd ZL (Qa 0) (mI 1)) (Qa 2)))) (g:=g1) (σc:=[vR g.length,vI m]) (rows':=Ch n m v) (by simp[Q0]) (λg1 i _=>by by_cases z:i<n<;>simp[Q0,z]) (by rw[T.ln];simp) (λi d r hd hr g3 k3=>by
   have hi:i<n:=by have:=(Uq.mp hr).1;rw[T.ln]at this;exact this
   rw[Uy,List.getElem?_range hi]at hd;unfold Ch at hr;rw[Uy,List.getElem?_range hi,hE]at hr;cases hd;cases hr;have cm:=XI (i:=(m:Int)) (by omega) (by omega);have a:ZO (Qd ZE (Qa 0) (Qa 2)) [vI i,vR g.length,vI m] g3=.ok (some ((i:Int)*m)) g3:=by unfold ZO;rw[Qo (x:=.int i) (y:=.int m) rfl rfl (AZ cm)];rfl
   have b:ZO (Qd ZE (Qd ZL (Qa 0) (mI 1)) (Qa 2)) [vI i,vR g.length,vI m] g3=.ok (some (((i:Int)+1)*m)) g3:=by unfold ZO;rw[Qo (x:=.int ((i:Int)+1)) (y:=.int m) rfl rfl (AZ cm)];rfl
   unfold Z7;rw[show Qa 1 [vI i,vR g.length,vI m] g3=.ok (.ref g.length) g3 from rfl,Res.bind_ok,a,Res.bind_ok,b,Res.bind_ok];unfold Cp;dsimp only;rw[k3.at' _ _ (by simp) hg1])
 have cc:ZN (Zl (Qa 0)) 1 [5,1] (Qn 0) Yw (Z7 (Qa 1) (ZO (Qd ZE (Qa 0) (Qa 2))) (ZO (Qd ZE (Qd ZL (Qa 0) (mI 1)) (Qa 2)))) [vI n,vI m,vI v,vI (vl n m),vI 0,vR g.length,x] g1=.ok (.ref g2.length) (g2++[.lst (ls.map .ref)]):=BM (BL rfl (Ff (by omega))) (by show n<=SZ;exact TJ (Js (by omega))) rfl e2;obtain⟨g4,k4,e4,m4⟩:=gX (.ref g2.length) (Ch n m v) (g2++[.lst (ls.map .ref)]) ⟨true,ls.map .ref,VV (QO _),by rw[Uh,l2],λi y r hy hr=>by rw[Uy]at hy;obtain⟨a,ha,rfl⟩:=US.mp hy;exact⟨true,VV ((Keeps.push (S:=[]) _).at' _ _ (by simp) (q2 i a r ha hr).2.2)⟩⟩ (λr hr=>by rw[T.lm r hr];exact TJ (Js (by omega))) (by rw[T.ln];exact TJ (Js (by omega))) (λr hr d hd=>(T.ok r hr d hd).thing) (Qc (ZN (Zl (Qa 0)) 1 [5,1] (Qn 0) Yw (Z7 (Qa 1) (ZO (Qd ZE (Qa 0) (Qa 2))) (ZO (Qd ZE (Qd ZL (Qa 0) (mI 1)) (Qa 2))))) Qi) [vI n,vI m,vI v,vI (vl n m),vI 0,vR g.length,x] g1 (Qs cc rfl);have gd:=entOk.good h0 h1 T.ln T.lm T.ok;rw[Ud gd]at e4;refine⟨_,g4,QB rfl ?_,((k1.trans k2).trans (.push _)).trans k4,m4 gd⟩;show Yp [vI n,vI m,vI v,none,none,none,none] g=_;refine st (Qh _ g1 (Yv g1 (by simp) rfl) (Q6 e4))
end
def e9(c:Nat):Option (Int×Bool×Int):=if c=0 then none else some (((c-1) / 4:Nat),((c-1) / 2%2==1),((c-1) % 2:Nat))
def T9(v:Nat):Pj:=λp q=>match p.toNat,q.toNat with
 |0,0=>e9 (v%9)|0,1=>e9 (v/9%9)|1,0=>e9 (v/81%9)|1,1=>e9 (v/729%9)|_,_=>none
def iJ(v:Nat):Bool:=match IU (T9 v) 1000 (ask (NJ (XX 2)) (dM 2)) with
 |some s=>s.cs.length<64|none=>true
def f9(j:Nat):Bool:=(List.range 243).all λi=>iJ (243*j+i)
theorem vD(k:Nat)(h:k<6561):iJ k=true:=by
 have q:∀j,f9 j=true->k/243=j->iJ k=true:=λj hj e=>by have:=U3.mp hj (k%243) (Rw.mpr (Nat.mod_lt _ (by omega)));rw[show 243*j+k%243=k by omega]at this;exact this
 have hk:k/243<27:=by omega
 refine q (k/243) ?_ rfl;generalize k/243=j at hk;iterate 27 (rcases j with _|j;decide +kernel)
 omega
theorem vE:∀c<9,Pi (F4 (c:Nat) 2)=e9 c:=by decide +kernel
theorem rO(v:Nat):TR (Ch 2 2 v)=T9 v:=by
 have e:∀k:Nat,Pi (F4 ((v:Int) / vl 2 2^k%vl 2 2) (2:Nat))=e9 (v/9^k%9):=λk=>by rw[<-vE _ (Nat.mod_lt _ (by decide))];congr 2
 funext p q;have e0:=e 0;have e1:=e 1;have e2:=e 2;have e3:=e 3;unfold TR cA T9;generalize p.toNat=a;generalize q.toNat=b;rw[show Ch 2 2 v=[[F4 ((v:Int) / vl 2 2^0%vl 2 2) (2:Nat),F4 ((v:Int) / vl 2 2^1%vl 2 2) (2:Nat)],[F4 ((v:Int) / vl 2 2^2%vl 2 2) (2:Nat),F4 ((v:Int) / vl 2 2^3%vl 2 2) (2:Nat)]] from rfl];rcases a with _|_|a<;>rcases b with _|_|b
 ·exact e0.trans (by simp)
 ·exact e1.trans (by simp)
 ·rfl
 ·exact e2
 ·exact e3
 ·rfl
 ·rfl
 ·rfl
 ·rfl
def QC(n m:Nat):Int:=vl n m ^ (n*m)
theorem NY{n m:Nat}(h0:0<n)(hn:n<=2)(h1:0<m)(hm:m<=2){v:Int}(hv:0<=v)(hl:v<QC n m):Sml (Ch n m v) n m:=by
 refine⟨SV h0 hn h1 hm v,hn,hm,λs hs ok=>?_⟩;by_cases z:n=2/\m=2
 ·obtain⟨rfl,rfl⟩:=z;obtain⟨k,rfl⟩:=T1 hv;have:=vD k (by have:(k:Int)<6561:=hl;omega);unfold iJ at this;unfold Cg at hs;rw[rO]at hs;rw[hs]at this;exact UC this
 ·refine RS (JS ok.cn λc hc=>EE (ok.c c hc)) ?_;obtain rfl|rfl:n=1\/n=2:=by omega
  all_goals obtain rfl|rfl:m=1\/m=2:=by omega
  all_goals first|exact absurd ⟨rfl,rfl⟩ z|decide
theorem N0{n m:Nat}(hn:n<=2)(hm:m<=2){S:Int->Option D->S3}{b:Nat}{body:MS}{g:G}(hs:∀v x d,Qn b d (S v x)=some (S v (some d)))(hb:∀v x,body (S v x) g=.nx (S (v*vl n m) x) g){a:ME}(ha:a (S 1 none) g=.ok (.int ((n*m:Nat):Int)) g):∃x,Jn (Zl a) (Qn b) body (S 1 none) g=.nx (S (QC n m) x) g:=by obtain⟨σ',g',e,⟨x,rfl⟩,rfl⟩:=BJ (t:=Qn b) (body:=body) (lo:=0) (n:=n*m) (σ:=S 1 none) (g:=g) (λi σ' g'=>(∃x,σ'=S (vl n m^i) x)/\g'=g) ⟨⟨none,by rw[Int.pow_zero]⟩,rfl⟩ (λi σ' g' hi hQ=>by obtain⟨⟨x,rfl⟩,rfl⟩:=hQ;exact⟨_,_,g',hs ..,hb ..,⟨_,by rw[Int.pow_succ]⟩,rfl⟩);exact⟨x,(Jb (BL ha (Ff (Uo (sS hn hm) (by decide))))).trans e⟩
theorem vY{n m:Nat}(hn:n<=2)(hm:m<=2):cM (vl n m):=by
 have:=sS hn hm;have:(n:Int)*m<=4:=by exact_mod_cast this
 have:0<=(n:Int)*m:=by exact_mod_cast T3 _
 exact XI (by unfold vl;rw[B7];omega) (by unfold vl;rw[B7];omega)
theorem iK{n m:Nat}(hn:n<=2)(hm:m<=2)(g:G):JZ [.int n,.int m] g=.ok (.int (QC n m)) g:=by obtain⟨x,e⟩:=N0 (S:=λv x=>[vI n,vI m,vI (vl n m),vI v,x]) (b:=4) (body:=XF) (g:=g) hn hm (λ_ _ _=>rfl) (λv x=>QF (Qo (x:=.int v) (y:=.int (vl n m)) rfl rfl (AZ (vY hn hm)))) (a:=Qd ZE (Qa 0) (Qa 1)) (Qo (x:=.int n) (y:=.int m) rfl rfl (Pt hn _));exact QB rfl (Qh [vI n,vI m,vI (vl n m),none,none] g (QF (by rw[Qv (ds:=[.int n,.int m]) (g':=g) rfl];exact La hn hm g)) (Qh [vI n,vI m,vI (vl n m),vI 1,none] g rfl (Qh _ g e rfl)))
theorem Hf{o e:ME}{σ:S3}{g g2:G}{q:Nat}{ds:List D}{y:D}(ho:o σ g=.ok (.ref q) g)(he:e σ g=.ok y g2)(h:g[q]?=some (.lst ds))(h2:g2[q]?=some (.lst ds))(hz:ds.length<SZ):Q2 (Zc o e) σ g=.nx σ (g2.set q (.lst (ds++[y]))):=by refine Zy (d:=.non) ?_;simp[Zc,ho,he,Res.bind,h,h2,hz]
theorem N1{a b cnt q:Nat}{e:ME}{lo:Int}{f:Int->D}{S:Option D->S3}{g:G}(hq:g[q]?=some (.lst []))(hc:cnt<=1000)(hs:∀x d,Qn b d (S x)=some (S (some d)))(hv:∀x,(S x)[a]?=some (some (.ref q)))(he:∀i<cnt,∀g1,Keeps [q] g g1->∃g2,e (S (some (.int (lo+i)))) g1=.ok (f (lo+i)) g2/\Keeps [] g1 g2):∃x g',VE (Q0 lo cnt) (Qn b) (Q2 (Zc (Qa a) e)) (cnt+1) 0 (S none) g=.nx (S x) g'/\Keeps [q] g g'/\g'[q]?=some (.lst ((List.range cnt).map λi:Nat=>f (lo+i))):=by obtain⟨σ',g',e1,⟨x,rfl⟩,k1,q1⟩:=BJ (t:=Qn b) (body:=Q2 (Zc (Qa a) e)) (lo:=lo) (n:=cnt) (σ:=S none) (g:=g) (λi σ' g'=>(∃x,σ'=S x)/\Keeps [q] g g'/\g'[q]?=some (.lst ((List.range i).map λi:Nat=>f (lo+i)))) ⟨⟨_,rfl⟩,.refl,hq⟩ (λi σ' g1 hi hQ=>by obtain⟨⟨x,rfl⟩,k1,q1⟩:=hQ;obtain⟨g2,e2,k2⟩:=he i hi g1 k1;have q2:=k2.at' _ _ (by simp) q1;refine⟨_,_,_,hs ..,Hf (J8 (hv _)) e2 q1 q2 (Js (by rw[Uh,RF];omega)),⟨_,rfl⟩,(k1.trans k2.all).trans (.set _ _),?_⟩;rw[Yt q2,BD,UU];rfl);exact⟨x,g',e1,k1,q1⟩
def Gn(p:Int×Str):D:=.tup [.int p.1,.str p.2]
def oB(n m k width:Nat)(v:Int):Int×Str:=(v,Str.ofString (Vz (Ch n m v) k width))
def EJ(n m k width:Nat)(first many:Int):List (Int×Str):=(List.range ((if QC n m<first+many then QC n m else first+many) - first).toNat).map λi:Nat=>oB n m k width (first+i)
theorem N3{a b:ME}{first many last:Int}{σ:S3}{g:G}(ha:a σ g=.ok (.int first) g)(hb:b σ g=.ok (.int (if last<first+many then last else first+many)) g)(h1:0<=first)(h2:first<=10000)(h3:many<=5)(h4:-1<=many)(h5:0<=last)(h6:last<=10000):Zu a b σ g=.ok (Q0 first ((if last<first+many then last else first+many) - first).toNat) g:=by unfold Zu;rw[ha,Res.bind_ok,hb,Res.bind_ok];dsimp only;rw[Ud ⟨by unfold HE;omega,by unfold HE;split<;>omega⟩]
section
variable{n m k width:Nat}{first many:Int}
theorem Go(h0:0<n)(hn:n<=2)(h1:0<m)(hm:m<=2):0<QC n m/\QC n m<=6561:=by
 obtain rfl|rfl:n=1\/n=2:=by omega
 all_goals obtain rfl|rfl:m=1\/m=2:=by omega
 all_goals exact⟨by decide,by decide⟩
theorem iL(h0:0<n)(hn:n<=2)(h1:0<m)(hm:m<=2)(hk:k<199)(hw:width<=2)(hf:0<=first)(hl:first<QC n m)(ha:-1<=many)(hb:many<=5)(g:G):∃q g',Fe [.int n,.int m,.int first,.int many,.int k,.int width] g=.ok (.ref q) g'/\Keeps [] g g'/\g.length<=q/\g'[q]?=some (.lst ((EJ n m k width first many).map Gn)):=by
 obtain⟨M,g1,e1,k1,_⟩:=Vh h0 hn h1 hm hf hl g;have ll:=Go h0 hn h1 hm;obtain⟨x,g3,e3,k3,q3⟩:=N1 (a:=6) (b:=7) (q:=g1.length) (g:=g1++[.lst []]) (lo:=first) (cnt:=((if QC n m<first+many then QC n m else first+many) - first).toNat) (f:=λv=>Gn (oB n m k width v)) (S:=λx=>[vI n,vI m,vI first,vI many,vI k,vI width,vR g1.length,x]) (e:=QX ZQ (Qc (Qa 7) (Qc (Qp BE (Qc (Qp VT (Qc (Qp QY (Qc (Qa 0) (Qc (Qa 1) (Qc (Qa 7) Qi)))) (Qc (Qa 4) (Qc (Qa 5) Qi)))) Qi)) Qi))) (QO _) (by split<;>omega) (λ_ _=>rfl) (λ_=>rfl) (λi hi g2 k2=>by
  have hi':0<=first+(i:Int)/\first+(i:Int)<QC n m:=by split at hi<;>omega
  obtain⟨M2,g4,e4,k4,q4⟩:=Vh h0 hn h1 hm hi'.1 hi'.2 g2;obtain⟨a,b,g5,e5,k5,h5⟩:=NW (NY h0 hn h1 hm hi'.1 hi'.2) q4 hk hw;refine⟨g5,?_,k4.trans k5⟩;have w1:Qp QY (Qc (Qa 0) (Qc (Qa 1) (Qc (Qa 7) Qi))) [vI n,vI m,vI first,vI many,vI k,vI width,vR g1.length,vI (first+i)] g2=.ok (.ref M2) g4:=by rw[Qv (ds:=[.int n,.int m,.int (first+i)]) (g':=g2) rfl];exact e4
  have w2:Qp VT (Qc (Qp QY (Qc (Qa 0) (Qc (Qa 1) (Qc (Qa 7) Qi)))) (Qc (Qa 4) (Qc (Qa 5) Qi))) [vI n,vI m,vI first,vI many,vI k,vI width,vR g1.length,vI (first+i)] g2=.ok (.tup [.str (Str.ofString a),b]) g5:=by rw[Qv (Qs w1 rfl)];exact e5
  rw[J7,Qs (x:=.int (first+i)) (g1:=g2) rfl (Qs (by rw[Qv (Qs w2 rfl)];exact(Hd (M:=0) g5 h5).1) rfl)];exact Ud (show 2<=SZ by decide))
 refine⟨g1.length,g3,QB rfl ?_,⟨Uo k1.len (Uo (Keeps.push (S:=[]) _).len k3.len),λz o hz e=>k3.at' z o (by have:=Q1 e;have:=k1.len;simp;omega) ((k1.trans (.push _)).at' z o hz e)⟩,k1.len,by rw[q3];unfold EJ;rw[Wj];rfl⟩;show Pb [vI n,vI m,vI first,vI many,vI k,vI width,none,none] g=_;unfold Pb;refine Qh [vI n,vI m,vI first,vI many,vI k,vI width,none,none] g1 (Zy (by rw[Qv (ds:=[.int n,.int m,.int first]) (g':=g) rfl];exact e1)) ?_;refine Qh [vI n,vI m,vI first,vI many,vI k,vI width,vR g1.length,none] (g1++[.lst []]) (QF VY) ?_;refine Qh _ g3 ((Jb (N3 (first:=first) (many:=many) (last:=QC n m) rfl ?_ hf (by omega) hb ha (by omega) (by omega))).trans e3) rfl;refine Qo (x:=.int (first+many)) (y:=.int (QC n m)) rfl (by rw[Qv (ds:=[.int n,.int m]) (g':=g1++[.lst []]) rfl];exact iK hn hm _) rfl
end
def K5:List Str:=["stops","same","shifted","wall","open"]
def dF(f:Str->Int)(l:List Str):List (DK×D):=l.map λw=>(.inr w,.int (f w))
def cS(ps:List (Int×Str))(w:Str):Int:=(ps.filter λp=>p.2==w).length
theorem Hg{f:Str->Int}{w:Str}:∀{l:List Str},w∈l->GR (dF f l) (.inr w)=some (.int (f w))
 |x::l,h=>by
  unfold GR dF;rw[UL,Tk];by_cases e:x=w
  ·subst e;rw[Uv rfl];rfl
  ·rw[Ut (λz=>e (Sum.inr.inj z))];exact Hg ((Uz.mp h).resolve_left (Ne.symm e))
theorem oE{f:Str->Int}{w:Str}{c:Int}{l:List Str}(h:w∈l):Cw (dF f l) (.inr w) (.int c)=dF (λx=>if x=w then c else f x) l:=by unfold Cw dF;rw[Ud (List.any_eq_true.mpr ⟨_,TK.mpr ⟨w,h,rfl⟩,by simp⟩),Wj];refine RN λx _=>?_;by_cases e:x=w<;>simp[e]
theorem dB{f:Str->Int}{w:Str}{l:List Str}(h:w∉l):Cw (dF f l) (.inr w) (.int (f w))=dF f (l++[w]):=by unfold Cw dF;rw[Uf (λz=>by obtain⟨p,hp,e⟩:=List.any_eq_true.mp z;obtain⟨x,hx,rfl⟩:=TK.mp hp;exact h (Sum.inr.inj (UC e) ▸ hx))];simp
theorem vZ:K5.Nodup:=by decide +kernel
theorem rP:∀{l k:List Str},(k++l).Nodup->O2 (dF (λ_=>0) k) (l.map λw=>(w,.int 0))=dF (λ_=>0) (k++l)
 |[],k,_=>by rw[UY];rfl
 |w::l,k,h=>by
  show O2 (Cw (dF (λ_=>0) k) (.inr w) (.int 0)) (l.map λw=>(w,.int 0))=_;have hw:w∉k:=λz=>by have:=Tt.mp h;exact this.2.2 w z w (Ux ..) rfl
  rw[dB (f:=λ_=>0) hw,rP (by simpa using h)];simp
theorem iM(ps:List (Int×Str))(p:Int×Str):cS (ps++[p])=λx=>if x=p.2 then cS ps p.2+1 else cS ps x:=by
 funext x;unfold cS;rw[Rz];by_cases e:x=p.2
 ·subst e;simp
 ·have:(p.2==x)=false:=beq_false_of_ne (Ne.symm e);simp[e,this]
theorem Hh{o k v:ME}{σ:S3}{g:G}{n:Nat}{w:Str}{y:D}{ks:List (DK×D)}{g1:G}(hv:v σ g=.ok y g1)(ho:o σ g1=.ok (.ref n) g1)(hk:k σ g1=.ok (.str w) g1)(h:g1[n]?=some (.dct ks))(hz:ks.length<=1000):GS o k v σ g=.nx σ (g1.set n (.dct (Cw ks (.inr w) y))):=by unfold GS;rw[hv];dsimp only;rw[ho];dsimp only;rw[hk];dsimp only;rw[h];dsimp only;rw[Ud (Js hz)]
theorem V2{g:G}{p:Nat}{ps:List (Int×Str)}(hp:g[p]?=some (.lst (ps.map Gn)))(hw:∀x∈ps,x.2∈K5):∃g',JQ [.ref p] g=.ok (.ref g.length) g'/\Keeps [] g g'/\g'[g.length]?=some (.dct (dF (cS ps) K5)):=by
 have lp:=Q1 hp;have e0:VM (Qc (Qu (.str "stops")) (Qc (mI 0) (Qc (Qu (.str "same")) (Qc (mI 0) (Qc (Qu (.str "shifted")) (Qc (mI 0) (Qc (Qu (.str "wall")) (Qc (mI 0) (Qc (Qu (.str "open")) (Qc (mI 0) Qi)))))))))) [vR p,none,none,none] g=.ok (.ref g.length) (g++[.dct (dF (cS []) K5)]):=by show GT g.length ((K5.flatMap λw=>[D.str w,.int 0])) (g++[.dct []])=_;unfold GT;rw[show Cz (K5.flatMap λw=>[D.str w,.int 0])=some (K5.map λw=>(w,.int 0)) from rfl,QO];dsimp only;rw[Ud (show(K5.map λw=>(w,D.int 0)).length<=15 by show 5<=15;decide),show O2 [] (K5.map λw=>(w,D.int 0))=dF (λ_=>0) ([]++K5) from rP (k:=[]) vZ,Nx];rfl
 obtain⟨σ',g',e1,⟨x2,x3,rfl⟩,k1,q1⟩:=BV (t:=Jp [Qn 2,Qn 3]) (body:=KG) (e:=Qa 0) (σ:=[vR p,vR g.length,none,none]) (g:=g++[.dct (dF (cS []) K5)]) (g1:=g++[.dct (dF (cS []) K5)]) (a:=p) (ds:=ps.map Gn) rfl (by rw[Uj lp];exact hp)
  (λi σ' g'=>(∃x2 x3,σ'=[vR p,vR g.length,x2,x3])/\Keeps [g.length] (g++[.dct (dF (cS []) K5)]) g'/\g'[g.length]?=some (.dct (dF (cS (ps.take i)) K5))) ⟨⟨_,_,rfl⟩,.refl,QO _⟩ (λi σ' g' hQ=>hQ.2.1.at' _ _ (by simp;omega) (by rw[Uj lp];exact hp)) (λi d σ' g' hd hQ=>by
   obtain⟨⟨x2,x3,rfl⟩,k1,q1⟩:=hQ;rw[Uy]at hd;obtain⟨x,hx,rfl⟩:=US.mp hd;have hm:=hw x (Tg hx);refine⟨[vR p,vR g.length,vI x.1,some (.str x.2)],_,_,rfl,Hh (g1:=g') (n:=g.length) (w:=x.2) (y:=.int (cS (ps.take i) x.2+1)) (Qo (x:=.int (cS (ps.take i) x.2)) (y:=.int 1) (Qo (x:=.ref g.length) (y:=.str x.2) rfl rfl ?_) rfl rfl) rfl rfl q1 (by show 5<=1000;decide),⟨_,_,rfl⟩,k1.trans (.set _ _),?_⟩
   ·unfold ZP;dsimp only;rw[q1];dsimp only;rw[Hg hm]
   ·rw[Yt q1,oE hm,Vx hx,iM])
 rw[Uh,Rc]at q1;exact⟨g',QB rfl (Qh [vR p,vR g.length,none,none] _ (QF e0) (Qh _ g' e1 rfl)),⟨Uo (Keeps.push (S:=[]) _).len k1.len,λz o hz e=>k1.at' z o (by have:=Q1 e;simp;omega) ((Keeps.push (S:=[]) _).at' z o hz e)⟩,q1⟩
theorem N4(k:Nat)(a:Int)(g:G):Zw (k+1) [.int a,.int a] g=.ok (.bl true) g:=by refine QB rfl ?_;show KH (Zw k) [vI a,vI a] g=_;unfold KH;simp[YF,FU,Ln,P3,isNon,Am,Res.bind]
theorem dC(k:Nat)(a:Str)(g:G):Zw (k+1) [.str a,.str a] g=.ok (.bl true) g:=by refine QB rfl ?_;show KH (Zw k) [some (.str a),some (.str a)] g=_;unfold KH;simp[YF,FU,Ln,P3,isNon,CI]
theorem oF(a b:Bool)(g:G):MK (.bl a) (.bl b) g=.ok (.bl (!(a==b))) g:=rfl
theorem N5{k:Nat}{x y:D}{b:Bool}{xs:List D}{g:G}(hx:QN g x=some (b,xs))(hy:QN g y=some (b,xs))(tx:FU g x=some (if b=true then .list else .tuple))(ty:FU g y=some (if b=true then .list else .tuple))(lx:Zv x g=.ok (.int xs.length) g)(ly:Zv y g=.ok (.int xs.length) g)(hz:xs.length<=1000)(he:∀a∈xs,∀g1,∃g2,Zw k [a,a] g1=.ok (.bl true) g2/\Keeps [] g1 g2):∃g',Zw (k+1) [x,y] g=.ok (.bl true) g'/\Keeps [] g g':=by
 obtain⟨src,s1,s2,s3⟩:=gY hx hy rfl;obtain⟨ds,σ',g',e1,k1,d1,_⟩:=Yu (src:=src) (t:=Jp [Qn 0,Qn 1]) (c:=Yw) (e:=Qp (Zw k) (Qc (Qa 0) (Qc (Qa 1) Qi))) (n:=xs.length) (λi σ' g' acc=>Keeps [] g g'/\acc=List.replicate i (.bl true)/\∃u v,σ'=[u,v]) (λi σ' g1 acc hi hQ=>by obtain⟨k1,rfl,u,v,rfl⟩:=hQ;obtain⟨g2,e2,k2⟩:=he xs[i] (Tr hi) g1;refine⟨.tup [xs[i],xs[i]],[some xs[i],some xs[i]],g1,(s3 g1 (k1.seq hx) (k1.seq hy)).2 i _ _ (by simp[hi]) (by simp[hi]),rfl,.inl ⟨.bl true,g2,rfl,by rw[Qv (ds:=[xs[i],xs[i]]) (g':=g1) rfl];exact e2,k1.trans k2,by rw[BN],_,_,rfl⟩⟩) (λσ g1 acc hQ=>(s3 g1 (hQ.1.seq hx) (hQ.1.seq hy)).1) (src.top+1) 0 [none,none] g [] (by omega) (by omega) ⟨.refl,rfl,none,none,rfl⟩;subst d1;have cc:ZN (Lj (Qa 0) (Qa 1)) 2 [] (Jp [Qn 0,Qn 1]) Yw (Qp (Zw k) (Qc (Qa 0) (Qc (Qa 1) Qi))) [some x,some y] g=.ok (.ref g'.length) (g'++[.lst (List.replicate xs.length (.bl true))]):=BM (by show GC x y g=_;exact s1) (by rw[s2];exact TJ (Js hz)) rfl e1;have al:∀j:Nat,FV (List.replicate j (.bl true))=some true:=λj=>by
  induction j with
  |zero=>rfl|succ j ih=>rw[T7];show(FV (List.replicate j (.bl true))).map _=_;rw[ih];rfl
 refine⟨_,QB rfl (YO (FN g ?_ (Qh _ g (Yv g ?_ rfl) (Q6 ?_)))),k1.trans (.push (.lst (List.replicate xs.length (.bl true))))⟩
 ·cases b<;>simp[YF,ty,Ln]
 ·cases b<;>simp[YF,tx,ty,Ln,oF]
 ·show JV _ _ [some x,some y] g=_;rw[Ph,bW,show Qt Zv (Qa 0) [some x,some y] g=.ok (.int xs.length) g from lx];dsimp only;rw[show Qt Zv (Qa 1) [some x,some y] g=.ok (.int xs.length) g from ly];dsimp only;rw[rG,Wt];dsimp only;rw[Ud rfl,ZX cc (R:=.ok (.bl true) (g'++[.lst (List.replicate xs.length (.bl true))])) (by unfold Lo;dsimp only;rw[QO];dsimp only;rw[al])]
theorem Db{p q:Nat}{ps:List (Int×Str)}{g:G}(hp:g[p]?=some (.lst (ps.map Gn)))(hq:g[q]?=some (.lst (ps.map Gn)))(hz:ps.length<=1000):∃g',Zw 6 [.ref p,.ref q] g=.ok (.bl true) g'/\Keeps [] g g':=by
 refine N5 (b:=true) (VV hp) (VV hq) (by simp[FU,hp]) (by simp[FU,hq]) (Fj hp) (Fj hq) (by rw[Uh];exact hz) λa ha g1=>?_;obtain⟨x,_,rfl⟩:=TK.mp ha;refine N5 (b:=false) (xs:=[.int x.1,.str x.2]) rfl rfl rfl rfl rfl rfl (by show 2<=1000;decide) λd hd g2=>?_;rcases Uz.mp hd with rfl|hd
 ·exact⟨g2,N4 ..,.refl⟩
 ·rw[Ur.mp hd];exact⟨g2,dC ..,.refl⟩
theorem N6{g:G}{p:Nat}{ps:List (Int×Str)}(hp:g[p]?=some (.lst (ps.map Gn)))(hz:ps.length<=1000):∃g',CG [.ref p] g=.ok (.ref g.length) g'/\Keeps [] g g'/\g'[g.length]?=some (.dct (dF (cS ps) K5)):=by
 have lp:=Q1 hp;have hp1:(g++[GO.dct []])[p]?=some (.lst (ps.map Gn)):=by rw[Uj lp];exact hp
 have e0:(QX Z6 (Qc (Qu (.str "stops")) (Qc (Qu (.str "same")) (Qc (Qu (.str "shifted")) (Qc (Qu (.str "wall")) (Qc (Qu (.str "open")) Qi)))))) [vR p,vR g.length,none] (g++[.dct []])=.ok (.ref (g++[GO.dct []]).length) (g++[.dct []]++[.lst (K5.map .str)]):=by show Z6 (K5.map .str) (g++[.dct []])=_;unfold Z6;exact Ud (show 5<=SZ by decide)
 have k0:Keeps [] (g++[GO.dct []]) (g++[.dct []]++[.lst (K5.map .str)]):=.push _;have hg:(g++[.dct []]++[GO.lst (K5.map .str)])[(g++[GO.dct []]).length]?=some (.lst (K5.map .str)):=QO _;have hl:(g++[GO.dct []]).length=g.length+1:=by simp
 have hd0:(g++[.dct []]++[GO.lst (K5.map .str)])[g.length]?=some (.dct (dF (cS ps) (K5.take 0))):=k0.at' _ _ (by simp) (QO _);have hp2:=k0.at' _ _ (by simp) hp1;generalize hG:g++[.dct []]++[GO.lst (K5.map .str)]=g0 at e0 k0 hg hd0 hp2;obtain⟨σ',g',e1,⟨x2,rfl⟩,k1,q1⟩:=BV (t:=Qn 2) (body:=Cc) (σ:=[vR p,vR g.length,none]) (ds:=K5.map .str) e0 hg
  (λi σ' g'=>(∃x2,σ'=[vR p,vR g.length,x2])/\Keeps [g.length] g0 g'/\g'[g.length]?=some (.dct (dF (cS ps) (K5.take i)))) ⟨⟨_,rfl⟩,.refl,hd0⟩ (λi σ' g' hQ=>hQ.2.1.at' _ _ (by simp[hl]) hg) (λi d σ' g1 hd hQ=>by
   obtain⟨⟨x2,rfl⟩,k1,q1⟩:=hQ;rw[Uy]at hd;obtain⟨w,hw,rfl⟩:=US.mp hd;have hp3:=k1.at' _ _ (by simp;omega) hp2;obtain⟨ds,σ3,g3,c1,rfl,rfl,_⟩:=Yu (src:=gZ p (ps.map Gn).length) (t:=Qn 0) (c:=Ql (Qd Vp (Qd QZ (Qa 0) (mI 1)) (Qa 1))) (e:=Qa 0) (n:=ps.length) (λi σ' g' acc=>g'=g1/\acc=((ps.take i).filter λp=>p.2==w).map Gn/\∃u,σ'=[u,some (.str w)]) (λi σ' g2 acc hi hQ=>by
    obtain⟨rfl,rfl,u,rfl⟩:=hQ;refine⟨Gn ps[i],[some (Gn ps[i]),some (.str w)],g2,by show(match g2[p]? with|some (.lst es)=>some es[i]? | _=>none)=_;rw[hp3];simp[hi],rfl,?_⟩;have hs:=U9 hi;have t1:Ql (Qd Vp (Qd QZ (Qa 0) (mI 1)) (Qa 1)) [some (Gn ps[i]),some (.str w)] g2=.ok (ps[i].2==w) g2:=rfl;rw[t1];cases hb:ps[i].2==w with
    |true=>exact .inl ⟨Gn ps[i],g2,rfl,rfl,rfl,by rw[hs];generalize ps[i]=q at hb ⊢;simp[hb],_,rfl⟩|false=>exact .inr ⟨rfl,rfl,by rw[hs];generalize ps[i]=q at hb ⊢;simp[hb],_,rfl⟩) (λσ g2 acc hQ=>by
    obtain⟨rfl,_⟩:=hQ;show(match g2[p]? with|some (.lst es)=>some es[ps.length]? | _=>none)=_;rw[hp3];simp) ((ps.map Gn).length+1) 0 [none,some (.str w)] g1 [] (by rw[Uh];omega) (by omega) ⟨rfl,rfl,none,rfl⟩
   rw[Rc]at c1;have cc:Qt Zv (ZN (Zp (Qa 0)) 1 [2] (Qn 0) (Ql (Qd Vp (Qd QZ (Qa 0) (mI 1)) (Qa 1))) (Qa 0)) [vR p,vR g.length,some (.str w)] g3=.ok (.int (cS ps w)) (g3++[.lst ((ps.filter λp=>p.2==w).map Gn)]):=by refine ZX (BM (src:=gZ p (ps.map Gn).length) (by show Vd (.ref p) g3=_;unfold Vd;dsimp only;rw[hp3];rfl) (by show(ps.map Gn).length<=SZ;rw[Uh];exact TJ (Js hz)) rfl c1) ?_;rw[Fj (QO _),Uh];rfl
   have q2:(g3++[GO.lst ((ps.filter λp=>p.2==w).map Gn)])[g.length]?=some (.dct (dF (cS ps) (K5.take i))):=(Keeps.push (S:=[]) _).at' _ _ (by simp) q1;refine⟨[vR p,vR g.length,some (.str w)],_,_,rfl,Hh (n:=g.length) (w:=w) cc rfl rfl q2 (by unfold dF;rw[Uh,Ws];show min i 5<=1000;omega),⟨_,rfl⟩,(k1.trans (Keeps.push _)).trans (.set _ _),?_⟩;rw[Yt q2,Vx hw,dB λz=>?_];have:=vZ;rw[<-BI i K5]at this;exact(Tt.mp this).2.2 w z w (Tg (i:=0) (by rw[List.getElem?_drop];exact hw)) rfl)
 exact⟨g',QB rfl (Qh [vR p,vR g.length,none] _ rfl (Qh _ g' e1 rfl)),⟨by have:=k0.len;have:=k1.len;omega,λz o hz e=>k1.at' z o (by have:=Q1 e;simp;omega) (((Keeps.push (S:=[]) (.dct [])).trans k0).at' z o hz e)⟩,q1⟩
theorem SW(f:Str->Int):∀l:List Str,GU (dF f l)=some l
 |[]=>rfl|w::l=>by show(GU (dF f l)).map (w :: ·)=_;rw[SW f l];rfl
theorem Hi{g:G}{d p:Nat}{ps:List (Int×Str)}(hd:g[d]?=some (.dct (dF (cS ps) K5)))(hp:g[p]?=some (.lst (ps.map Gn)))(hz:ps.length<=1000):∃g',X5 [.ref d,.ref p] g=.ok (.bl true) g'/\Keeps [] g g':=by
 obtain⟨g1,e1,k1,q1⟩:=N6 hp hz;have ld:=Q1 hd;have hd1:=k1.at' _ _ (by simp) hd
 let g2:G:=g1.set g.length (.dfz (dF (cS ps) K5))
 have hd2:g2[d]?=some (.dct (dF (cS ps) K5)):=by show(g1.set g.length _)[d]?=_;rw[Ui (by omega)];exact hd1
 have q2:g2[g.length]?=some (.dfz (dF (cS ps) K5)):=Yt q1;have k2:Keeps [] g g2:=⟨by show g.length<=(g1.set g.length _).length;rw[UZ];exact k1.len,λz o hz e=>by show(g1.set g.length _)[z]?=_;rw[Ui (by have:=Q1 e;omega)];exact k1.at' z o hz e⟩;obtain⟨ds,σ',g3,c1,rfl,rfl,_⟩:=Yu (src:=⟨λ_ i=>some (K5.map D.str)[i]?,K5.length⟩) (t:=Qn 0) (c:=Yw) (e:=JV (Qd O4 (Qa 0) (Qa 1)) (Qp (Zw 6) (Qc (Qd ZP (Qa 1) (Qa 0)) (Qc (Qd GV (Qa 2) (Qa 0)) Qi)))) (n:=K5.length) (λi σ' g' acc=>g'=g2/\acc=List.replicate i (.bl true)/\∃u,σ'=[u,vR d,vR g.length]) (λi σ' g' acc hi hQ=>by obtain⟨rfl,rfl,u,rfl⟩:=hQ;have hm:K5[i]∈K5:=Tr hi;refine⟨.str K5[i],[some (.str K5[i]),vR d,vR g.length],g2,by simp[hi],rfl,.inl ⟨.bl true,g2,rfl,?_,rfl,by rw[BN],_,rfl⟩⟩;rw[Ph,Qo (x:=.str K5[i]) (y:=.ref d) (R:=.ok (.bl true) g2) rfl rfl (by unfold O4;dsimp only;rw[hd2];dsimp only;rw[Hg hm];rfl)];dsimp only;rw[Ud rfl,Qv (ds:=[.int (cS ps K5[i]),.int (cS ps K5[i])]) (g':=g2) (Qs (g1:=g2) (Qo (x:=.ref d) (y:=.str K5[i]) rfl rfl (by unfold ZP;dsimp only;rw[hd2];dsimp only;rw[Hg hm])) (Qs (g1:=g2) (Qo (x:=.ref g.length) (y:=.str K5[i]) rfl rfl (by unfold GV;dsimp only;rw[q2];dsimp only;rw[Hg hm])) rfl))];exact N4 ..) (λσ g' acc hQ=>by simp) (K5.length+1) 0 [none,vR d,vR g.length] g2 [] (by omega) (by omega) ⟨rfl,rfl,none,rfl⟩;have cc:ZN (Eu (Qa 2)) 1 [0,2] (Qn 0) Yw (JV (Qd O4 (Qa 0) (Qa 1)) (Qp (Zw 6) (Qc (Qd ZP (Qa 1) (Qa 0)) (Qc (Qd GV (Qa 2) (Qa 0)) Qi)))) [vR d,vR p,vR g.length] g1=.ok (.ref g2.length) (g2++[.lst (List.replicate K5.length (.bl true))]):=by refine BM (src:=⟨λ_ i=>some (K5.map D.str)[i]?,K5.length⟩) (g1:=g2) ?_ (show 5<=SZ by decide) rfl c1;unfold Eu;rw[show Qa 2 [vR d,vR p,vR g.length] g1=.ok (.ref g.length) g1 from rfl,Res.bind_ok];dsimp only;rw[q1];dsimp only;rw[SW]
 refine⟨_,QB rfl (Qh [vR d,vR p,vR g.length] g1 (QF (by rw[Qv (ds:=[.ref p]) (g':=g) rfl];exact e1)) (Qh _ g1 (Yv g1 ?_ rfl) (Q6 (ZX cc (R:=.ok (.bl true) (g2++[.lst (List.replicate K5.length (.bl true))])) (by unfold Lo;dsimp only;rw[QO];rfl))))),k2.trans (.push _)⟩;have l5:Qt Nl (Qa 0) [vR d,vR p,vR g.length] g1=.ok (.int 5) g1:=ZX (x:=.ref d) rfl (by unfold Nl;dsimp only;rw[hd1];rfl);rw[LW,Gk,QR (b:=true) (g1:=g1) (ZX (x:=.ref d) (g1:=g1) rfl (by simp[YF,FU,hd1,Ln]))];dsimp only;rw[Uf (by simp),hJ,bW,l5];rfl
theorem CJ{n m v c:Int}{g:G}(h:∃g',Fe [.int n,.int m,.int v,.int c,.int 3,.int 1] g=.raise (3,none) g'/\Keeps [] g g'):∃g',YU [.int n,.int m,.int v,.int c] g=.ok (.bl true) g'/\Keeps [] g g':=by
 obtain⟨g',e,k⟩:=h;have hx:(g'++[GO.exc (3,none)])[g'.length]?=some (.exc (3,none)):=QO _;have tt:∀{cs:List Nat}{σ:S3},σ[4]?=some (some (.ref g'.length))->Qt (ZW [0,1,2,3,4,6,7,9,10] cs) (Qa 4) σ (g'++[.exc (3,none)])=.ok (.bl (decide (3∈cs))) (g'++[.exc (3,none)]):=λ{cs σ} hσ=>ZX (x:=.ref g'.length) (J8 hσ) (by unfold ZW;dsimp only;rw[hx];rfl);refine⟨g'++[.exc (3,none)],QB rfl ?_,k.trans (.push _)⟩;show KI [vI n,vI m,vI v,vI c,none,none] g=_;unfold KI;refine Qh [vI n,vI m,vI v,vI c,some .non,none] g rfl ?_;refine Qh [vI n,vI m,vI v,vI c,vR g'.length,none] (g'++[.exc (3,none)]) ?_ ?_
 ·unfold DN Q2;rw[Qv (ds:=[.int n,.int m,.int v,.int c,.int 3,.int 1]) (g':=g) rfl,e];rfl
 refine Qh _ (g'++[.exc (3,none)]) (Yv _ ?_ rfl) (Q6 ?_)
 ·rw[LW,Gk,QR (tt rfl)];dsimp only;rw[Uf (by decide),Gk,QR (tt rfl)];rfl
 ·unfold Am;rw[tt rfl];rfl
theorem Hj{n m v c:Int}{g:G}(h:∃g',QY [.int n,.int m,.int v] g=.raise (3,none) g'/\Keeps [] g g'):∃g',Fe [.int n,.int m,.int v,.int c,.int 3,.int 1] g=.raise (3,none) g'/\Keeps [] g g':=by obtain⟨g',e,k⟩:=h;refine⟨g',Fh (σ:=[vI n,vI m,vI v,vI c,vI 3,vI 1,none,none]) rfl (BK ?_),k⟩;unfold Q2;rw[Qv (ds:=[.int n,.int m,.int v]) (g':=g) rfl,e];rfl
theorem rQ(rows:List (List D))(k width:Nat):Str.ofString (Vz rows k width)∈K5:=by
 unfold Vz K5
 repeat' split
 all_goals simp
section
variable{n m k width:Nat}{first many:Int}
theorem rR:∀x∈EJ n m k width first many,x.2∈K5:=λx hx=>by obtain⟨i,_,rfl⟩:=TK.mp hx;exact rQ ..
theorem dD(h:many<=5):(EJ n m k width first many).length<=1000:=by unfold EJ;rw[Uh,RF];split<;>omega
theorem iN(h0:0<n)(hn:n<=2)(h1:0<m)(hm:m<=2)(hk:k<199)(hw:width<=2)(hf:0<=first)(hl:first<QC n m)(ha:-1<=many)(hb:many<=5){g:G}{q:Nat}{x6 x8 x9 x10 x11:Option D}(hq:g[q]?=some (.lst ((EJ n m k width first many).map Gn))):
  ∃y10 y11 g',X6 [vI n,vI m,vI first,vI many,vI k,vI width,x6,vR q,x8,x9,x10,x11] g=.nx [vI n,vI m,vI first,vI many,vI k,vI width,x6,vR q,x8,x9,y10,y11] g'/\Keeps [] g g':=by
 obtain⟨f,g1,e1,k1,lf,q1⟩:=iL h0 hn h1 hm hk hw hf hl ha hb g;have hz:=dD (n:=n) (m:=m) (k:=k) (width:=width) (first:=first) hb;have h5:=rR (n:=n) (m:=m) (k:=k) (width:=width) (first:=first) (many:=many);generalize EJ n m k width first many=ps at hq q1 hz h5
 obtain⟨g2,e2,k2⟩:=Db q1 (k1.at' _ _ (by simp) hq) hz;obtain⟨g3,e3,k3,q3⟩:=V2 (k2.at' _ _ (by simp) q1) h5;have k13:Keeps [] g1 g3:=k2.trans k3;obtain⟨g4,e4,k4⟩:=Hi q3 ((k1.trans k13).at' _ _ (by simp) hq) hz;have k14:Keeps [] g1 g4:=k13.trans k4;obtain⟨g5,e5,k5,q5⟩:=V2 (k14.at' _ _ (by simp) q1) h5;have k15:Keeps [] g1 g5:=k14.trans k5;generalize hg6:g5.set g4.length (.dct (Cw (dF (cS ps) K5) (.inr "open") (.int 99)))=g6;have k16:Keeps [] g1 g6:=⟨by rw[<-hg6,UZ];exact k15.len,λz o hz e=>by rw[<-hg6,Ui (by have:=Q1 e;have:=k14.len;omega)];exact k15.at' z o hz e⟩;obtain⟨g7,e7,k7,q7⟩:=V2 (k16.at' _ _ (by simp) q1) h5;have k17:Keeps [] g1 g7:=k16.trans k7;obtain⟨g8,e8,k8⟩:=Hi q7 ((k1.trans k17).at' _ _ (by simp) hq) hz;have k18:Keeps [] g1 g8:=k17.trans k8;have q8:=k18.at' _ _ (by simp) q1;refine⟨some (.ref f),vR g4.length,g8.set f (.lst (ps.map Gn++[.tup [.int 0,.str "open"]])),?_,⟨by rw[UZ];exact Uo k1.len k18.len,λz o hz e=>by rw[Ui (by have:=Q1 e;omega)];exact(k1.trans k18).at' z o hz e⟩⟩;unfold X6;refine Qh [vI n,vI m,vI first,vI many,vI k,vI width,x6,vR q,x8,x9,vR f,x11] g1 (QF (by rw[Qv (ds:=[.int n,.int m,.int first,.int many,.int k,.int width]) (g':=g) rfl];exact e1)) ?_;refine Qh _ g4 (Yv g4 (nQ (g1:=g2) (QR (by rw[Qv (ds:=[.ref f,.ref q]) (g':=g1) rfl];exact e2)) (QR (by rw[Qv (ds:=[.ref g2.length,.ref q]) (Qs (g1:=g3) (by rw[Qv (ds:=[.ref f]) (g':=g2) rfl];exact e3) rfl)];exact e4))) rfl) ?_;refine Qh [vI n,vI m,vI first,vI many,vI k,vI width,x6,vR q,x8,x9,vR f,vR g4.length] g5 (QF (by rw[Qv (ds:=[.ref f]) (g':=g4) rfl];exact e5)) ?_;refine Qh [vI n,vI m,vI first,vI many,vI k,vI width,x6,vR q,x8,x9,vR f,vR g4.length] g6 (by rw[<-hg6];exact Hh (g1:=g5) rfl rfl rfl q5 (by show 5<=1000;decide)) ?_;refine Qh _ g8 (Yv g8 (Pf (QR (by rw[Qv (ds:=[.ref g6.length,.ref q]) (Qs (g1:=g7) (by rw[Qv (ds:=[.ref f]) (g':=g6) rfl];exact e7) rfl)];exact e8))) rfl) ?_;exact Hf (y:=.tup [.int 0,.str "open"]) rfl (by rw[J7,show Qc (mI 0) (Qc (Qu (.str "open")) Qi) [vI n,vI m,vI first,vI many,vI k,vI width,x6,vR q,x8,x9,vR f,vR g4.length] g8=.ok [.int 0,.str "open"] g8 from rfl];exact Ud (show 2<=SZ by decide)) q8 q8 (Js (by rw[Uh];exact hz))
theorem Dc(h0:0<n)(hn:n<=2)(h1:0<m)(hm:m<=2)(hk:k<199)(hw:width<=2)(hf:0<=first)(hl:first<QC n m)(ha:-1<=many)(hb:many<=5)(g:G):∃g',GY [.int n,.int m,.int first,.int many,.int k,.int width,.int (QC n m)] g=.ok (.bl true) g'/\Keeps [] g g':=by
 have ll:=Go h0 hn h1 hm;obtain⟨x,g3,e3,k3,q3⟩:=N1 (a:=7) (b:=8) (q:=g.length) (g:=g++[.lst []]) (lo:=first) (cnt:=((if QC n m<first+many then QC n m else first+many) - first).toNat) (f:=λv=>Gn (oB n m k width v)) (S:=λx=>[vI n,vI m,vI first,vI many,vI k,vI width,vI (QC n m),vR g.length,x,none,none,none]) (e:=QX ZQ (Qc (Qa 8) (Qc (Qp EA (Qc (Qp QY (Qc (Qa 0) (Qc (Qa 1) (Qc (Qa 8) Qi)))) (Qc (Qa 4) (Qc (Qa 5) Qi)))) Qi))) (QO _) (by split<;>omega) (λ_ _=>rfl) (λ_=>rfl) (λi hi g2 k2=>by
  have hi':0<=first+(i:Int)/\first+(i:Int)<QC n m:=by split at hi<;>omega
  obtain⟨M2,g4,e4,k4,q4⟩:=Vh h0 hn h1 hm hi'.1 hi'.2 g2;obtain⟨g5,e5,k5⟩:=Da (NY h0 hn h1 hm hi'.1 hi'.2) q4 hk hw;refine⟨g5,?_,k4.trans k5⟩;have w1:Qp QY (Qc (Qa 0) (Qc (Qa 1) (Qc (Qa 8) Qi))) [vI n,vI m,vI first,vI many,vI k,vI width,vI (QC n m),vR g.length,vI (first+i),none,none,none] g2=.ok (.ref M2) g4:=by rw[Qv (ds:=[.int n,.int m,.int (first+i)]) (g':=g2) rfl];exact e4
  rw[J7,Qs (x:=.int (first+i)) (g1:=g2) rfl (Qs (by rw[Qv (Qs w1 rfl)];exact e5) rfl)];exact Ud (show 2<=SZ by decide))
 have q3:g3[g.length]?=some (.lst ((EJ n m k width first many).map Gn)):=by rw[q3];unfold EJ;rw[Wj];rfl
 obtain⟨σ',g4,e4,⟨x9,x10,x11,rfl⟩,k4⟩:=BJ (t:=Qn 9) (body:=X6) (lo:=0) (n:=2) (σ:=[vI n,vI m,vI first,vI many,vI k,vI width,vI (QC n m),vR g.length,x,none,none,none]) (g:=g3)
  (λi σ' g'=>(∃x9 x10 x11,σ'=[vI n,vI m,vI first,vI many,vI k,vI width,vI (QC n m),vR g.length,x,x9,x10,x11])/\Keeps [] g3 g') ⟨⟨_,_,_,rfl⟩,.refl⟩ (λi σ' g' hi hQ=>by obtain⟨⟨x9,x10,x11,rfl⟩,k4⟩:=hQ;obtain⟨y10,y11,g5,e5,k5⟩:=iN (x6:=some (.int (QC n m))) (x8:=x) (x9:=some (.int (0+i))) (x10:=x10) (x11:=x11) h0 hn h1 hm hk hw hf hl ha hb (k4.at' _ _ (by simp) q3);exact⟨_,_,g5,rfl,e5,⟨_,_,_,rfl⟩,k4.trans k5⟩)
 refine⟨g4,QB rfl ?_,⟨Uo (Keeps.push (S:=[]) _).len (Uo k3.len k4.len),λz o hz e=>k4.at' z o hz (k3.at' z o (by have:=Q1 e;simp;omega) ((Keeps.push (S:=[]) _).at' z o hz e))⟩⟩;show GX [vI n,vI m,vI first,vI many,vI k,vI width,vI (QC n m),none,none,none,none,none] g=_;unfold GX;refine Qh [vI n,vI m,vI first,vI many,vI k,vI width,vI (QC n m),vR g.length,none,none,none,none] (g++[.lst []]) (QF VY) ?_;refine Qh _ g3 ((Jb (N3 (first:=first) (many:=many) (last:=QC n m) rfl (Qo (x:=.int (first+many)) (y:=.int (QC n m)) rfl rfl rfl) hf (by omega) hb ha (by omega) (by omega))).trans e3) ?_;exact Qh _ g4 ((Jb (BL (n:=2) rfl (Ff (by decide)))).trans e4) rfl
end
theorem oH{n m:Nat}(h0:0<n)(hn:n<=2)(h1:0<m)(hm:m<=2){v c:Int}(h:v<0\/QC n m<=v)(g:G):∃g',YU [.int n,.int m,.int v,.int c] g=.ok (.bl true) g'/\Keeps [] g g':=by
 refine CJ (Hj ?_);by_cases z:v<0
 ·exact XM g (.inr (.inr z))
 ·exact HY h0 hn h1 hm (by omega) (h.resolve_left z) (Go h0 hn h1 hm).1 g
theorem law_true(ns:List Int)(hns:ns.length<=63):∃g',Sy [.fl (ns.map D.int)] []=.ok (.bl true) g':=by
 obtain⟨M,m0,m1,e1⟩:=SB ns 0 0 [.lst [.int 0]] rfl (by decide) (by decide);obtain⟨n,hn⟩:=T1 (show 0<=1+M%2 by omega);obtain⟨m,hm⟩:=T1 (show 0<=1+M/2%2 by omega);obtain⟨k,hk⟩:=T1 (show 0<=M/360%13 by omega);obtain⟨width,hw⟩:=T1 (show 0<=M/6120%3 by omega);have n0:0<n:=by omega
 have n2:n<=2:=by omega
 have p0:0<m:=by omega
 have p2:m<=2:=by omega
 have ll:=Go n0 n2 p0 p2;have hg2:(([GO.lst [.int 0]]:G).set 0 (.lst [.int (0+1)]))[0]?=some (.lst [.int 1]):=rfl;generalize ([GO.lst [.int 0]]:G).set 0 (.lst [.int (0+1)])=g2 at e1 hg2;obtain⟨x6,e2⟩:=N0 (S:=λv x=>[some (.fl (ns.map .int)),vR 0,vI M,vI n,vI m,vI v,x,none,none,none]) (b:=6) (body:=Nt) (g:=g2) n2 p2 (λ_ _ _=>rfl) (λv x=>QF (Qo (x:=.int v) (y:=.int (vl n m)) rfl (by simp[nO (XI (i:=2) (by decide) (by decide)),AZ (XI (i:=(m:Int)) (by omega) (by omega)),vl]) (AZ (vY n2 p2)))) (a:=Qd ZE (Qa 3) (Qa 4)) (Qo (x:=.int n) (y:=.int m) rfl rfl (Pt n2 _));obtain⟨M2,_,_,e3⟩:=SB ns 0 1 g2 hg2 (by decide) (by decide);generalize g2.set 0 (.lst [.int (1+1)])=g3 at e3;have a7:∃first g4,Qd QZ (QX Z6 (Qc (Qd ZM (Qp Vv (Qc (Qa 0) (Qc (Qa 1) Qi))) (Qa 5)) (Qc (Qd YW (Qd YW (Qa 5) (mI 1)) (Qd ZM (Qd Yx (Qa 2) (mI 4)) (Qd FI (Qa 5) (mI 5)))) Qi))) (Qd ZM (Qd Yx (Qa 2) (mI 20)) (mI 2)) [some (.fl (ns.map .int)),vR 0,vI M,vI n,vI m,vI (QC n m),x6,none,none,none] g2=.ok (.int first) g4/\0<=first/\first<QC n m:=by
  have mn:0<(if 5<QC n m then 5 else QC n m)/\(if 5<QC n m then 5 else QC n m)<=QC n m:=by split<;>omega
  have l1:QX Z6 (Qc (Qd ZM (Qp Vv (Qc (Qa 0) (Qc (Qa 1) Qi))) (Qa 5)) (Qc (Qd YW (Qd YW (Qa 5) (mI 1)) (Qd ZM (Qd Yx (Qa 2) (mI 4)) (Qd FI (Qa 5) (mI 5)))) Qi)) [some (.fl (ns.map .int)),vR 0,vI M,vI n,vI m,vI (QC n m),x6,none,none,none] g2=.ok (.ref g3.length) (g3++[.lst [.int (M2%QC n m),.int (QC n m-1-M/4 % (if 5<QC n m then 5 else QC n m))]]):=by rw[J7,Qs (x:=.int (M2%QC n m)) (g1:=g3) (Qo (x:=.int M2) (y:=.int (QC n m)) (by rw[Qv (ds:=[.fl (ns.map .int),.ref 0]) (g':=g2) rfl];exact e3) rfl (CH ll.1)) (Qs (x:=.int (QC n m-1-M/4 % (if 5<QC n m then 5 else QC n m))) (g1:=g3) (Qo (x:=.int (QC n m-1)) (y:=.int (M/4 % (if 5<QC n m then 5 else QC n m))) rfl (Qo (x:=.int (M/4)) (y:=.int (if 5<QC n m then 5 else QC n m)) (Qo (x:=.int M) (y:=.int 4) rfl rfl (Fg (by decide) (by decide))) rfl (CH mn.1)) rfl) rfl)];unfold Z6;exact Ud (show 2<=SZ by decide)
  have i1:Qd ZM (Qd Yx (Qa 2) (mI 20)) (mI 2) [some (.fl (ns.map .int)),vR 0,vI M,vI n,vI m,vI (QC n m),x6,none,none,none] (g3++[.lst [.int (M2%QC n m),.int (QC n m-1-M/4 % (if 5<QC n m then 5 else QC n m))]])=.ok (.int (M/20%2)) (g3++[.lst [.int (M2%QC n m),.int (QC n m-1-M/4 % (if 5<QC n m then 5 else QC n m))]]):=Qo (x:=.int (M/20)) (y:=.int 2) (Qo (x:=.int M) (y:=.int 20) rfl rfl (Fg (by decide) (by decide))) rfl (CH (by decide));rcases(show M/20%2=0\/M/20%2=1 by omega) with z|z
  ·exact⟨_,_,Qo l1 i1 (by rw[z];exact Pg (p:=0) (QO _) rfl),RD _ (by omega),Ri _ ll.1⟩
  ·have b1:=RD (M/4) (show(if 5<QC n m then 5 else QC n m)≠0 by omega);have b2:=Ri (M/4) mn.1;exact⟨_,_,Qo l1 i1 (by rw[z];exact Pg (p:=1) (QO _) rfl),by omega,by omega⟩
 obtain⟨first,g4,a7,f0,f1⟩:=a7;obtain⟨g5,e5,_⟩:=Dc (k:=k) (width:=width) (first:=first) (many:=M/40%7-1) n0 n2 p0 p2 (by omega) (by omega) f0 f1 (by omega) (by omega) g4;generalize hS:[some (D.fl (ns.map .int)),vR 0,vI M,vI n,vI m,vI (QC n m),x6,vI first,vI (M/40%7-1)]=S;have l9:QX Z6 (Qc (Qd YW (Qt XY (mI 1)) (Qd ZM (Qd Yx (Qa 2) (mI 7)) (mI 50))) (Qc (Qa 5) (Qc (Qd ZL (Qa 5) (Qd ZM (Qd Yx (Qa 2) (mI 11)) (Qd bK (mI 10) (mI 6)))) Qi))) (S++[none]) g5=.ok (.ref g5.length) (g5++[.lst [.int (-1-M/7%50),.int (QC n m),.int (QC n m+M/11%1000000)]]):=by subst hS;rw[J7,Qs (x:=.int (-1-M/7%50)) (g1:=g5) (Qo (x:=.int (-1)) (y:=.int (M/7%50)) rfl (Qo (x:=.int (M/7)) (y:=.int 50) (Qo (x:=.int M) (y:=.int 7) rfl rfl (Fg (by decide) (by decide))) rfl (CH (by decide))) rfl) (Qs (x:=.int (QC n m)) (g1:=g5) rfl (Qs (x:=.int (QC n m+M/11%1000000)) (g1:=g5) (Qo (x:=.int (QC n m)) (y:=.int (M/11%1000000)) rfl (Qo (x:=.int (M/11)) (y:=.int 1000000) (Qo (x:=.int M) (y:=.int 11) rfl rfl (Fg (by decide) (by decide))) (Qo (x:=.int 10) (y:=.int 6) rfl rfl (by unfold bK;dsimp only;rw[Ud ⟨by decide,by decide,by decide⟩];rfl)) (CH (by decide))) rfl) rfl))];unfold Z6;exact Ud (show 3<=SZ by decide)
 obtain⟨σ',g6,e6,⟨x9,rfl⟩,k6⟩:=BV (t:=Qn 9) (body:=Nu) (σ:=S++[none]) l9 (QO _) (λi σ' g'=>(∃x9,σ'=S++[x9])/\Keeps [] (g5++[.lst [.int (-1-M/7%50),.int (QC n m),.int (QC n m+M/11%1000000)]]) g') ⟨⟨_,rfl⟩,.refl⟩ (λi σ' g' hQ=>hQ.2.at' _ _ (by simp) (QO _)) (λi d σ' g' hd hQ=>by
  obtain⟨⟨x9,rfl⟩,k6⟩:=hQ;have hd':∃v:Int,d=.int v/\(v<0\/QC n m<=v):=by
   have hmem:=Tg hd;rcases Uz.mp hmem with rfl|hmem
   ·exact⟨_,rfl,.inl (by omega)⟩
   rcases Uz.mp hmem with rfl|hmem
   ·exact⟨_,rfl,.inr (RJ _)⟩
   ·rw[Ur.mp hmem];exact⟨_,rfl,.inr (by omega)⟩
  obtain⟨v,rfl,hv⟩:=hd';obtain⟨g7,e7,k7⟩:=oH (c:=M/13%3) n0 n2 p0 p2 hv g';subst hS;refine⟨_,_,g7,rfl,Yv g7 (Pf (QR ?_)) rfl,⟨_,rfl⟩,k6.trans k7⟩;rw[Qv (ds:=[.int n,.int m,.int v,.int (M/13%3)]) (g':=g') (Qs (g1:=g') rfl (Qs (g1:=g') rfl (Qs (g1:=g') rfl (Qs (g1:=g') (Qo (x:=.int (M/13)) (y:=.int 3) (Qo (x:=.int M) (y:=.int 13) rfl rfl (Fg (by decide) (by decide))) rfl (CH (by decide))) rfl))))];exact e7)
 obtain⟨g8,e8,_⟩:=CJ (Hj (c:=1) (XM (n:=M/17%2) (m:=0) (v:=0) g6 (.inr (.inl (by decide)))));obtain⟨g9,e9,_⟩:=CJ (Hj (c:=1) (XM (n:=0) (m:=m) (v:=0) g8 (.inl (by decide))));subst hS;refine⟨g9,QB rfl ?_⟩;show bS [some (.fl (ns.map .int)),none,none,none,none,none,none,none,none,none] []=_;unfold bS;refine Qh [some (.fl (ns.map .int)),vR 0,none,none,none,none,none,none,none,none] [.lst [.int 0]] (QF (by rw[J7];exact Ud (show 1<=SZ by decide))) ?_;refine Qh [some (.fl (ns.map .int)),vR 0,vI M,none,none,none,none,none,none,none] g2 (QF (by rw[Qv (ds:=[.fl (ns.map .int),.ref 0]) (g':=[.lst [.int 0]]) rfl];exact e1)) ?_;refine Qh [some (.fl (ns.map .int)),vR 0,vI M,vI n,vI m,none,none,none,none,none] g2 ?_ ?_
 ·unfold QK;rw[J7,Qs (x:=.int n) (g1:=g2) (Qo (x:=.int 1) (y:=.int (M%2)) rfl (Qo (x:=.int M) (y:=.int 2) rfl rfl (CH (by decide))) (by rw[bX,hn])) (Qs (x:=.int m) (g1:=g2) (Qo (x:=.int 1) (y:=.int (M/2%2)) rfl (Qo (x:=.int (M/2)) (y:=.int 2) (Qo (x:=.int M) (y:=.int 2) rfl rfl (Fg (by decide) (by decide))) rfl (CH (by decide))) (by rw[bX,hm])) rfl)];dsimp only;unfold ZQ;rw[Ud (show [D.int n,.int m].length<=SZ by show 2<=SZ;decide)];rfl
 refine Qh [some (.fl (ns.map .int)),vR 0,vI M,vI n,vI m,vI 1,none,none,none,none] g2 (QF rfl) ?_;refine Qh _ g2 e2 ?_;refine Qh [some (.fl (ns.map .int)),vR 0,vI M,vI n,vI m,vI (QC n m),x6,vI first,none,none] g4 (QF a7) ?_;refine Qh [some (.fl (ns.map .int)),vR 0,vI M,vI n,vI m,vI (QC n m),x6,vI first,vI (M/40%7-1),none] g4 (QF (Qo (x:=.int (M/40%7)) (y:=.int 1) (Qo (x:=.int (M/40)) (y:=.int 7) (Qo (x:=.int M) (y:=.int 40) rfl rfl (Fg (by decide) (by decide))) rfl (CH (by decide))) rfl rfl)) ?_;refine Qh _ g5 (Yv g5 (Pf (QR ?_)) rfl) ?_
 ·rw[Qv (ds:=[.int n,.int m,.int first,.int (M/40%7-1),.int k,.int width,.int (QC n m)]) (g':=g4) (Qs (g1:=g4) rfl (Qs (g1:=g4) rfl (Qs (g1:=g4) rfl (Qs (g1:=g4) rfl (Qs (g1:=g4) (Qo (x:=.int (M/360)) (y:=.int 13) (Qo (x:=.int M) (y:=.int 360) rfl rfl (Fg (by decide) (by decide))) rfl (by rw[CH (by decide),hk])) (Qs (g1:=g4) (Qo (x:=.int (M/6120)) (y:=.int 3) (Qo (x:=.int M) (y:=.int 6120) rfl rfl (Fg (by decide) (by decide))) rfl (by rw[CH (by decide),hw])) (Qs (g1:=g4) rfl rfl)))))))];exact e5
 refine Qh _ g6 e6 (Q6 ?_);rw[Ph,Qv (ds:=[.int (M/17%2),.int 0,.int 0,.int 1]) (g':=g6) (Qs (g1:=g6) (Qo (x:=.int (M/17)) (y:=.int 2) (Qo (x:=.int M) (y:=.int 17) rfl rfl (Fg (by decide) (by decide))) rfl (CH (by decide))) rfl),e8];dsimp only;rw[Ud rfl,Qv (ds:=[.int 0,.int m,.int 0,.int 1]) (g':=g8) rfl];exact e9
end L3
namespace V
open PySem PySem.Spec PyProof.Rows L2 L3
theorem QP{N P:List Str}{sc:Scope}(h1:sc.kind=.function:=by rfl)(h2:sc.isCoroutine=false:=by rfl)(h3:sc.isGenerator=false:=by rfl)(h4:N.Nodup:=by decide +kernel)(h5:N.take P.length=P:=by rfl)(h6:∀x∈P,sc.names.lookup x=some .local\/sc.names.lookup x=some .cell:=by decide +kernel)(h7:∀y∈sc.names,y.2≠.free:=by decide +kernel):FnScope N P sc:=⟨h1,h2,h3,h4,h5,h6,h7⟩
noncomputable def top(i:Nat):Stmt:=PySem.Challenge.pw_tapeproof_k62_page.main.body.getD i (.Pass ⟨0,0,0,0⟩)
abbrev CK:Stmt:=top 11
abbrev Pu:List Str:=["value"]
theorem N7:FnScope Pu ["value"] (Qg CK):=QP
abbrev CL:Stmt:=top 12
abbrev Pv:List Str:=["value","many"]
theorem N8:FnScope Pv ["value","many"] (Qg CL):=QP
abbrev KL:Stmt:=top 17
abbrev N9:List Str:=["way"]
theorem Md:FnScope N9 ["way"] (Qg KL):=QP
abbrev CM:Stmt:=top 18
abbrev Pw:List Str:=["thing","states","signs"]
theorem Oa:FnScope Pw ["thing","states","signs"] (Qg CM):=QP
abbrev Xo:Stmt:=top 19
abbrev EL:List Str:=["rows","states","signs","row"]
theorem JI:FnScope EL ["rows"] (Qg Xo):=QP
abbrev Jh:Stmt:=Zj (top 20) 0
abbrev KM:List Str:=["self","table","rows"]
theorem Kd:FnScope KM ["self","table"] (Qg Jh):=QP
abbrev JU:Stmt:=Zj (top 23) 0
abbrev KN:List Str:=["self","machine","shot"]
theorem Me:FnScope KN ["self","machine","shot"] (Qg JU):=QP
abbrev Ji:Stmt:=Zj (top 23) 1
abbrev EM:List Str:=["self"]
theorem CN:FnScope EM ["self"] (Qg Ji):=QP
abbrev V3:Stmt:=Zj (top 23) 2
abbrev Mf:List Str:=["self","sign"]
theorem Cj:FnScope Mf ["self"] (Qg V3):=QP
abbrev V4:Stmt:=Zj (top 23) 3
abbrev Mg:List Str:=["self","sign"]
theorem HZ:FnScope Mg ["self","sign"] (Qg V4):=QP
abbrev J9:Stmt:=Zj (top 23) 4
abbrev F6:List Str:=["self"]
theorem Fn:FnScope F6 ["self"] (Qg J9):=QP
abbrev XN:Stmt:=Zj (top 23) 5
abbrev Hk:List Str:=["self"]
theorem F7:FnScope Hk ["self"] (Qg XN):=QP
abbrev XQ:Stmt:=Zj (top 23) 6
abbrev Hl:List Str:=["self","entry"]
theorem Ke:FnScope Hl ["self"] (Qg XQ):=QP
abbrev CO:Stmt:=Zj (top 23) 7
abbrev Px:List Str:=["self","steps","done"]
theorem KO:FnScope Px ["self","steps"] (Qg CO):=QP
abbrev KP:Stmt:=Zj (top 23) 8
abbrev Ob:List Str:=["self"]
theorem Mh:FnScope Ob ["self"] (Qg KP):=QP
abbrev CP:Stmt:=top 24
abbrev Py:List Str:=["machine","most","walk","done"]
theorem KQ:FnScope Py ["machine","most"] (Qg CP):=QP
abbrev Mi:Stmt:=top 25
abbrev iO:List Str:=["machine","steps","walk","shots"]
theorem Hm:FnScope iO ["machine","steps"] (Qg Mi):=QP
abbrev Xp:Stmt:=top 29
abbrev EN:List Str:=["shot","low"]
theorem Ia:FnScope EN ["shot","low"] (Qg Xp):=QP
abbrev JJ:Stmt:=top 30
abbrev Ck:List Str:=["shot","high"]
theorem Hn:FnScope Ck ["shot","high"] (Qg JJ):=QP
abbrev V5:Stmt:=top 31
abbrev Mj:List Str:=["begun","ended","low","high"]
theorem Ic:FnScope Mj ["begun","ended","low","high"] (Qg V5):=QP
abbrev Fo:Stmt:=top 33
abbrev Dd:List Str:=["machine","most","met","later","shot"]
theorem V6:FnScope Dd ["machine","most"] (Qg Fo):=QP
abbrev Xa:Stmt:=top 34
abbrev F8:List Str:=["shots","later","ended","least","greatest","found","first","begun"]
theorem QU:FnScope F8 ["shots","later"] (Qg Xa):=QP
abbrev V7:Stmt:=top 35
abbrev Ml:List Str:=["machine","most","shots","later","first"]
theorem JK:FnScope Ml ["machine","most"] (Qg V7):=QP
abbrev Jj:Stmt:=top 37
abbrev EO:List Str:=["states","signs"]
theorem CQ:FnScope EO ["states","signs"] (Qg Jj):=QP
abbrev Xd:Stmt:=top 38
abbrev F9:List Str:=["states","signs","values","many","entry"]
theorem ZK:FnScope F9 ["states","signs"] (Qg Xd):=QP
abbrev CS:Stmt:=top 39
abbrev Pz:List Str:=["value","states","write_and_way","way"]
theorem KR:FnScope Pz ["value","states"] (Qg CS):=QP
abbrev Xq:Stmt:=top 40
abbrev EQ:List Str:=["states","signs","number","values","rest","entries","place"]
theorem ZV:FnScope EQ ["states","signs","number"] (Qg Xq):=QP
abbrev CT:Stmt:=top 43
abbrev PB:List Str:=["machine","context"]
theorem Oc:FnScope PB ["machine","context"] (Qg CT):=QP
abbrev Vi:Stmt:=top 44
abbrev Id:List Str:=["entry","context"]
theorem Ho:FnScope Id ["entry","context"] (Qg Vi):=QP
abbrev V8:Stmt:=top 45
abbrev Mm:List Str:=["entry","context"]
theorem Ie:FnScope Mm ["entry","context"] (Qg V8):=QP
abbrev XR:Stmt:=top 46
abbrev Hq:List Str:=["entry","context","gram","sign","behind"]
theorem Xe:FnScope Hq ["entry","context","gram"] (Qg XR):=QP
abbrev V9:Stmt:=Zj (top 47) 0
abbrev Mn:List Str:=["self"]
theorem Ig:FnScope Mn ["self"] (Qg V9):=QP
abbrev Jk:Stmt:=Zj (top 47) 1
abbrev ER:List Str:=["self","seen"]
theorem CU:FnScope ER ["self","seen"] (Qg Jk):=QP
abbrev KS:Stmt:=Zj (top 47) 2
abbrev Od:List Str:=["self","gram"]
theorem Mo:FnScope Od ["self","gram"] (Qg KS):=QP
abbrev XT:Stmt:=Zj (top 47) 3
abbrev Hr:List Str:=["self","gram"]
theorem Ga:FnScope Hr ["self","gram"] (Qg XT):=QP
abbrev JC:Stmt:=Zj (top 47) 4
abbrev Fp:List Str:=["self","grams","alike"]
theorem Jl:FnScope Fp ["self"] (Qg JC):=QP
abbrev CV:Stmt:=top 48
abbrev PC:List Str:=["things","grams","gram"]
theorem KT:FnScope PC ["things"] (Qg CV):=QP
abbrev YB:Stmt:=Zj (top 49) 1
abbrev B4:List Str:=["self","context"]
theorem KU:FnScope B4 ["self","context"] (Qg YB):=QP
abbrev JD:Stmt:=Zj (top 49) 0
abbrev Fq:List Str:=["self","machine","width","blanks"]
theorem X8:FnScope Fq ["self","machine","width"] (Qg JD):=QP
abbrev Yg:Stmt:=Zj (top 49) 2
abbrev KY:List Str:=["self","way","gram","context"]
theorem Jt:FnScope KY ["self","way","gram"] (Qg Yg):=QP
abbrev YC:Stmt:=Zj (top 49) 3
abbrev B5:List Str:=["self","context","entry","way","seen","gram"]
theorem Za:FnScope B5 ["self"] (Qg YC):=QP
abbrev Jm:Stmt:=Zj (top 49) 4
abbrev ES:List Str:=["self","width"]
theorem CW:FnScope ES ["self","width"] (Qg Jm):=QP
abbrev Fr:Stmt:=top 50
abbrev De:List Str:=["machine","width","most","gathering"]
theorem Hs:FnScope De ["machine","width","most"] (Qg Fr):=QP
abbrev W5:Stmt:=top 56
abbrev Mp:List Str:=["machine","width","wide","wall"]
theorem Vj:FnScope Mp ["machine","width"] (Qg W5):=QP
abbrev Vk:Stmt:=top 57
abbrev Ih:List Str:=["machine","most","width","same","shifted"]
theorem XU:FnScope Ih ["machine","most","width"] (Qg Vk):=QP
abbrev BY:Stmt:=top 58
abbrev iP:List Str:=["machine","most","width","steps","paper"]
theorem Ht:FnScope iP ["machine","most","width"] (Qg BY):=QP
abbrev Fs:Stmt:=top 59
abbrev Df:List Str:=["pair"]
theorem PD:FnScope Df ["pair"] (Qg Fs):=QP
abbrev PF:Stmt:=top 60
abbrev oI:List Str:=["states","signs","first","many","most","width","rows","number"]
theorem Mq:FnScope oI ["states","signs","first","many","most","width"] (Qg PF):=QP
abbrev KZ:Stmt:=top 61
abbrev Oe:List Str:=["rows","counts","number","word"]
theorem Xr:FnScope Oe ["rows"] (Qg KZ):=QP
abbrev Hu:Stmt:=top 63
abbrev dE:List Str:=["_law_script","_law_at","_law_cell","_law_m"]
theorem Ft:FnScope dE ["_law_script","_law_at"] (Qg Hu):=QP
abbrev ET:Stmt:=top 64
abbrev Of:List Str:=["_law_found","_law_due"]
theorem Dg:FnScope Of ["_law_found","_law_due"] (Qg ET):=QP
abbrev K0:Stmt:=top 65
abbrev Og:List Str:=["_law_states","_law_signs","_law_first","_law_many","_law_caught","e"]
theorem Xs:FnScope Og ["_law_states","_law_signs","_law_first","_law_many"] (Qg K0):=QP
abbrev Hv:Stmt:=top 66
abbrev dG:List Str:=["_law_machine","_law_most","_law_width","_law_word_here","_law_thing"]
theorem Fv:FnScope dG ["_law_machine","_law_most","_law_width"] (Qg Hv):=QP
abbrev Ka:Stmt:=top 67
abbrev Hw:List Str:=["_law_rows","_law_counts_here","_law_word_here"]
theorem K6:FnScope Hw ["_law_rows"] (Qg Ka):=QP
abbrev X9:Stmt:=top 68
abbrev FP:List Str:=["_law_found","_law_rows","_law_due"]
theorem EU:FnScope FP ["_law_found","_law_rows"] (Qg X9):=QP
abbrev Hx:Stmt:=top 69
abbrev dH:List Str:=["_law_states","_law_signs","_law_first","_law_many","_law_most","_law_width","_law_last","_law_rows","_law_number","_law_turn","_law_found","_law_counts_here"]
theorem Xu:FnScope dH ["_law_states","_law_signs","_law_first","_law_many","_law_most","_law_width","_law_last"] (Qg Hx):=QP
abbrev SX:Stmt:=top 70
abbrev rT:List Str:=["_law_script","_law_at","_law_m","_law_states","_law_signs","_law_last","_law_k","_law_first","_law_many","_law_odd"]
theorem Vl:FnScope rT ["_law_script"] (Qg SX):=QP
def UF(K:Frag)(mg:Vb)(x:Str)(st:Stmt):Prop:=∃f fd,Fun K x x st f fd/\mg x=some (.ref f)
theorem _root_.L2.Room.m{j k:Nat}{A:Around}(h:Room k A)(e:j<=k:=by omega):Room j A:=h.mono e
def UM(K:Frag)(C:Addr)(x q:Str)(st:Stmt):Prop:=∃f fd,Fun K x q st f fd/\Meth K C x f/\Cls K C
def UI(K:Frag)(mg:Vb)(C:Addr)(q c:Str)(st:Stmt):Prop:=∃f fd,Fun K "__init__" q st f fd/\Mk K C f/\mg c=some (.ref C)
abbrev HB(x q:Str)(st:Stmt)(ps:List Str):Prop:=∀(kV doc pm:Value)(an:Option Addr)(cdv ct:Value)(us:List Value),us.length=ps.length->bindArgs (fnOf x q (ZY st) (ZB st) (Qg st) .none kV doc pm an cdv ct) ⟨us,[]⟩=pure (ps.zip us)
section
variable{P:Program}{w:World}{K:Frag}{mg:Vb}{base:Heap}{ca:Nat->Addr}{x q c:Str}{st:Stmt}{N ps:List Str}{k n j C:Nat}{m:MS}
abbrev HP(P:Program)(w:World)(K:Frag)(mg:Vb)(base:Heap)(ca:Nat->Addr)(q:Str)(st:Stmt)(N:List Str)(k:Nat)(m:MS):Prop:=∀(f:Addr)(cdv:Value)(A:Around)(outer:List Env)(s:Shared)(H:Hp)(E:XK),Room k (A.deeper (envOfC q (Qg st) s.heap.objs.size f cdv))->Cq ca (E2 (Ms P w ca) P w K mg base N q (Qg st) f cdv A outer s H E) (ZB st) m
theorem Zn(u:UF K mg x st)(S:FnScope N ps (Qg st))(h:HP P w K mg base ca x st N k m)(hj:ps.length=j:=by rfl)(hn:N.length-ps.length=n:=by rfl)(hb:HB x x st ps:=by intro _ _ _ _ _ _ us hl;first|(obtain⟨_,rfl⟩:=L3.len1 hl;rfl)|(obtain⟨_,_,rfl⟩:=L3.len2 hl;rfl)|(obtain⟨_,_,_,rfl⟩:=L3.len3 hl;rfl)|(obtain⟨_,_,_,_,rfl⟩:=L3.len4 hl;rfl)|(obtain⟨_,_,_,_,_,_,rfl⟩:=L3.len6 hl;rfl)|(obtain⟨_,_,_,_,_,_,_,rfl⟩:=L3.len7 hl;rfl)):FnH P w K mg base ca x (k+1) j (QT j n m):=by obtain⟨f,fd,F,hm⟩:=u;exact⟨⟨f,fd,ps,MV F S hj hn (h f),hm,F.kp,F.binds hb⟩,Ee _ _ _⟩
theorem Xi(u:UM K (ca C) x q st)(S:FnScope N ps (Qg st))(h:HP P w K mg base ca q st N k m)(hj:ps.length=j:=by rfl)(hn:N.length-ps.length=n:=by rfl)(hb:HB x q st ps:=by intro _ _ _ _ _ _ us hl;first|(obtain⟨_,rfl⟩:=L3.len1 hl;rfl)|(obtain⟨_,_,rfl⟩:=L3.len2 hl;rfl)|(obtain⟨_,_,_,rfl⟩:=L3.len3 hl;rfl)|(obtain⟨_,_,_,_,rfl⟩:=L3.len4 hl;rfl)|(obtain⟨_,_,_,_,_,_,rfl⟩:=L3.len6 hl;rfl)|(obtain⟨_,_,_,_,_,_,_,rfl⟩:=L3.len7 hl;rfl)):MtH P w K mg base ca C x (k+1) j (QT j n m):=by obtain⟨f,fd,F,hm⟩:=u;exact⟨⟨f,fd,ps,MV F S hj hn (h f),hm.1,hm.2,F.binds hb⟩,Ee _ _ _⟩
theorem SY(u:UI K mg (ca C) q c st)(S:FnScope N ps (Qg st))(h:HP P w K mg base ca q st N k m)(hj:ps.length=j:=by rfl)(hn:N.length-ps.length=n:=by rfl)(hb:HB "__init__" q st ps:=by intro _ _ _ _ _ _ us hl;first|(obtain⟨_,rfl⟩:=L3.len1 hl;rfl)|(obtain⟨_,_,rfl⟩:=L3.len2 hl;rfl)|(obtain⟨_,_,_,rfl⟩:=L3.len3 hl;rfl)|(obtain⟨_,_,_,_,rfl⟩:=L3.len4 hl;rfl)|(obtain⟨_,_,_,_,_,_,rfl⟩:=L3.len6 hl;rfl)|(obtain⟨_,_,_,_,_,_,_,rfl⟩:=L3.len7 hl;rfl)):MkH P w K mg base ca C c (k+1) j (QT j n m):=by obtain⟨f,fd,F,hm⟩:=u;exact⟨⟨f,fd,ps,MV F S hj hn (h f),hm.1,hm.2,F.binds hb⟩,Ee _ _ _⟩
end
structure Zk(K:Frag)(mg:Vb)(ca:Nat->Addr):Prop where
 z_ValueError:mg "ValueError"=none
 z_all:mg "all"=none
 z_bool:mg "bool"=none
 z_dict:mg "dict"=none
 z_enumerate:mg "enumerate"=none
 z_int:mg "int"=none
 z_isinstance:mg "isinstance"=none
 z_len:mg "len"=none
 z_list:mg "list"=none
 z_max:mg "max"=none
 z_min:mg "min"=none
 z_range:mg "range"=none
 z_reversed:mg "reversed"=none
 z_sorted:mg "sorted"=none
 z_str:mg "str"=none
 z_tuple:mg "tuple"=none
 z_zip:mg "zip"=none
 g_BLANK:∃k,mg "BLANK"=some (.int 0 k)
 g_FIRST_SHOT:∃u v,mg "FIRST_SHOT"=some u/\L2.RelV v u/\∀μ H,Den K μ H v (.tup [(.int 0),(.int 0),(.tup [])])
 g_LEFT:∃k,mg "LEFT"=some (.str "l" k)
 g_MOST_CONTEXTS:∃k,mg "MOST_CONTEXTS"=some (.int 200 k)
 g_NEVER:∃k,mg "NEVER"=some (.str "never" k)
 g_RIGHT:∃k,mg "RIGHT"=some (.str "r" k)
 g_SAME:∃k,mg "SAME"=some (.str "same" k)
 g_SHIFTED:∃k,mg "SHIFTED"=some (.str "shifted" k)
 g_STOPS:∃k,mg "STOPS"=some (.str "stops" k)
 g_UNKNOWN:∃k,mg "UNKNOWN"=some (.str "open" k)
 g_WALL:∃k,mg "WALL"=some (.str "wall" k)
 t_TapeError:mg "TapeError"=some (.ref (ca 0))/\CatX K ca (ca 0) [0,1,2,3,4,6,7,9,10] []
 x_NoMachine:mg "NoMachine"=some (.ref (ca 1))/\IsX K ca (.ref (ca 1)) [0,1,2,3,4,6,7,9,10] [1]
 x_NoNames:mg "NoNames"=some (.ref (ca 2))/\IsX K ca (.ref (ca 2)) [0,1,2,3,4,6,7,9,10] [2]
 x_NoNumber:mg "NoNumber"=some (.ref (ca 3))/\IsX K ca (.ref (ca 3)) [0,1,2,3,4,6,7,9,10] [3]
 x_NoShape:mg "NoShape"=some (.ref (ca 7))/\IsX K ca (.ref (ca 7)) [0,1,2,3,4,6,7,9,10] [7]
 x_NoShot:mg "NoShot"=some (.ref (ca 4))/\IsX K ca (.ref (ca 4)) [0,1,2,3,4,6,7,9,10] [4]
 x_NoText:mg "NoText"=some (.ref (ca 10))/\IsX K ca (.ref (ca 10)) [0,1,2,3,4,6,7,9,10] [10]
 x_NoWidth:mg "NoWidth"=some (.ref (ca 9))/\IsX K ca (.ref (ca 9)) [0,1,2,3,4,6,7,9,10] [9]
 x_TooLong:mg "TooLong"=some (.ref (ca 6))/\IsX K ca (.ref (ca 6)) [0,1,2,3,4,6,7,9,10] [6]
 x_ValueError:bootBuiltins "ValueError"=some (.type "ValueError")/\IsX K ca (.type "ValueError") [0,1,2,3,4,6,7,9,10] [0,1,2,3,4,6,7,9,10]
 e_NoNumber:RaH K mg ca 3 "NoNumber"
 a_asking:FldOk K ca [15] "asking"
 a_by_seen:FldOk K ca [14] "by_seen"
 a_contexts:FldOk K ca [15] "contexts"
 a_left_marks:FldOk K ca [12] "left_marks"
 a_machine:FldOk K ca [15] "machine"
 a_pending:FldOk K ca [15] "pending"
 a_place:FldOk K ca [12] "place"
 a_right_marks:FldOk K ca [12] "right_marks"
 a_sides:FldOk K ca [15] "sides"
 a_state:FldOk K ca [12] "state"
 a_table:FldOk K ca [11,12] "table"
 u0:UF K mg "is_whole" CK
 u1:UF K mg "is_below" CL
 u2:UF K mg "other_way" KL
 u3:UF K mg "is_entry" CM
 u4:UF K mg "check_rows" Xo
 u5:UI K mg (ca 11) "Machine.__init__" "Machine" Jh
 u6:UI K mg (ca 12) "Walk.__init__" "Walk" JU
 u7:UM K (ca 12) "is_on_mark" "Walk.is_on_mark" Ji
 u8:UM K (ca 12) "entry" "Walk.entry" V3
 u9:UM K (ca 12) "write" "Walk.write" V4
 u10:UM K (ca 12) "go_right" "Walk.go_right" J9
 u11:UM K (ca 12) "go_left" "Walk.go_left" XN
 u12:UM K (ca 12) "stepped" "Walk.stepped" XQ
 u13:UM K (ca 12) "run" "Walk.run" CO
 u14:UM K (ca 12) "shot" "Walk.shot" KP
 u15:UF K mg "stops_at" CP
 u16:UF K mg "trail" Mi
 u17:UF K mg "marks_from" Xp
 u18:UF K mg "marks_up_to" JJ
 u19:UF K mg "is_shifted" V5
 u20:UF K mg "same_of" Fo
 u21:UF K mg "first_shifted" Xa
 u22:UF K mg "shifted_of" V7
 u23:UF K mg "values_of_entry" Jj
 u24:UF K mg "many_machines" Xd
 u25:UF K mg "entry_of" CS
 u26:UF K mg "machine_of" Xq
 u27:UF K mg "entry_at" CT
 u28:UF K mg "gram_behind" Vi
 u29:UF K mg "gram_ahead" V8
 u30:UF K mg "next_context" XR
 u31:UI K mg (ca 14) "Grams.__init__" "Grams" V9
 u32:UM K (ca 14) "beginning" "Grams.beginning" Jk
 u33:UM K (ca 14) "has" "Grams.has" KS
 u34:UM K (ca 14) "put_in" "Grams.put_in" XT
 u35:UM K (ca 14) "in_order" "Grams.in_order" JC
 u36:UF K mg "grams_of" CV
 u37:UM K (ca 15) "ask_for" "Gathering.ask_for" YB
 u38:UI K mg (ca 15) "Gathering.__init__" "Gathering" JD
 u39:UM K (ca 15) "put_gram" "Gathering.put_gram" Yg
 u40:UM K (ca 15) "went_on" "Gathering.went_on" YC
 u41:UM K (ca 15) "paper" "Gathering.paper" Jm
 u42:UF K mg "wall_of" Fr
 u43:UF K mg "first_wall" W5
 u44:UF K mg "first_paper" Vk
 u45:∃f fd,FunD K "shown" "shown" BY 2 f fd/\mg "shown"=some (.ref f)
 u46:UF K mg "word_of" Fs
 u47:UF K mg "page" PF
 u48:UF K mg "counts_of" KZ
 u49:UF K mg "_law_next" Hu
 u50:UF K mg "_law_same" ET
 u51:UF K mg "_law_refused" K0
 u52:UF K mg "_law_word" Hv
 u53:UF K mg "_law_counts" Ka
 u54:UF K mg "_law_counted" X9
 u55:UF K mg "_law_page" Hx
 u56:UF K mg "law" SX
section
seal QD Gg jF Aq HH Cq jH Dj
variable{P:Program}{w:World}{K:Frag}{mg:Vb}{base:Heap}{ca:Nat->Addr}
theorem Oh(Z:Zk K mg ca):FnH P w K mg base ca "is_whole" 1 1 VN:=Zn Z.u0 N7 λ_ _ _ _ _ _ _ hr=>(Qj (QE (Ks (Y2 .int Z.z_isinstance Z.z_int aF (Qb 0)) (Ec (DT (Y2 .bool Z.z_isinstance Z.z_bool Sj (Qb 0)))))))
theorem FQ(Z:Zk K mg ca):FnH P w K mg base ca "is_below" 2 2 Z9:=Zn Z.u1 N8 λ_ _ _ _ _ _ _ hr=>(Qj (QE (Ks (QA (Oh Z) hr.m (Qe (Qb 0) Qm)) (Ec (mE Qk (Qb 0) (Qb 1))))))
theorem Mr(Z:Zk K mg ca):FnH P w K mg base ca "other_way" 1 1 X3:=Zn Z.u2 Md λ_ _ _ _ _ _ _ hr=>(Qj (QE (Kt (X1 hr (Qb 0) (Zd Z.g_RIGHT)) (Zd Z.g_LEFT) (Zd Z.g_RIGHT))))
theorem Oi(Z:Zk K mg ca):FnH P w K mg base ca "is_entry" 3 3 Jy:=Zn Z.u3 Oa λ_ _ _ _ _ _ _ hr=>(Qf (ZF (IJ (Qb 0) Yy) (Qj (QE B0)) QQ)
 (Qf (ZF (Ar (Eb (JW (Zz (Y2 .tuple Z.z_isinstance Z.z_tuple Ej (Qb 0)))) (VF (FF hr (XA Z.z_len (Qb 0)) Qk)))) (Qj (QE B0)) QQ)
 (Qj (QE (Ks (QA (FQ Z) hr.m (Qe (Qw (Qb 0) Qk) (Qe (Qb 2) Qm))) (Ks (uH (Qw (Qb 0) Qk) (Yz (Qe (Zd Z.g_LEFT) (Qe (Zd Z.g_RIGHT) Qm)))) (Ec (QA (FQ Z) hr.m (Qe (Qw (Qb 0) Qk) (Qe (Qb 1) Qm))))))))))
theorem Ii(Z:Zk K mg ca):FnH P w K mg base ca "check_rows" 4 1 Yl:=Zn Z.u4 JI λ_ _ _ _ _ _ _ hr=>(Qf (ZF (X1 hr (XA Z.z_len (Qb 0)) Qk) (Qj Ed) QQ)
 (Qf (QG 1 JI.nd (XA Z.z_len (Qb 0)))
 (Qf (QG 2 JI.nd (XA Z.z_len (Qw (Qb 0) Qk)))
 (Qf (ZF (X1 hr (Qb 2) Qk) (Qj Ed) QQ)
 (Qj (Jr rfl (Yj (Qb 0)) (QW 3 JI.nd) (Qf (ZF (FF hr (XA Z.z_len (Qb 3)) (Qb 2)) (Qj Ed) QQ)
 (Qj (ZF (JW (Zz (D8 rfl Z.z_all (Ve (ZT (Nb:=["thing","states","signs"]) (no:=1) (cap:=[1,2]) (N:=EL) (sc:=Qg Xo) rfl rfl (by decide +kernel)) rfl (Yj (Qb 3)) (λcl C s3 H3 ex=>⟨(QW 0 (show List.Nodup (["thing","states","signs"]:List Str) by decide +kernel)),MW,(QA (Oi Z) hr.m (Qe (Qb 0) (Qe (Qb 1) (Qe (Qb 2) Qm))))⟩))))) (Qj Ed) QQ)))))))))
theorem Gb(Z:Zk K mg ca):MkH P w K mg base ca 11 "Machine" 5 2 ZI:=SY Z.u5 Kd λ_ _ _ _ _ _ _ hr=>(Qf (QG 2 Kd.nd (LB Z.z_tuple (Ve (ZT (Nb:=["row"]) (no:=1) (cap:=[]) (N:=KM) (sc:=Qg Jh) rfl rfl (by decide +kernel)) rfl (Yj (Qb 1)) (λcl C s3 H3 ex=>⟨(QW 0 (show List.Nodup (["row"]:List Str) by decide +kernel)),MW,(LB Z.z_tuple (Qb 0))⟩))))
 (Qf (Zq (QA (Ii Z) hr.m (Qe (Qb 2) Qm)))
 (Qj (Zh (Qb 0) (Qb 2) Z.a_table))))
theorem EV(Z:Zk K mg ca):MkH P w K mg base ca 12 "Walk" 1 3 JP:=SY Z.u6 Me λ_ _ _ _ _ _ _ hr=>(Qf (Zh (Qb 0) (QH (Qb 1) Z.a_table) Z.a_table)
 (Qf (Zh (Qb 0) (Qw (Qb 2) Qk) Z.a_state)
 (Qf (Zh (Qb 0) (Qw (Qb 2) Qk) Z.a_place)
 (Qf (Zh (Qb 0) (Ve (ZT (Nb:=["place","sign","self"]) (no:=2) (cap:=[0]) (N:=KN) (sc:=Qg JU) rfl rfl (by decide +kernel)) rfl (Yj (Qw (Qb 2) Qk)) (λcl C s3 H3 ex=>⟨(Kv rfl (ZG (QW 0 (show List.Nodup (["place","sign","self"]:List Str) by decide +kernel)) (ZG (QW 1 (show List.Nodup (["place","sign","self"]:List Str) by decide +kernel)) Ku))),(MX (GF (Qb 0) (QH (Qb 2) Z.a_place))),(Yz (Qe (Qb 0) (Qe (Qb 1) Qm)))⟩)) Z.a_left_marks)
 (Qj (Zh (Qb 0) (Ve (ZT (Nb:=["place","sign","self"]) (no:=2) (cap:=[0]) (N:=KN) (sc:=Qg JU) rfl rfl (by decide +kernel)) rfl (fZ Z.z_reversed (Qw (Qb 2) Qk)) (λcl C s3 H3 ex=>⟨(Kv rfl (ZG (QW 0 (show List.Nodup (["place","sign","self"]:List Str) by decide +kernel)) (ZG (QW 1 (show List.Nodup (["place","sign","self"]:List Str) by decide +kernel)) Ku))),(MX (D3 (Qb 0) (QH (Qb 2) Z.a_place))),(Yz (Qe (Qb 0) (Qe (Qb 1) Qm)))⟩)) Z.a_right_marks))))))
theorem YQ(Z:Zk K mg ca):MtH P w K mg base ca 12 "is_on_mark" 1 1 Q4:=Xi Z.u7 CN λ_ _ _ _ _ _ _ hr=>(Qj (QE (Ks (uD (XA Z.z_len (QH (Qb 0) Z.a_right_marks)) Qk) (Ec (Au hr (Qw (Qw (QH (Qb 0) Z.a_right_marks) (Kz Qk)) Qk) (QH (Qb 0) Z.a_place))))))
theorem Cl(Z:Zk K mg ca):MtH P w K mg base ca 12 "entry" 2 1 Ym:=Xi Z.u8 Cj λ_ _ _ _ _ _ _ hr=>(Qf (QG 1 Cj.nd (Kt (Zz (Z2 (YQ Z) hr.m (Qb 0))) (Qw (Qw (QH (Qb 0) Z.a_right_marks) (Kz Qk)) Qk) (GJ Z.g_BLANK)))
 (Qj (QE (Qw (Qw (QH (Qb 0) Z.a_table) (QH (Qb 0) Z.a_state)) (Qb 1)))))
theorem Ij(Z:Zk K mg ca):MtH P w K mg base ca 12 "write" 2 2 Xm:=Xi Z.u9 HZ λ_ _ _ _ _ _ _ hr=>(Qf (ZF (Zz (Z2 (YQ Z) hr.m (Qb 0))) (Qj (Zq (Sd (QH (Qb 0) Z.a_right_marks)))) QQ)
 (Qj (ZF (FF hr (Qb 1) (GJ Z.g_BLANK)) (Qj (Zq (Z8 (QH (Qb 0) Z.a_right_marks) (Yz (Qe (QH (Qb 0) Z.a_place) (Qe (Qb 1) Qm)))))) QQ)))
theorem Fw(Z:Zk K mg ca):MtH P w K mg base ca 12 "go_right" 2 1 YJ:=Xi Z.u10 Fn λ_ _ _ _ _ _ _ hr=>(Qf (ZF (Zz (Z2 (YQ Z) hr.m (Qb 0))) (Qj (Zq (Z8 (QH (Qb 0) Z.a_left_marks) (Sd (QH (Qb 0) Z.a_right_marks))))) QQ)
 (Qj (Zh (Qb 0) (JO (QH (Qb 0) Z.a_place) Qk) Z.a_place)))
theorem Gc(Z:Zk K mg ca):MtH P w K mg base ca 12 "go_left" 1 1 Y4:=Xi Z.u11 F7 λ_ _ _ _ _ _ _ hr=>(Qf (Zh (Qb 0) (X0 (QH (Qb 0) Z.a_place) Qk) Z.a_place)
 (Qj (ZF (Ar (Ls (P9 (XA Z.z_len (QH (Qb 0) Z.a_left_marks)) Qk) (Gh (X1 hr (Qw (Qw (QH (Qb 0) Z.a_left_marks) (Kz Qk)) Qk) (QH (Qb 0) Z.a_place))))) (Qj (Zq (Z8 (QH (Qb 0) Z.a_right_marks) (Sd (QH (Qb 0) Z.a_left_marks))))) QQ)))
theorem Kf(Z:Zk K mg ca):MtH P w K mg base ca 12 "stepped" 3 1 QL:=Xi Z.u12 Ke λ_ _ _ _ _ _ _ hr=>(Qf (QG 1 Ke.nd (Z2 (Cl Z) hr.m (Qb 0)))
 (Qf (ZF (IJ (Qb 1) Yy) (Qj (QE B0)) QQ)
 (Qf (Zq (Jw (Ij Z) hr.m (Qb 0) (Qe (Qw (Qb 1) Qk) Qm)))
 (Qf (ZF (X1 hr (Qw (Qb 1) Qk) (Zd Z.g_RIGHT)) (Qj (Zq (Z2 (Fw Z) hr.m (Qb 0)))) (Qj (Zq (Z2 (Gc Z) hr.m (Qb 0)))))
 (Qf (Zh (Qb 0) (Qw (Qb 1) Qk) Z.a_state)
 (Qj (QE B0)))))))
theorem Oj(Z:Zk K mg ca):MtH P w K mg base ca 12 "run" 4 2 CB:=Xi Z.u13 KO λ_ _ _ _ _ _ _ hr=>(Qf (QG 2 KO.nd Qk)
 (Qf (Lw (Ar (Ls (GF (Qb 2) (Qb 1)) (Gh (Zz (Z2 (Kf Z) hr.m (Qb 0)))))) (Qj (QG 2 KO.nd (JO (Qb 2) Qk))))
 (Qj (QE (Qb 2)))))
theorem EW(Z:Zk K mg ca):MtH P w K mg base ca 12 "shot" 1 1 X4:=Xi Z.u14 Mh λ_ _ _ _ _ _ _ hr=>(Qj (QE (Yz (Qe (QH (Qb 0) Z.a_state) (Qe (QH (Qb 0) Z.a_place) (Qe (JO (LB Z.z_tuple (QH (Qb 0) Z.a_left_marks)) (OW rfl Z.z_tuple Z.z_reversed (QH (Qb 0) Z.a_right_marks))) Qm))))))
theorem Ol(Z:Zk K mg ca):FnH P w K mg base ca "stops_at" 5 2 VQ:=Zn Z.u15 KQ λ_ _ _ _ _ _ _ hr=>(Qf (QG 2 KQ.nd (Ly (EV Z) hr.m (Qe (Qb 0) (Qe (Sl Z.g_FIRST_SHOT) Qm))))
 (Qf (QG 3 KQ.nd (Jw (Oj Z) hr.m (Qb 2) (Qe (Qb 1) Qm)))
 (Qj (QE (Kt (Ar (Ls (D3 (Qb 1) Qk) (Gh (IJ (Z2 (Cl Z) hr.m (Qb 2)) Yy)))) (Qb 3) Yy)))))
theorem Om(Z:Zk K mg ca):FnH P w K mg base ca "trail" 4 2 Bz:=Zn Z.u16 Hm λ_ _ _ _ _ _ _ hr=>(Qf (QG 2 Hm.nd (Ly (EV Z) hr.m (Qe (Qb 0) (Qe (Sl Z.g_FIRST_SHOT) Qm))))
 (Qf (QG 3 Hm.nd (Xg (Qe (Z2 (EW Z) hr.m (Qb 2)) Qm)))
 (Qf (Lw (Ar (Ls (D2 (XA Z.z_len (Qb 3)) (Qb 1)) (Gh (Zz (Z2 (Kf Z) hr.m (Qb 2)))))) (Qj (Zq (Z8 (Qb 3) (Z2 (EW Z) hr.m (Qb 2))))))
 (Qj (QE (Qb 3))))))
theorem Cm(Z:Zk K mg ca):FnH P w K mg base ca "marks_from" 1 2 Yn:=Zn Z.u17 Ia λ_ _ _ _ _ _ _ hr=>(Qj (QE (Ve (ZT (Nb:=["place","sign","shot","low"]) (no:=2) (cap:=[0,1]) (N:=EN) (sc:=Qg Xp) rfl rfl (by decide +kernel)) rfl (Yj (Qw (Qb 0) Qk)) (λcl C s3 H3 ex=>⟨(Kv rfl (ZG (QW 0 (show List.Nodup (["place","sign","shot","low"]:List Str) by decide +kernel)) (ZG (QW 1 (show List.Nodup (["place","sign","shot","low"]:List Str) by decide +kernel)) Ku))),(MX (D3 (X0 (Qb 0) (Qw (Qb 2) Qk)) (Kz (Qb 3)))),(Yz (Qe (X0 (Qb 0) (Qw (Qb 2) Qk)) (Qe (Qb 1) Qm)))⟩))))
theorem K7(Z:Zk K mg ca):FnH P w K mg base ca "marks_up_to" 1 2 ZU:=Zn Z.u18 Hn λ_ _ _ _ _ _ _ hr=>(Qj (QE (Ve (ZT (Nb:=["place","sign","shot","high"]) (no:=2) (cap:=[0,1]) (N:=Ck) (sc:=Qg JJ) rfl rfl (by decide +kernel)) rfl (Yj (Qw (Qb 0) Qk)) (λcl C s3 H3 ex=>⟨(Kv rfl (ZG (QW 0 (show List.Nodup (["place","sign","shot","high"]:List Str) by decide +kernel)) (ZG (QW 1 (show List.Nodup (["place","sign","shot","high"]:List Str) by decide +kernel)) Ku))),(MX (D2 (X0 (Qb 0) (Qw (Qb 2) Qk)) (Qb 3))),(Yz (Qe (X0 (Qb 0) (Qw (Qb 2) Qk)) (Qe (Qb 1) Qm)))⟩))))
theorem Ik(Z:Zk K mg ca):FnH P w K mg base ca "is_shifted" 2 4 Y5:=Zn Z.u19 Ic λ_ _ _ _ _ _ _ hr=>(Qf (ZF (Ar (Eb (FF hr (Qw (Qb 0) Qk) (Qw (Qb 1) Qk)) (VF (X1 hr (Qw (Qb 0) Qk) (Qw (Qb 1) Qk))))) (Qj (QE B0)) QQ)
 (Qf (ZF (GF (Qw (Qb 0) Qk) (Qw (Qb 1) Qk)) (Qj (QE (Au hr (QA (Cm Z) hr.m (Qe (Qb 0) (Qe (Qb 2) Qm))) (QA (Cm Z) hr.m (Qe (Qb 1) (Qe (Qb 2) Qm)))))) QQ)
 (Qj (QE (Au hr (QA (K7 Z) hr.m (Qe (Qb 0) (Qe (Qb 3) Qm))) (QA (K7 Z) hr.m (Qe (Qb 1) (Qe (Qb 3) Qm))))))))
theorem PH(Z:Zk K mg ca):FnH P w K mg base ca "same_of" 5 2 Vt:=Zn Z.u20 V6 λ_ _ _ _ _ _ _ hr=>(Qf (QG 2 V6.nd (Ep 2))
 (Qf (Jr rfl (aL Z.z_enumerate (QA (Om Z) hr.m (Qe (Qb 0) (Qe (Qb 1) Qm)))) (Kv rfl (ZG (QW 3 V6.nd) (ZG (QW 4 V6.nd) Ku))) (Qf (ZF (mU hr (Qb 4) (Qb 2)) (Qj (QE (Yz (Qe (Zd Z.g_SAME) (Qe (qR hr (Qb 2) (Qb 4)) (Qe (Qb 3) Qm)))))) QQ)
 (Qj (So hr (Qb 2) (Qb 4) (Qb 3)))))
 (Qj (QE Yy))))
theorem Fx(Z:Zk K mg ca):FnH P w K mg base ca "first_shifted" 3 2 YK:=Zn Z.u21 QU λ_ _ _ _ _ _ _ hr=>(Qf (QG 2 QU.nd (Qw (Qb 0) (Qb 1)))
 (Qf (QG 3 QU.nd (Qw (Qb 2) Qk))
 (Qf (QG 4 QU.nd (Qw (Qb 2) Qk))
 (Qf (QG 5 QU.nd Yy)
 (Qf (Jr rfl (bP Z.z_range (X0 (Qb 1) Qk) (Kz Qk)) (QW 6 QU.nd) (Qf (QG 7 QU.nd (Qw (Qb 0) (Qb 6)))
 (Qf (QG 3 QU.nd (LF rfl Z.z_min (Qb 3) (Qw (Qb 7) Qk)))
 (Qf (QG 4 QU.nd (mQ rfl Z.z_max (Qb 4) (Qw (Qb 7) Qk)))
 (Qj (ZF (Zz (QA (Ik Z) hr.m (Qe (Qb 7) (Qe (Qb 2) (Qe (X0 (Qw (Qb 7) Qk) (Qb 3)) (Qe (X0 (Qb 4) (Qw (Qb 7) Qk)) Qm)))))) (Qj (QG 5 QU.nd (Qb 6))) QQ))))))
 (Qj (QE (Qb 5))))))))
theorem Il(Z:Zk K mg ca):FnH P w K mg base ca "shifted_of" 5 2 Y6:=Zn Z.u22 JK λ_ _ _ _ _ _ _ hr=>(Qf (QG 2 JK.nd (QA (Om Z) hr.m (Qe (Qb 0) (Qe (Qb 1) Qm))))
 (Qf (Jr rfl (Ef Z.z_range Qk (XA Z.z_len (Qb 2))) (QW 3 JK.nd) (Qf (QG 4 JK.nd (QA (Fx Z) hr.m (Qe (Qb 2) (Qe (Qb 3) Qm))))
 (Qj (ZF (KA (Qb 4) Yy) (Qj (QE (Yz (Qe (Zd Z.g_SHIFTED) (Qe (Qb 4) (Qe (Qb 3) Qm)))))) QQ))))
 (Qj (QE Yy))))
theorem XV(Z:Zk K mg ca):FnH P w K mg base ca "values_of_entry" 1 2 Z3:=Zn Z.u23 CQ λ_ _ _ _ _ _ _ hr=>(Qj (QE (JO (Xy (Xy Qk (Qb 0)) (Qb 1)) Qk)))
theorem Fy(Z:Zk K mg ca):FnH P w K mg base ca "many_machines" 2 2 JZ:=Zn Z.u24 ZK λ_ _ _ _ _ _ _ hr=>(Qf (QG 2 ZK.nd (QA (XV Z) hr.m (Qe (Qb 0) (Qe (Qb 1) Qm))))
 (Qf (QG 3 ZK.nd Qk)
 (Qf (Jr rfl (Kw Z.z_range (Xy (Qb 0) (Qb 1))) (QW 4 ZK.nd) (Qj (QG 3 ZK.nd (Xy (Qb 3) (Qb 2)))))
 (Qj (QE (Qb 3))))))
theorem On(Z:Zk K mg ca):FnH P w K mg base ca "entry_of" 1 2 VR:=Zn Z.u25 KR λ_ _ _ _ _ _ _ hr=>(Qf (ZF (X1 hr (Qb 0) Qk) (Qj (QE Yy)) QQ)
 (Qf (QG 2 KR.nd (Jx (X0 (Qb 0) Qk) (Qb 1)))
 (Qf (QG 3 KR.nd (Kt (X1 hr (Y1 (Qb 2) Qk) Qk) (Zd Z.g_RIGHT) (Zd Z.g_LEFT)))
 (Qj (QE (Yz (Qe (Jx (Qb 2) Qk) (Qe (Qb 3) (Qe (Y1 (X0 (Qb 0) Qk) (Qb 1)) Qm)))))))))
theorem Vm(Z:Zk K mg ca):FnH P w K mg base ca "machine_of" 7 3 QY:=Zn Z.u26 ZV λ_ _ _ _ _ _ _ hr=>(Qf (ZF (Ar (Eb (GF (Qb 0) Qk) (VF (GF (Qb 1) Qk)))) (Qj (LC Z.e_NoNumber hr.hd (Qe Kr Qm))) QQ)
 (Qf (ZF (GF (Qb 2) Qk) (Qj (LC Z.e_NoNumber hr.hd (Qe Kr Qm))) QQ)
 (Qf (QG 3 ZV.nd (QA (XV Z) hr.m (Qe (Qb 0) (Qe (Qb 1) Qm))))
 (Qf (QG 4 ZV.nd (Qb 2))
 (Qf (QG 5 ZV.nd (Xg Qm))
 (Qf (Jr rfl (Kw Z.z_range (Xy (Qb 0) (Qb 1))) (QW 6 ZV.nd) (Qf (Zq (Z8 (Qb 5) (QA (On Z) hr.m (Qe (Y1 (Qb 4) (Qb 3)) (Qe (Qb 0) Qm)))))
 (Qj (QG 4 ZV.nd (Jx (Qb 4) (Qb 3))))))
 (Qf (ZF (FF hr (Qb 4) Qk) (Qj (LC Z.e_NoNumber hr.hd (Qe Kr Qm))) QQ)
 (Qj (QE (Ly (Gb Z) hr.m (Qe (Ve (ZT (Nb:=["state","entries","signs"]) (no:=1) (cap:=[5,1]) (N:=EQ) (sc:=Qg Xq) rfl rfl (by decide +kernel)) rfl (Kw Z.z_range (Qb 0)) (λcl C s3 H3 ex=>⟨(QW 0 (show List.Nodup (["state","entries","signs"]:List Str) by decide +kernel)),MW,(Bm (Qb 1) (Cs (Xy (Qb 0) (Qb 2))) (Cs (Xy (JO (Qb 0) Qk) (Qb 2))))⟩)) Qm)))))))))))
theorem FR(Z:Zk K mg ca):FnH P w K mg base ca "entry_at" 1 2 XG:=Zn Z.u27 Oc λ_ _ _ _ _ _ _ hr=>(Qj (QE (Qw (Qw (QH (Qb 0) Z.a_table) (Qw (Qb 1) Qk)) (Qw (Qb 1) Qk))))
theorem K8(Z:Zk K mg ca):FnH P w K mg base ca "gram_behind" 1 2 YH:=Zn Z.u28 Ho λ_ _ _ _ _ _ _ hr=>(Qj (QE (Kt (X1 hr (Qw (Qb 0) Qk) (Zd Z.g_RIGHT)) (Qw (Qb 1) Qk) (Qw (Qb 1) Qk))))
theorem Cn(Z:Zk K mg ca):FnH P w K mg base ca "gram_ahead" 1 2 Y7:=Zn Z.u29 Ie λ_ _ _ _ _ _ _ hr=>(Qj (QE (Kt (X1 hr (Qw (Qb 0) Qk) (Zd Z.g_RIGHT)) (Qw (Qb 1) Qk) (Qw (Qb 1) Qk))))
theorem Kg(Z:Zk K mg ca):FnH P w K mg base ca "next_context" 2 3 ZJ:=Zn Z.u30 Xe λ_ _ _ _ _ _ _ hr=>(Qf (QG 3 Xe.nd (Qw (QA (Cn Z) hr.m (Qe (Qb 0) (Qe (Qb 1) Qm))) Qk))
 (Qf (QG 4 Xe.nd (JO (Yz (Qe (Qw (Qb 0) Qk) Qm)) (Bm (QA (K8 Z) hr.m (Qe (Qb 0) (Qe (Qb 1) Qm))) KC (Cs (Kz Qk)))))
 (Qf (ZF (X1 hr (Qw (Qb 0) Qk) (Zd Z.g_RIGHT)) (Qj (QE (Yz (Qe (Qb 4) (Qe (Qw (Qb 0) Qk) (Qe (Qb 3) (Qe (Qb 2) Qm))))))) QQ)
 (Qj (QE (Yz (Qe (Qb 2) (Qe (Qw (Qb 0) Qk) (Qe (Qb 3) (Qe (Qb 4) Qm))))))))))
theorem Im(Z:Zk K mg ca):MkH P w K mg base ca 14 "Grams" 1 1 Xn:=SY Z.u31 Ig λ_ _ _ _ _ _ _ hr=>(Qj (Zh (Qb 0) (Ep 0) Z.a_by_seen))
theorem XW(Z:Zk K mg ca):MtH P w K mg base ca 14 "beginning" 1 2 Zm:=Xi Z.u32 CU λ_ _ _ _ _ _ _ hr=>(Qj (QE (Sr hr (QH (Qb 0) Z.a_by_seen) (Qb 1) (Xg Qm))))
theorem EX(Z:Zk K mg ca):MtH P w K mg base ca 14 "has" 2 2 Yb:=Xi Z.u33 Mo λ_ _ _ _ _ _ _ hr=>(Qj (QE (qY hr (Qb 1) (Jw (XW Z) hr.m (Qb 0) (Qe (Bm (Qb 1) KC (Cs (Kz Qk))) Qm)))))
theorem Kh(Z:Zk K mg ca):MtH P w K mg base ca 14 "put_in" 3 2 Yd:=Xi Z.u34 Ga λ_ _ _ _ _ _ _ hr=>(Qj (ZF (JW (Zz (Jw (EX Z) hr.m (Qb 0) (Qe (Qb 1) Qm)))) (Qj (Zq (Z8 (Nh hr (QH (Qb 0) Z.a_by_seen) (Bm (Qb 1) KC (Cs (Kz Qk))) (Xg Qm)) (Qb 1)))) QQ))
theorem Va(Z:Zk K mg ca):MtH P w K mg base ca 14 "in_order" 1 1 Yq:=Xi Z.u35 Jl λ_ _ _ _ _ _ _ hr=>(Qf (QG 1 Jl.nd (Xg Qm))
 (Qf (Jr rfl (qW (QH (Qb 0) Z.a_by_seen)) (QW 2 Jl.nd) (Qj (Zq (aT (Qb 1) (Qb 2)))))
 (Qj (QE (AK hr Z.z_sorted (Qb 1))))))
theorem FS(Z:Zk K mg ca):FnH P w K mg base ca "grams_of" 4 1 YN:=Zn Z.u36 KT λ_ _ _ _ _ _ _ hr=>(Qf (QG 1 KT.nd (fB (Im Z) hr.m))
 (Qf (Jr rfl (Yj (Qb 0)) (QW 2 KT.nd) (Qj (Zq (Jw (Kh Z) hr.m (Qb 1) (Qe (Qb 2) Qm)))))
 (Qj (QE (Qb 1)))))
theorem Yh(Z:Zk K mg ca):MtH P w K mg base ca 15 "ask_for" 1 2 Ze:=Xi Z.u37 KU λ_ _ _ _ _ _ _ hr=>(Qj (ZF (AG hr (Qb 1) (QH (Qb 0) Z.a_contexts)) (Qf (So hr (QH (Qb 0) Z.a_contexts) (Qb 1) B0)
 (Qj (Zq (Z8 (QH (Qb 0) Z.a_pending) (Qb 1))))) QQ))
theorem EY(Z:Zk K mg ca):MkH P w K mg base ca 15 "Gathering" 5 3 Yr:=SY Z.u38 X8 λ_ _ _ _ _ _ _ hr=>(Qf (QG 3 X8.nd (mX (Yz (Qe (GJ Z.g_BLANK) Qm)) (Qb 2)))
 (Qf (Zh (Qb 0) (Qb 1) Z.a_machine)
 (Qf (Zh (Qb 0) (LL (Xl (Zd Z.g_LEFT) (QA (FS Z) hr.m (Qe (Xg (Qe (Qb 3) Qm)) Qm)) (Xl (Zd Z.g_RIGHT) (QA (FS Z) hr.m (Qe (Xg (Qe (Qb 3) Qm)) Qm)) O3))) Z.a_sides)
 (Qf (Zh (Qb 0) (Ep 1) Z.a_contexts)
 (Qf (Zh (Qb 0) (Xg Qm) Z.a_pending)
 (Qf (Zh (Qb 0) (LL (Xl (Zd Z.g_LEFT) (Ep 0) (Xl (Zd Z.g_RIGHT) (Ep 0) O3))) Z.a_asking)
 (Qj (Zq (Jw (Yh Z) hr.m (Qb 0) (Qe (Yz (Qe (Qb 3) (Qe Qk (Qe (GJ Z.g_BLANK) (Qe (Qb 3) Qm))))) Qm))))))))))
theorem Kj(Z:Zk K mg ca):MtH P w K mg base ca 15 "put_gram" 4 3 Yf:=Xi Z.u39 Jt λ_ _ _ _ _ _ _ hr=>(Qf (ZF (Zz (Jw (EX Z) hr.m (VL (QH (Qb 0) Z.a_sides) (Qb 1)) (Qe (Qb 2) Qm))) (Qj lT) QQ)
 (Qf (Zq (Jw (Kh Z) hr.m (VL (QH (Qb 0) Z.a_sides) (Qb 1)) (Qe (Qb 2) Qm)))
 (Qj (Jr rfl (Yj (Sr hr (VL (QH (Qb 0) Z.a_asking) (Qb 1)) (Bm (Qb 2) KC (Cs (Kz Qk))) (Xg Qm))) (QW 3 Jt.nd) (Qj (Zq (Jw (Yh Z) hr.m (Qb 0) (Qe (QA (Kg Z) hr.m (Qe (QA (FR Z) hr.m (Qe (QH (Qb 0) Z.a_machine) (Qe (Qb 3) Qm))) (Qe (Qb 3) (Qe (Qb 2) Qm)))) Qm))))))))
theorem K9(Z:Zk K mg ca):MtH P w K mg base ca 15 "went_on" 5 1 Zf:=Xi Z.u40 Za λ_ _ _ _ _ _ _ hr=>(Qf (QG 1 Za.nd (Sd (QH (Qb 0) Z.a_pending)))
 (Qf (QG 2 Za.nd (QA (FR Z) hr.m (Qe (QH (Qb 0) Z.a_machine) (Qe (Qb 1) Qm))))
 (Qf (ZF (IJ (Qb 2) Yy) (Qj (QE B0)) QQ)
 (Qf (QG 3 Za.nd (Qw (Qb 2) Qk))
 (Qf (Zq (Jw (Kj Z) hr.m (Qb 0) (Qe (QA (Mr Z) hr.m (Qe (Qb 3) Qm)) (Qe (QA (K8 Z) hr.m (Qe (Qb 2) (Qe (Qb 1) Qm))) Qm))))
 (Qf (QG 4 Za.nd (Bm (QA (Cn Z) hr.m (Qe (Qb 2) (Qe (Qb 1) Qm))) (Cs Qk) KC))
 (Qf (Zq (Z8 (Nh hr (VL (QH (Qb 0) Z.a_asking) (Qb 3)) (Qb 4) (Xg Qm)) (Qb 1)))
 (Qf (Jr rfl (Yj (Jw (XW Z) hr.m (VL (QH (Qb 0) Z.a_sides) (Qb 3)) (Qe (Qb 4) Qm))) (QW 5 Za.nd) (Qj (Zq (Jw (Yh Z) hr.m (Qb 0) (Qe (QA (Kg Z) hr.m (Qe (Qb 2) (Qe (Qb 1) (Qe (Qb 5) Qm)))) Qm)))))
 (Qj (QE B0))))))))))
theorem CY(Z:Zk K mg ca):MtH P w K mg base ca 15 "paper" 2 2 Z4:=Xi Z.u41 CW λ_ _ _ _ _ _ _ hr=>(Qj (QE (Yz (Qe (Zd Z.g_WALL) (Qe (Qb 1) (Qe (Z2 (Va Z) hr.m (VL (QH (Qb 0) Z.a_sides) (Zd Z.g_LEFT))) (Qe (Z2 (Va Z) hr.m (VL (QH (Qb 0) Z.a_sides) (Zd Z.g_RIGHT))) (Qe (AJ hr rfl Z.z_sorted (QH (Qb 0) Z.a_contexts)) Qm))))))))
theorem PJ(Z:Zk K mg ca):FnH P w K mg base ca "wall_of" 7 3 Vu:=Zn Z.u42 Hs λ_ _ _ _ _ _ _ hr=>(Qf (ZF (GF (Qb 1) Qk) (Qj Ed) QQ)
 (Qf (QG 3 Hs.nd (Ly (EY Z) hr.m (Qe (Qb 0) (Qe (Qb 1) Qm))))
 (Qf (Lw (P9 (XA Z.z_len (QH (Qb 3) Z.a_pending)) Qk) (Qj (ZF (Ar (Eb (P9 (bA Z.z_len (QH (Qb 3) Z.a_contexts)) (Qb 2)) (VF (JW (Zz (Z2 (K9 Z) hr.m (Qb 3))))))) (Qj (QE Yy)) QQ)))
 (Qj (QE (Kt (D2 (bA Z.z_len (QH (Qb 3) Z.a_contexts)) (Qb 2)) (Jw (CY Z) hr.m (Qb 3) (Qe (Qb 1) Qm)) Yy))))))
theorem Io(Z:Zk K mg ca):FnH P w K mg base ca "first_wall" 8 2 VS:=Zn Z.u43 Vj λ_ _ _ _ _ _ _ hr=>(Qf (Jr rfl (Ef Z.z_range Qk (JO (Qb 1) Qk)) (QW 2 Vj.nd) (Qf (QG 3 Vj.nd (QA (PJ Z) hr.m (Qe (Qb 0) (Qe (Qb 2) (Qe (GJ Z.g_MOST_CONTEXTS) Qm)))))
 (Qj (ZF (KA (Qb 3) Yy) (Qj (QE (Qb 3))) QQ))))
 (Qj (QE Yy)))
theorem Hy(Z:Zk K mg ca):FnH P w K mg base ca "first_paper" 9 3 JH:=Zn Z.u44 XU λ_ _ _ _ _ _ _ hr=>(Qf (QG 3 XU.nd (QA (PH Z) hr.m (Qe (Qb 0) (Qe (Qb 1) Qm))))
 (Qf (ZF (KA (Qb 3) Yy) (Qj (QE (Qb 3))) QQ)
 (Qf (QG 4 XU.nd (QA (Il Z) hr.m (Qe (Qb 0) (Qe (Qb 1) Qm))))
 (Qf (ZF (KA (Qb 4) Yy) (Qj (QE (Qb 4))) QQ)
 (Qj (QE (QA (Io Z) hr.m (Qe (Qb 0) (Qe (Qb 2) Qm)))))))))
theorem Oo(Z:Zk K mg ca):FnH P w K mg base ca "shown" 10 3 VT:=by
 obtain⟨f,fd,F,hm⟩:=Z.u45;exact⟨⟨f,fd,["machine","most","width"],nI F Ht rfl rfl (λcdv A outer s H E hr=>(Qf (QG 3 Ht.nd (QA (Ol Z) hr.m (Qe (Qb 0) (Qe (Qb 1) Qm))))
 (Qf (ZF (KA (Qb 3) Yy) (Qj (QE (Yz (Qe (Zd Z.g_STOPS) (Qe (Qb 3) Qm))))) QQ)
 (Qf (QG 4 Ht.nd (QA (Hy Z) hr.m (Qe (Qb 0) (Qe (Qb 1) (Qe (Qb 2) Qm)))))
 (Qj (QE (Kt (IJ (Qb 4) Yy) (Yz (Qe (Zd Z.g_UNKNOWN) (Qe Yy Qm))) (Yz (Qe (Zd Z.g_NEVER) (Qe (Qb 4) Qm)))))))))),hm,F.kp,F.binds (ps:=["machine","most","width"]) (λ_ _ _ _ _ _ _ _ us hl=>by obtain⟨_,_,_,rfl⟩:=L3.len3 hl;exact⟨_,rfl,rfl⟩)⟩,Ee _ _ _⟩
theorem PK(Z:Zk K mg ca):FnH P w K mg base ca "word_of" 1 1 BE:=Zn Z.u46 PD λ_ _ _ _ _ _ _ hr=>(Qj (QE (Kt (X1 hr (Qw (Qb 0) Qk) (Zd Z.g_NEVER)) (Qw (Qw (Qb 0) Qk) Qk) (Qw (Qb 0) Qk))))
theorem S0(Z:Zk K mg ca):FnH P w K mg base ca "page" 11 6 Fe:=Zn Z.u47 Mq λ_ _ _ _ _ _ _ hr=>(Qf (Zq (QA (Vm Z) hr.m (Qe (Qb 0) (Qe (Qb 1) (Qe (Qb 2) Qm)))))
 (Qf (QG 6 Mq.nd (Xg Qm))
 (Qf (Jr rfl (Ef Z.z_range (Qb 2) (LF rfl Z.z_min (JO (Qb 2) (Qb 3)) (QA (Fy Z) hr.m (Qe (Qb 0) (Qe (Qb 1) Qm))))) (QW 7 Mq.nd) (Qj (Zq (Z8 (Qb 6) (Yz (Qe (Qb 7) (Qe (QA (PK Z) hr.m (Qe (QA (Oo Z) hr.m (Qe (QA (Vm Z) hr.m (Qe (Qb 0) (Qe (Qb 1) (Qe (Qb 7) Qm)))) (Qe (Qb 4) (Qe (Qb 5) Qm)))) Qm)) Qm)))))))
 (Qj (QE (Qb 6))))))
theorem Kb(Z:Zk K mg ca):FnH P w K mg base ca "counts_of" 1 1 JQ:=Zn Z.u48 Xr λ_ _ _ _ _ _ _ hr=>(Qf (QG 1 Xr.nd (LL (Xl (Zd Z.g_STOPS) Qk (Xl (Zd Z.g_SAME) Qk (Xl (Zd Z.g_SHIFTED) Qk (Xl (Zd Z.g_WALL) Qk (Xl (Zd Z.g_UNKNOWN) Qk O3)))))))
 (Qf (Jr rfl (Yj (Qb 0)) (Kv rfl (ZG (QW 2 Xr.nd) (ZG (QW 3 Xr.nd) Ku))) (Qj (OX (Qb 1) (Qb 3) (JO (VL (Qb 1) (Qb 3)) Qk))))
 (Qj (QE (Qb 1)))))
theorem Lb(Z:Zk K mg ca):FnH P w K mg base ca "_law_next" 1 2 Vv:=Zn Z.u49 Ft λ_ _ _ _ _ _ _ hr=>(Qf (fA (Qb 1) Qk (JO (Qw (Qb 1) Qk) Qk))
 (Qf (QG 2 Ft.nd (Kt (P9 (XA Z.z_len (Qb 0)) Qk) (Qw (Qb 0) (Y1 (Qw (Qb 1) Qk) (XA Z.z_len (Qb 0)))) Qk))
 (Qf (QG 3 Ft.nd (Y1 (Xy (JO (JO (Y1 (Qb 2) Qk) (Xy (Xy (Qw (Qb 1) Qk) (Qw (Qb 1) Qk)) Qk)) Qk) Qk) Qk))
 (Qj (QE (Y1 (Xy (Qb 3) (Qb 3)) Qk))))))
theorem Fz(Z:Zk K mg ca):∀n:Nat,FnH P w K mg base ca "_law_same" (1+n) 2 (Zw n)
 |0=>by obtain⟨f,fd,F,hm⟩:=Z.u50;exact⟨⟨f,fd,["_law_found","_law_due"],fW rfl,hm,F.kp,F.binds (ps:=["_law_found","_law_due"]) (λ_ _ _ _ _ _ us hl=>by obtain⟨_,_,rfl⟩:=L3.len2 hl;rfl)⟩,λ_ _ _=>rfl⟩
 |n+1=>by have ih:=Fz Z n;obtain⟨f,fd,F,hm⟩:=Z.u50;exact⟨⟨f,fd,["_law_found","_law_due"],MV F Dg rfl rfl (λcdv A outer s H E hr=>(Qf (ZF (Ar (Eb (Zz (Y2 .list Z.z_isinstance Z.z_list LD (Qb 1))) (VF (Zz (Y2 .tuple Z.z_isinstance Z.z_tuple Ej (Qb 1)))))) (Qf (ZF (Ar (Eb (FF hr (Y2 .list Z.z_isinstance Z.z_list LD (Qb 0)) (Y2 .list Z.z_isinstance Z.z_list LD (Qb 1))) (VF (FF hr (Y2 .tuple Z.z_isinstance Z.z_tuple Ej (Qb 0)) (Y2 .tuple Z.z_isinstance Z.z_tuple Ej (Qb 1)))))) (Qj (QE B0)) QQ)
 (Qj (QE (Ks (Au hr (XA Z.z_len (Qb 0)) (XA Z.z_len (Qb 1))) (Ec (D8 rfl Z.z_all (Ve (ZT (Nb:=["_law_a","_law_b"]) (no:=2) (cap:=[]) (N:=Of) (sc:=Qg ET) rfl rfl (by decide +kernel)) rfl (qK Z.z_zip (Qb 0) (Qb 1)) (λcl C s3 H3 ex=>⟨(Kv rfl (ZG (QW 0 (show List.Nodup (["_law_a","_law_b"]:List Str) by decide +kernel)) (ZG (QW 1 (show List.Nodup (["_law_a","_law_b"]:List Str) by decide +kernel)) Ku))),MW,(QA ih hr (Qe (Qb 0) (Qe (Qb 1) Qm)))⟩)))))))) QQ)
 (Qf (ZF (IJ (Qb 1) Yy) (Qj (QE (uE (Qb 0) Yy))) QQ)
 (Qf (ZF (Zz (Y2 .str Z.z_isinstance Z.z_str aG (Qb 1))) (Qj (QE (Ks (Y2 .str Z.z_isinstance Z.z_str aG (Qb 0)) (Ec (Au hr (Qb 0) (Qb 1)))))) QQ)
 (Qj (QE (Ks (Y2 .int Z.z_isinstance Z.z_int aF (Qb 0)) (Ks (DT (Y2 .bool Z.z_isinstance Z.z_bool Sj (Qb 0))) (Ec (Au hr (Qb 0) (Qb 1))))))))))),hm,F.kp,F.binds (ps:=["_law_found","_law_due"]) (λ_ _ _ _ _ _ us hl=>by obtain⟨_,_,rfl⟩:=L3.len2 hl;rfl)⟩,Ee _ _ _⟩
theorem Kc(Z:Zk K mg ca):FnH P w K mg base ca "_law_refused" 12 4 YU:=Zn Z.u51 Xs λ_ _ _ _ _ _ _ hr=>(Qf (QG 4 Xs.nd Yy)
 (Qf (fU 5 Xs.nd Z.t_TapeError (Qj (Zq (QA (S0 Z) hr.m (Qe (Qb 0) (Qe (Qb 1) (Qe (Qb 2) (Qe (Qb 3) (Qe Qk (Qe Qk Qm))))))))) (λa=>(Qj (QG 4 Xs.nd (Qb 5)))))
 (Qf (ZF (Ar (Eb (JW (Zz (fP Z.z_isinstance Z.x_NoNumber (Qb 4)))) (VF (JW (Zz (fQ Z.z_isinstance Z.z_ValueError Z.x_ValueError (Qb 4))))))) (Qj (QE B0)) QQ)
 (Qj (QE (DT (bQ Z.z_isinstance (Bw Z.x_NoMachine (Bw Z.x_NoNames (Bw Z.x_NoShape (Bw Z.x_NoShot (Bw Z.x_NoText (Bw Z.x_NoWidth (nJ Z.x_TooLong))))))) (Qb 4))))))))
theorem Dh(Z:Zk K mg ca):FnH P w K mg base ca "_law_word" 11 3 EA:=Zn Z.u52 Fv λ_ _ _ _ _ _ _ hr=>(Qf (qD (QA (Oo Z) hr.m (Qe (Qb 0) (Qe (Qb 1) (Qe (Qb 2) Qm)))) (Kv rfl (ZG (QW 3 Fv.nd) (ZG (QW 4 Fv.nd) Ku))))
 (Qj (QE (Kt (X1 hr (Qb 3) Kr) (Qw (Qb 4) Qk) (Qb 3)))))
theorem Op(Z:Zk K mg ca):FnH P w K mg base ca "_law_counts" 1 1 CG:=Zn Z.u53 K6 λ_ _ _ _ _ _ _ hr=>(Qf (QG 1 K6.nd mP)
 (Qf (Jr rfl (Yj (Xg (Qe Kr (Qe Kr (Qe Kr (Qe Kr (Qe Kr Qm))))))) (QW 2 K6.nd) (Qj (OX (Qb 1) (Qb 2) (XA Z.z_len (Ve (ZT (Nb:=["_law_row","_law_word_here"]) (no:=1) (cap:=[2]) (N:=Hw) (sc:=Qg Ka) rfl rfl (by decide +kernel)) rfl (Yj (Qb 0)) (λcl C s3 H3 ex=>⟨(QW 0 (show List.Nodup (["_law_row","_law_word_here"]:List Str) by decide +kernel)),(MX (X1 hr (Qw (Qb 0) Qk) (Qb 1))),(Qb 0)⟩))))))
 (Qj (QE (Qb 1)))))
theorem EZ(Z:Zk K mg ca):FnH P w K mg base ca "_law_counted" 8 2 X5:=Zn Z.u54 EU λ_ _ _ _ _ _ _ hr=>(Qf (QG 2 EU.nd (QA (Op Z) hr.m (Qe (Qb 1) Qm)))
 (Qf (ZF (Ar (Eb (JW (Zz (Y2 .dict Z.z_isinstance Z.z_dict fV (Qb 0)))) (VF (FF hr (nF Z.z_len (Qb 0)) Qk)))) (Qj (QE B0)) QQ)
 (Qj (QE (D8 rfl Z.z_all (Ve (ZT (Nb:=["_law_word_here","_law_found","_law_due"]) (no:=1) (cap:=[0,2]) (N:=FP) (sc:=Qg X9) rfl rfl (by decide +kernel)) rfl (bN (Qb 2)) (λcl C s3 H3 ex=>⟨(QW 0 (show List.Nodup (["_law_word_here","_law_found","_law_due"]:List Str) by decide +kernel)),MW,(Ks (qZ (Qb 0) (Qb 1)) (Ec (QA (Fz Z 6) hr.m (Qe (VL (Qb 1) (Qb 0)) (Qe (nG (Qb 2) (Qb 0)) Qm)))))⟩)))))))
theorem Di(Z:Zk K mg ca):FnH P w K mg base ca "_law_page" 12 7 GY:=Zn Z.u55 Xu λ_ _ _ _ _ _ _ hr=>(Qf (QG 7 Xu.nd (Xg Qm))
 (Qf (Jr rfl (Ef Z.z_range (Qb 2) (LF rfl Z.z_min (JO (Qb 2) (Qb 3)) (Qb 6))) (QW 8 Xu.nd) (Qj (Zq (Z8 (Qb 7) (Yz (Qe (Qb 8) (Qe (QA (Dh Z) hr.m (Qe (QA (Vm Z) hr.m (Qe (Qb 0) (Qe (Qb 1) (Qe (Qb 8) Qm)))) (Qe (Qb 4) (Qe (Qb 5) Qm)))) Qm)))))))
 (Qf (Jr rfl (Kw Z.z_range Qk) (QW 9 Xu.nd) (Qf (QG 10 Xu.nd (QA (S0 Z) hr.m (Qe (Qb 0) (Qe (Qb 1) (Qe (Qb 2) (Qe (Qb 3) (Qe (Qb 4) (Qe (Qb 5) Qm))))))))
 (Qf (ZF (Ar (Eb (JW (Zz (QA (Fz Z 6) hr.m (Qe (Qb 10) (Qe (Qb 7) Qm))))) (VF (JW (Zz (QA (EZ Z) hr.m (Qe (QA (Kb Z) hr.m (Qe (Qb 10) Qm)) (Qe (Qb 7) Qm)))))))) (Qj (QE B0)) QQ)
 (Qf (QG 11 Xu.nd (QA (Kb Z) hr.m (Qe (Qb 10) Qm)))
 (Qf (OX (Qb 11) Kr Qk)
 (Qf (ZF (JW (Zz (QA (EZ Z) hr.m (Qe (QA (Kb Z) hr.m (Qe (Qb 10) Qm)) (Qe (Qb 7) Qm))))) (Qj (QE B0)) QQ)
 (Qj (Zq (Z8 (Qb 10) (Yz (Qe Qk (Qe Kr Qm))))))))))))
 (Qj (QE B0)))))
theorem oJ(Z:Zk K mg ca){f:Addr}{fd:FuncData}(F:Fun K "law" "law" SX f fd):FnOk P w K mg base (Ms P w ca) 13 f fd ["_law_script"] (OK K ca 1 Sy):=MV F Vl rfl rfl (λcdv A outer s H E hr=>(Qf (QG 1 Vl.nd (Xg (Qe Qk Qm)))
 (Qf (QG 2 Vl.nd (QA (Lb Z) hr.m (Qe (Qb 0) (Qe (Qb 1) Qm))))
 (Qf (rC 3 4 rfl Vl.nd (Qe (JO Qk (Y1 (Qb 2) Qk)) (Qe (JO Qk (Y1 (Jx (Qb 2) Qk) Qk)) Qm)))
 (Qf (QG 5 Vl.nd Qk)
 (Qf (Jr rfl (Kw Z.z_range (Xy (Qb 3) (Qb 4))) (QW 6 Vl.nd) (Qj (QG 5 Vl.nd (Xy (Qb 5) (JO (Xy (Xy Qk (Qb 3)) (Qb 4)) Qk)))))
 (Qf (QG 7 Vl.nd (Qw (Xg (Qe (Y1 (QA (Lb Z) hr.m (Qe (Qb 0) (Qe (Qb 1) Qm))) (Qb 5)) (Qe (X0 (X0 (Qb 5) Qk) (Y1 (Jx (Qb 2) Qk) (LF rfl Z.z_min (Qb 5) Qk))) Qm))) (Y1 (Jx (Qb 2) Qk) Qk)))
 (Qf (QG 8 Vl.nd (X0 (Y1 (Jx (Qb 2) Qk) Qk) Qk))
 (Qf (ZF (JW (Zz (QA (Di Z) hr.m (Qe (Qb 3) (Qe (Qb 4) (Qe (Qb 7) (Qe (Qb 8) (Qe (Y1 (Jx (Qb 2) Qk) Qk) (Qe (Y1 (Jx (Qb 2) Qk) Qk) (Qe (Qb 5) Qm)))))))))) (Qj (QE B0)) QQ)
 (Qf (Jr rfl (Yj (Xg (Qe (X0 (Kz Qk) (Y1 (Jx (Qb 2) Qk) Qk)) (Qe (Qb 5) (Qe (JO (Qb 5) (Y1 (Jx (Qb 2) Qk) (rA Qk Qk))) Qm))))) (QW 9 Vl.nd) (Qj (ZF (JW (Zz (QA (Kc Z) hr.m (Qe (Qb 3) (Qe (Qb 4) (Qe (Qb 9) (Qe (Y1 (Jx (Qb 2) Qk) Qk) Qm))))))) (Qj (QE B0)) QQ)))
 (Qj (QE (Ks (QA (Kc Z) hr.m (Qe (Y1 (Jx (Qb 2) Qk) Qk) (Qe Qk (Qe Qk (Qe Qk Qm))))) (Ec (QA (Kc Z) hr.m (Qe Qk (Qe (Qb 4) (Qe Qk (Qe Qk Qm)))))))))))))))))))
end
def Xf(l:List Nat)(n:Nat):Addr:=l.getD n 0
def FA(K:Frag)(x:Str)(st:Stmt):Prop:=∃(f:Addr)(oc kV dc pm cd ct:Value)(od an:Option Addr)(sl:Array (Option Value)),nsIn K mainGlobals x=some (some (.ref f))/\K.lookup f=some ⟨oc,od,.func (fnOf x x (ZY st) (ZB st) (Qg st) .none kV dc pm an cd ct),sl⟩/\codeIn K cd x=true/\keepIn K (.ref f)=true
theorem fa_mk{K:Frag}{x:Str}{st:Stmt}{f:Addr}{oc kV dc pm cd ct:Value}{od an:Option Addr}{sl:Array (Option Value)}(a:nsIn K mainGlobals x=some (some (.ref f)))(l:K.lookup f=some ⟨oc,od,.func (fnOf x x (ZY st) (ZB st) (Qg st) .none kV dc pm an cd ct),sl⟩)(d:codeIn K cd x=true)(k:keepIn K (.ref f)=true):FA K x st:=⟨f,oc,kV,dc,pm,cd,ct,od,an,sl,a,l,d,k⟩
theorem FA.u{K:Frag}{h:Heap}{mg:Vb}{x:Str}{st:Stmt}(a:FA K x st)(X:K.In h)(G:h.Ns mainGlobals mg):UF K mg x st:=by obtain⟨f,oc,kV,dc,pm,cd,ct,od,an,sl,a,l,d,k⟩:=a;exact⟨f,_,OE l d k,UN X G a⟩
def FM(K:Frag)(C:Addr)(x q:Str)(st:Stmt):Prop:=∃(f:Addr)(oc kV dc pm cd ct:Value)(od an:Option Addr)(sl:Array (Option Value)),findIn K (.ref C) x=some (some (.ref f))/\K.lookup f=some ⟨oc,od,.func (fnOf x q (ZY st) (ZB st) (Qg st) .none kV dc pm an cd ct),sl⟩/\codeIn K cd q=true/\keepIn K (.ref f)=true/\isFn K (.ref f)=true
theorem fm_mk{K:Frag}{C:Addr}{x q:Str}{st:Stmt}{f:Addr}{oc kV dc pm cd ct:Value}{od an:Option Addr}{sl:Array (Option Value)}(a:findIn K (.ref C) x=some (some (.ref f)))(l:K.lookup f=some ⟨oc,od,.func (fnOf x q (ZY st) (ZB st) (Qg st) .none kV dc pm an cd ct),sl⟩)(d:codeIn K cd q=true)(k:keepIn K (.ref f)=true)(i:isFn K (.ref f)=true):FM K C x q st:=⟨f,oc,kV,dc,pm,cd,ct,od,an,sl,a,l,d,k,i⟩
theorem FM.m{K:Frag}{C:Addr}{x q:Str}{st:Stmt}(h:FM K C x q st)(w:OR K C=true):UM K C x q st:=by obtain⟨f,oc,kV,dc,pm,cd,ct,od,an,sl,a,l,d,k,i⟩:=h;exact⟨f,_,OE l d k,⟨a,i,k⟩,aE w⟩
theorem FM.i{K:Frag}{h:Heap}{mg:Vb}{C:Addr}{q cn:Str}{st:Stmt}(u:FM K C "__init__" q st)(X:K.In h)(G:h.Ns mainGlobals mg)(m:makesIn K C=true)(qk:keepIn K (.ref C)=true)(c:nsIn K mainGlobals cn=some (some (.ref C))):UI K mg C q cn st:=by obtain⟨f,oc,kV,dc,pm,cd,ct,od,an,sl,a,l,d,k,i⟩:=u;exact⟨f,_,OE l d k,⟨m,a,i,qk⟩,UN X G c⟩
theorem z_mk{K:Frag}{h:Heap}{mg:Vb}(X:K.In h)(G:h.Ns mainGlobals mg){C0 C1 C2 C3 C4 C6 C7 C9 C10 C11 C12 C14 C15:Addr}{oc57 kV57 dc57 pm57 cd57 ct57:Value}{od57 an57:Option Addr}{sl57:Array (Option Value)}{f57:Addr}{dt57:Addr}{dk57:Tok}{de57:Value}{dd57:Option Addr}{dn57:Nat}{ds57:Array (Option Value)}{og_BLANK:_}{og_FIRST_SHOT:Addr}{og_LEFT:_}{og_MOST_CONTEXTS:_}{og_NEVER:_}{og_RIGHT:_}{og_SAME:_}{og_SHIFTED:_}{og_STOPS:_}{og_UNKNOWN:_}{og_WALL:_}(c0:nsIn K mainGlobals "TapeError"=some (some (.ref C0)))(c1:nsIn K mainGlobals "NoMachine"=some (some (.ref C1)))(c2:nsIn K mainGlobals "NoNames"=some (some (.ref C2)))(c3:nsIn K mainGlobals "NoNumber"=some (some (.ref C3)))(c4:nsIn K mainGlobals "NoShot"=some (some (.ref C4)))(c6:nsIn K mainGlobals "TooLong"=some (some (.ref C6)))(c7:nsIn K mainGlobals "NoShape"=some (some (.ref C7)))(c9:nsIn K mainGlobals "NoWidth"=some (some (.ref C9)))(c10:nsIn K mainGlobals "NoText"=some (some (.ref C10)))(c11:nsIn K mainGlobals "Machine"=some (some (.ref C11)))(c12:nsIn K mainGlobals "Walk"=some (some (.ref C12)))(c14:nsIn K mainGlobals "Grams"=some (some (.ref C14)))(c15:nsIn K mainGlobals "Gathering"=some (some (.ref C15)))(a1:FA K "is_whole" CK)(a2:FA K "is_below" CL)(a3:FA K "other_way" KL)(a4:FA K "is_entry" CM)(a5:FA K "check_rows" Xo)(a6:FA K "stops_at" CP)(a7:FA K "trail" Mi)(a8:FA K "marks_from" Xp)(a9:FA K "marks_up_to" JJ)(a10:FA K "is_shifted" V5)(a11:FA K "same_of" Fo)(a12:FA K "first_shifted" Xa)(a13:FA K "shifted_of" V7)(a14:FA K "values_of_entry" Jj)(a15:FA K "many_machines" Xd)(a16:FA K "entry_of" CS)(a17:FA K "machine_of" Xq)(a18:FA K "entry_at" CT)(a19:FA K "gram_behind" Vi)(a20:FA K "gram_ahead" V8)(a21:FA K "next_context" XR)(a22:FA K "grams_of" CV)(a23:FA K "wall_of" Fr)(a24:FA K "first_wall" W5)(a25:FA K "first_paper" Vk)(a26:FA K "word_of" Fs)(a27:FA K "page" PF)(a28:FA K "counts_of" KZ)(a29:FA K "_law_next" Hu)(a30:FA K "_law_same" ET)(a31:FA K "_law_refused" K0)(a32:FA K "_law_word" Hv)(a33:FA K "_law_counts" Ka)(a34:FA K "_law_counted" X9)(a35:FA K "_law_page" Hx)(a36:FA K "law" SX)(a37:FM K C11 "__init__" "Machine.__init__" Jh)(m37:makesIn K C11=true)(q37:keepIn K (.ref C11)=true)(a38:FM K C12 "__init__" "Walk.__init__" JU)(m38:makesIn K C12=true)(q38:keepIn K (.ref C12)=true)(a39:FM K C12 "is_on_mark" "Walk.is_on_mark" Ji)(w12:OR K C12=true)(a40:FM K C12 "entry" "Walk.entry" V3)(a41:FM K C12 "write" "Walk.write" V4)(a42:FM K C12 "go_right" "Walk.go_right" J9)(a43:FM K C12 "go_left" "Walk.go_left" XN)(a44:FM K C12 "stepped" "Walk.stepped" XQ)(a45:FM K C12 "run" "Walk.run" CO)(a46:FM K C12 "shot" "Walk.shot" KP)(a47:FM K C14 "__init__" "Grams.__init__" V9)(m47:makesIn K C14=true)(q47:keepIn K (.ref C14)=true)(a48:FM K C14 "beginning" "Grams.beginning" Jk)(w14:OR K C14=true)(a49:FM K C14 "has" "Grams.has" KS)(a50:FM K C14 "put_in" "Grams.put_in" XT)(a51:FM K C14 "in_order" "Grams.in_order" JC)(a52:FM K C15 "ask_for" "Gathering.ask_for" YB)(w15:OR K C15=true)(a53:FM K C15 "__init__" "Gathering.__init__" JD)(m53:makesIn K C15=true)(q53:keepIn K (.ref C15)=true)(a54:FM K C15 "put_gram" "Gathering.put_gram" Yg)(a55:FM K C15 "went_on" "Gathering.went_on" YC)(a56:FM K C15 "paper" "Gathering.paper" Jm)(a57:nsIn K mainGlobals "shown"=some (some (.ref f57)))(l57:K.lookup f57=some ⟨oc57,od57,.func (fnOf "shown" "shown" (ZY BY) (ZB BY) (Qg BY) (.ref dt57) kV57 dc57 pm57 an57 cd57 ct57),sl57⟩)(y57:K.lookup dt57=some ⟨de57,dd57,.seq #[.int 2 dk57] dn57,ds57⟩)(d57:codeIn K cd57 "shown"=true)(k57:keepIn K (.ref f57)=true)(nz_ValueError:nsIn K mainGlobals "ValueError"=some none)(nz_all:nsIn K mainGlobals "all"=some none)(nz_bool:nsIn K mainGlobals "bool"=some none)(nz_dict:nsIn K mainGlobals "dict"=some none)(nz_enumerate:nsIn K mainGlobals "enumerate"=some none)(nz_int:nsIn K mainGlobals "int"=some none)(nz_isinstance:nsIn K mainGlobals "isinstance"=some none)(nz_len:nsIn K mainGlobals "len"=some none)(nz_list:nsIn K mainGlobals "list"=some none)(nz_max:nsIn K mainGlobals "max"=some none)(nz_min:nsIn K mainGlobals "min"=some none)(nz_range:nsIn K mainGlobals "range"=some none)(nz_reversed:nsIn K mainGlobals "reversed"=some none)(nz_sorted:nsIn K mainGlobals "sorted"=some none)(nz_str:nsIn K mainGlobals "str"=some none)(nz_tuple:nsIn K mainGlobals "tuple"=some none)(nz_zip:nsIn K mainGlobals "zip"=some none)(ng_BLANK:nsIn K mainGlobals "BLANK"=some (some (.int 0 og_BLANK)))(ng_FIRST_SHOT:nsIn K mainGlobals "FIRST_SHOT"=some (some (.ref og_FIRST_SHOT)))(mg_FIRST_SHOT:gB K 9 (.ref og_FIRST_SHOT) (.tup [(.int 0),(.int 0),(.tup [])])=true)(ng_LEFT:nsIn K mainGlobals "LEFT"=some (some (.str "l" og_LEFT)))(ng_MOST_CONTEXTS:nsIn K mainGlobals "MOST_CONTEXTS"=some (some (.int 200 og_MOST_CONTEXTS)))(ng_NEVER:nsIn K mainGlobals "NEVER"=some (some (.str "never" og_NEVER)))(ng_RIGHT:nsIn K mainGlobals "RIGHT"=some (some (.str "r" og_RIGHT)))(ng_SAME:nsIn K mainGlobals "SAME"=some (some (.str "same" og_SAME)))(ng_SHIFTED:nsIn K mainGlobals "SHIFTED"=some (some (.str "shifted" og_SHIFTED)))(ng_STOPS:nsIn K mainGlobals "STOPS"=some (some (.str "stops" og_STOPS)))(ng_UNKNOWN:nsIn K mainGlobals "UNKNOWN"=some (some (.str "open" og_UNKNOWN)))(ng_WALL:nsIn K mainGlobals "WALL"=some (some (.str "wall" og_WALL)))(nt_TapeError:mJ K (Xf [C0,C1,C2,C3,C4,0,C6,C7,0,C9,C10,C11,C12,0,C14,C15]) C0 [0,1,2,3,4,6,7,9,10] []=true)(nx_NoMachine:GI K (Xf [C0,C1,C2,C3,C4,0,C6,C7,0,C9,C10,C11,C12,0,C14,C15]) (.ref C1) [0,1,2,3,4,6,7,9,10] [1]=true)(nx_NoNames:GI K (Xf [C0,C1,C2,C3,C4,0,C6,C7,0,C9,C10,C11,C12,0,C14,C15]) (.ref C2) [0,1,2,3,4,6,7,9,10] [2]=true)(nx_NoNumber:GI K (Xf [C0,C1,C2,C3,C4,0,C6,C7,0,C9,C10,C11,C12,0,C14,C15]) (.ref C3) [0,1,2,3,4,6,7,9,10] [3]=true)(nx_NoShape:GI K (Xf [C0,C1,C2,C3,C4,0,C6,C7,0,C9,C10,C11,C12,0,C14,C15]) (.ref C7) [0,1,2,3,4,6,7,9,10] [7]=true)(nx_NoShot:GI K (Xf [C0,C1,C2,C3,C4,0,C6,C7,0,C9,C10,C11,C12,0,C14,C15]) (.ref C4) [0,1,2,3,4,6,7,9,10] [4]=true)(nx_NoText:GI K (Xf [C0,C1,C2,C3,C4,0,C6,C7,0,C9,C10,C11,C12,0,C14,C15]) (.ref C10) [0,1,2,3,4,6,7,9,10] [10]=true)(nx_NoWidth:GI K (Xf [C0,C1,C2,C3,C4,0,C6,C7,0,C9,C10,C11,C12,0,C14,C15]) (.ref C9) [0,1,2,3,4,6,7,9,10] [9]=true)(nx_TooLong:GI K (Xf [C0,C1,C2,C3,C4,0,C6,C7,0,C9,C10,C11,C12,0,C14,C15]) (.ref C6) [0,1,2,3,4,6,7,9,10] [6]=true)(nx_ValueError:GI K (Xf [C0,C1,C2,C3,C4,0,C6,C7,0,C9,C10,C11,C12,0,C14,C15]) (.type "ValueError") [0,1,2,3,4,6,7,9,10] [0,1,2,3,4,6,7,9,10]=true)(ne_NoNumber:excIn K C3 sI "ValueError.__new__"=true)(na_asking:Fa K (Xf [C0,C1,C2,C3,C4,0,C6,C7,0,C9,C10,C11,C12,0,C14,C15]) [15] "asking"=true)(na_by_seen:Fa K (Xf [C0,C1,C2,C3,C4,0,C6,C7,0,C9,C10,C11,C12,0,C14,C15]) [14] "by_seen"=true)(na_contexts:Fa K (Xf [C0,C1,C2,C3,C4,0,C6,C7,0,C9,C10,C11,C12,0,C14,C15]) [15] "contexts"=true)(na_left_marks:Fa K (Xf [C0,C1,C2,C3,C4,0,C6,C7,0,C9,C10,C11,C12,0,C14,C15]) [12] "left_marks"=true)(na_machine:Fa K (Xf [C0,C1,C2,C3,C4,0,C6,C7,0,C9,C10,C11,C12,0,C14,C15]) [15] "machine"=true)(na_pending:Fa K (Xf [C0,C1,C2,C3,C4,0,C6,C7,0,C9,C10,C11,C12,0,C14,C15]) [15] "pending"=true)(na_place:Fa K (Xf [C0,C1,C2,C3,C4,0,C6,C7,0,C9,C10,C11,C12,0,C14,C15]) [12] "place"=true)(na_right_marks:Fa K (Xf [C0,C1,C2,C3,C4,0,C6,C7,0,C9,C10,C11,C12,0,C14,C15]) [12] "right_marks"=true)(na_sides:Fa K (Xf [C0,C1,C2,C3,C4,0,C6,C7,0,C9,C10,C11,C12,0,C14,C15]) [15] "sides"=true)(na_state:Fa K (Xf [C0,C1,C2,C3,C4,0,C6,C7,0,C9,C10,C11,C12,0,C14,C15]) [12] "state"=true)(na_table:Fa K (Xf [C0,C1,C2,C3,C4,0,C6,C7,0,C9,C10,C11,C12,0,C14,C15]) [11,12] "table"=true):Zk K mg (Xf [C0,C1,C2,C3,C4,0,C6,C7,0,C9,C10,C11,C12,0,C14,C15]):=⟨UJ X G nz_ValueError,UJ X G nz_all,UJ X G nz_bool,UJ X G nz_dict,UJ X G nz_enumerate,UJ X G nz_int,UJ X G nz_isinstance,UJ X G nz_len,UJ X G nz_list,UJ X G nz_max,UJ X G nz_min,UJ X G nz_range,UJ X G nz_reversed,UJ X G nz_sorted,UJ X G nz_str,UJ X G nz_tuple,UJ X G nz_zip,⟨_,UN X G ng_BLANK⟩,(aM 9 _ _ mg_FIRST_SHOT).elim λv h=>⟨_,v,UN X G ng_FIRST_SHOT,h.1,h.2⟩,⟨_,UN X G ng_LEFT⟩,⟨_,UN X G ng_MOST_CONTEXTS⟩,⟨_,UN X G ng_NEVER⟩,⟨_,UN X G ng_RIGHT⟩,⟨_,UN X G ng_SAME⟩,⟨_,UN X G ng_SHIFTED⟩,⟨_,UN X G ng_STOPS⟩,⟨_,UN X G ng_UNKNOWN⟩,⟨_,UN X G ng_WALL⟩,⟨UN X G c0,mK nt_TapeError⟩,⟨UN X G c1,VI nx_NoMachine⟩,⟨UN X G c2,VI nx_NoNames⟩,⟨UN X G c3,VI nx_NoNumber⟩,⟨UN X G c7,VI nx_NoShape⟩,⟨UN X G c4,VI nx_NoShot⟩,⟨UN X G c10,VI nx_NoText⟩,⟨UN X G c9,VI nx_NoWidth⟩,⟨UN X G c6,VI nx_TooLong⟩,⟨HL,VI nx_ValueError⟩,⟨UN X G c3,ne_NoNumber⟩,XB na_asking,XB na_by_seen,XB na_contexts,XB na_left_marks,XB na_machine,XB na_pending,XB na_place,XB na_right_marks,XB na_sides,XB na_state,XB na_table,a1.u X G,a2.u X G,a3.u X G,a4.u X G,a5.u X G,a37.i X G m37 q37 c11,a38.i X G m38 q38 c12,a39.m w12,a40.m w12,a41.m w12,a42.m w12,a43.m w12,a44.m w12,a45.m w12,a46.m w12,a6.u X G,a7.u X G,a8.u X G,a9.u X G,a10.u X G,a11.u X G,a12.u X G,a13.u X G,a14.u X G,a15.u X G,a16.u X G,a17.u X G,a18.u X G,a19.u X G,a20.u X G,a21.u X G,a47.i X G m47 q47 c14,a48.m w14,a49.m w14,a50.m w14,a51.m w14,a22.u X G,a52.m w15,a53.i X G m53 q53 c15,a54.m w15,a55.m w15,a56.m w15,a23.u X G,a24.u X G,a25.u X G,⟨f57,_,gR (st:=BY) l57 d57 k57 y57,UN X G a57⟩,a26.u X G,a27.u X G,a28.u X G,a29.u X G,a30.u X G,a31.u X G,a32.u X G,a33.u X G,a34.u X G,a35.u X G,a36.u X G⟩
theorem walk{l:PySem.W.OpenLaw}{p:Program}{loose:List Str}{XP:Vb->Heap->Prop}{YP:World->Heap->Prop}{d:DefRec}{K:Params->Frag}(C:List Nat)(hn:l.most=some 63)(hdf:d.params.defaults=[])(hd:d.name ="law")(hY:∀(w:World) (h:Heap),YP w h->(K w.params).In h)(F:∀(w:World) (mg:Vb) (h:Heap),(K w.params).In h->h.Ns mainGlobals mg->Zk (K w.params) mg (Xf C))(M:∀ns:List Int,ns.length<=63->∃g',Sy [.fl (ns.map D.int)] []=.ok (.bl true) g'):PySem.W.WalkO p loose XP YP l.row.toRowW d [] (λf vs=>PySem.call f vs):=by
 refine L2.walk_of (n:=63) (k:=13) (x:="_law_script") (CX:=λw=>Ms l.prog w (Xf C)) (sp:=λw=>OK (K w.params) (Xf C) 1 Sy) hn (by decide) hdf ⟨rfl,by decide,by decide⟩ hY (λw mg fa h KX G hmg=>?_) (λw H a ns hl hO hS=>mL hO hS (M ns hl)) (λw H s e s' z=>?_)
 ·have Z:=F w mg h KX G;obtain⟨f,fd,Fu,hm⟩:=Z.u56;rw[hd]at hmg;have e:=hmg.symm.trans hm;cases e;refine⟨fd,λs u=>?_,λbase _ _=>oJ Z Fu⟩;obtain⟨oc,od,kV,doc,pm,an,cdv,ct,osl,rfl,lk,hcd⟩:=Fu.ex;exact .of_eq rfl
 ·obtain⟨_,_,_,_,_,_,_,_,_,_,z⟩:=z;exact z
end V
namespace V
open PySem PySem.W PySem.W.X PySem.Spec PyProof.Rows
theorem walkX_of{as:List Addr}{K:Params->Frag}{n t:Nat}{q:Program}{loose:List Str}{XP:Vb->Heap->Prop}{r:RowW}{d:DefRec}{kwd:List (Str×PySem.Expr)}{run:Value->List Value->Sem Value}(e:∀P,as=(K P).map (·.1))(h:WalkO q loose XP (InK K) r d kwd run):WalkX q loose XP (obsZ as) (valZ K n t) r d kwd run:=λw s₀ s₁ mg mb G y a o pm cd doc dV kV h1 h2 h3 h4 h5 h6 args vals as' L p1 p2 p3 p4 p5=>
  h w s₀ s₁ mg mb G (InK.keeps w _ _ (z_facts e y).2.1 L.keeps) a o pm cd doc dV kV h1 h2 h3 h4 h5 h6 args vals as' p1 p2 p3 p4 p5
end V
noncomputable def PySem.W.Fast.tw6369067264392985897 : PySem.Program := PySem.Challenge.pw_tapeproof_k62_page
theorem PySem.W.Fast.te6369067264392985897 : PySem.Challenge.pw_tapeproof_k62_page=PySem.W.Fast.tw6369067264392985897 := rfl
namespace PySem.W.Fast
def tw4331237474562115239:=()
def tw8570443549356611444:=()
def tw17284101525887427210:=()
def tw6756076810524746798:=()
def tw13524998156178212430:=()
def tw16356335781063246814:=()
def tw2728388991326788217:=()
def tw2520230540491159080:=()
def tw9364099278968188112:=()
def tw5170964877428228029:=()
def tw11856045910562376112:=()
def tw11591868825857643687:=()
def tw10594660720351276633:=()
def tw9763713838491284033:=()
def tw15482004669175299298:=()
def tw1704341530669062592:=()
def tw2601538841532997383:=()
def tw13253606939835462841:=()
def tw4395467283357137076:=()
def tw14749001364504979320:=()
def tw8171834555641867732:=()
def tw12671725369935099197:=()
def tw8439832570417929072:=()
def tw3162546288768005803:=()
def tw12183197234115664573:=()
def tw12561872129542335366:=()
def tw8428075909796824370:=()
def tw5092136400603310904:=()
def tw9652683315059588687:=()
def tw10180291739853725227:=()
def tw13848527021676087773:=()
def tw3987316570390265772:=()
def tw2131017159774848057:=()
def tw4443594816399258223:=()
def tw10010319354305047270:=()
def tw15999875174345269939:=()
def tw4267752175963568992:=()
def tw14848605799437894665:=()
def tw6406747631542618850:=()
def tw11945533568375630154:=()
def tw2534618987284867415:=()
def tw11375253690205459344:=()
def tw3675374237797376230:=()
def tw9377528328155505327:=()
def tw17963722069831276511:=()
def tw10525279594935972395:=()
def tw16094509398116216322:=()
def tw8003702738617942603:=()
def tw16586321740140352061:=()
def tw1611300925279415280:=()
def tw2499535085212732507:=()
def tw6649537284161045788:=()
def tw8311004876546689791:=()
def tw15147189897703324118:=()
def tw4548053265488355669:=()
def tw15593275532767370774:=()
def tw3507801939877169916:=()
def tw12151194006670055452:=()
def tw835579233543120204:=()
def tw1138799657022514066:=()
def tw15360984942588178139:=()
def tw9333988964958078444:=()
def tw5551526623460651802:=()
def tw13886090922845588383:=()
def tw12841502242207888922:=()
def tw3406839334680519510:=()
def tw4904093443973866341:=()
def tw4672233834763655728:=()
def tw15050880666955710658:=()
def tw9847250051827465852:=()
def tw4536511054642218902:=()
def tw5011252484258079789:=()
def tw16651481278842822364:=()
def tw14755618721018999269:=()
def tw8988147037184519764:=()
def tw1567210541359816365:=()
def tw1885671934273728734:=()
def tw5443438880244347320:=()
def tw15514766315093138279:=()
def tw3653366562002225290:=()
def tw15169949699905671114:=()
def tw17398224776379573204:=()
def tw4139182665492202398:=()
def tw13826602416686221555:=()
def tw507564182265016357:=()
def tw13699917172974912749:=()
def tw5340625543220766353:=()
def tw14058459727553528267:=()
def tw14470160380090735661:=()
def tw10344299194162689474:=()
def tw8364880369862312659:=()
def tw3255644743992875772:=()
def tw5521343343326377912:=()
def tw8672023552126058182:=()
def tw5765555356360778164:=()
def tw16116481927464749176:=()
def tw7844408396732978252:=()
def tw10191828057400475494:=()
def tw17281833465501907152:=()
def tw1320238007709479371:=()
def tw6428009910117717305:=()
def tw4785086798741665279:=()
def tw10735327549315068534:=()
def tw4077697848505248907:=()
def tw3117911831102691979:=()
def tw9067863546438890952:=()
def tw4209860397906325569:=()
def tw10931369571162468608:=()
def tw8428379316667425153:=()
def tw1237642978830419093:=()
def tw1218977219093904173:=()
def tw4608120364413380561:=()
def tw13779568583732860829:=()
def tw1126556658487776337:=()
def tw2812828328967663045:=()
def tw1287814150841646074:=()
def tw3359468111835993125:=()
def tw13194894763389422511:=()
def tw14529886630618669962:=()
def tw6399196151740173996:=()
def tw3819928867258405688:=()
def tw14924549746916119612:=()
def tw16946322211348772566:=()
def tw154596803608318488:=()
def tw15228380466305086944:=()
def tw9977405580588311185:=()
def tw16801991005799863137:=()
def tw15038244300851433775:=()
def tw902784565768509511:=()
def tw10073667978140750730:=()
def tw17629109000503302220:=()
def tw13983224930887130194:=()
def tw5159026112255231952:=()
def tw13997012295889425202:=()
def tw16270876876125406342:=()
def tw12711598493438209665:=()
def tw527839654494927394:=()
def tw14113898992554261247:=()
def tw3196666327939993030:=()
def tw14230568526829667170:=()
def tw3228377299094295482:=()
def tw3681673700128714901:=()
def tw11526164093844442107:=()
def tw14900958989713231208:=()
def tw2864025207058413714:=()
def tw9423005682907096462:=()
def tw3204636398857055444:=()
def tw9063619698230508979:=()
def tw9237546178305638187:=()
def tw11756207998889104450:=()
def tw2517394310045691966:=()
def tw14355420499302261288:=()
def tw8451141476945972528:=()
def tw14443117218770885222:=()
def tw4893850439508910670:=()
def tw4912111855848650984:=()
def tw15615654783199837856:=()
def tw3524731882819622601:=()
def tw9133499193857123562:=()
def tw968823987254768169:=()
def tw7644097342657777409:=()
def tw18303462547188921693:=()
def tw960898971338250818:=()
def tw5618296513817644294:=()
def tw7993236441930922903:=()
def tw11543049580388357412:=()
def tw1233667864999573848:=()
def tw5330138453902582969:=()
def tw12678634744541712379:=()
def tw18351722399900091877:=()
def tw7446316803868361909:=()
def tw7447844649904790589:=()
def tw5315834545832674838:=()
def tw12838428083441700535:=()
def tw8941545188214146369:=()
def tw15047224056906224833:=()
def tw15811880301478269775:=()
def tw1938390599419903826:=()
end PySem.W.Fast
open PySem PySem.W PyProof.Rows
set_option maxRecDepth 100000 in
set_option maxHeartbeats 0 in
theorem PySem.Challenge.cw_tapeproof_k62_page_holds : PySem.Challenge.rw_tapeproof_k62_page.Holds := by
  w_on; o_law; z_head; (case hw=>w_witness2)
  k_fill
  refine V.walkX_of (fun P=>?E) (V.walk (l:=PySem.Challenge.rw_tapeproof_k62_page) [24,37,49,61,73,0,85,97,0,109,128,178,255,0,410,466] rfl rfl rfl (fun w h Y=>Y) ?F L3.law_true)
  case E=>kernel_rfl
  case F =>
    intro w mg h KX G
    refine' V.z_mk KX G ?_ ?_ ?_ ?_ ?_ ?_ ?_ ?_ ?_ ?_ ?_ ?_ ?_ ?_ ?_ ?_ ?_ ?_ ?_ ?_ ?_ ?_ ?_ ?_ ?_ ?_ ?_ ?_ ?_ ?_ ?_ ?_ ?_ ?_ ?_ ?_ ?_ ?_ ?_ ?_ ?_ ?_ ?_ ?_ ?_ ?_ ?_ ?_ ?_ ?_ ?_ ?_ ?_ ?_ ?_ ?_ ?_ ?_ ?_ ?_ ?_ ?_ ?_ ?_ ?_ ?_ ?_ ?_ ?_ ?_ ?_ ?_ ?_ ?_ ?_ ?_ ?_ ?_ ?_ ?_ ?_ ?_ ?_ ?_ ?_ ?_ ?_ ?_ ?_ ?_ ?_ ?_ ?_ ?_ ?_ ?_ ?_ ?_ ?_ ?_ ?_ ?_ ?_ ?_ ?_ ?_ ?_ ?_ ?_ ?_ ?_ ?_ ?_ ?_ ?_ ?_ ?_ ?_ ?_ ?_ ?_ ?_ ?_ ?_ ?_ ?_ ?_ ?_ ?_ ?_ ?_ ?_ ?_ ?_ ?_ ?_
    rotate_right 136
    iterate 13 (focus k_is)
    iterate 36 (focus (refine' V.fa_mk ?_ ?_ ?_ ?_; rotate_right 4; iterate 4 focus k_is))
    iterate 1 (focus (refine' V.fm_mk ?_ ?_ ?_ ?_ ?_; rotate_right 5; iterate 5 focus k_is))
    iterate 2 (focus k_is)
    iterate 1 (focus (refine' V.fm_mk ?_ ?_ ?_ ?_ ?_; rotate_right 5; iterate 5 focus k_is))
    iterate 2 (focus k_is)
    iterate 1 (focus (refine' V.fm_mk ?_ ?_ ?_ ?_ ?_; rotate_right 5; iterate 5 focus k_is))
    iterate 1 (focus kernel_rfl)
    iterate 8 (focus (refine' V.fm_mk ?_ ?_ ?_ ?_ ?_; rotate_right 5; iterate 5 focus k_is))
    iterate 2 (focus k_is)
    iterate 1 (focus (refine' V.fm_mk ?_ ?_ ?_ ?_ ?_; rotate_right 5; iterate 5 focus k_is))
    iterate 1 (focus kernel_rfl)
    iterate 4 (focus (refine' V.fm_mk ?_ ?_ ?_ ?_ ?_; rotate_right 5; iterate 5 focus k_is))
    iterate 1 (focus kernel_rfl)
    iterate 1 (focus (refine' V.fm_mk ?_ ?_ ?_ ?_ ?_; rotate_right 5; iterate 5 focus k_is))
    iterate 2 (focus k_is)
    iterate 3 (focus (refine' V.fm_mk ?_ ?_ ?_ ?_ ?_; rotate_right 5; iterate 5 focus k_is))
    iterate 24 (focus k_is)
    iterate 1 (focus kernel_rfl)
    iterate 9 (focus k_is)
    iterate 10 (focus kernel_rfl)
    iterate 1 (focus k_exc)
    iterate 11 (focus kernel_rfl)
